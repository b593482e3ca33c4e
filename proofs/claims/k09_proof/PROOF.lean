import PyProof.Rows.All
import Wide.All
import OpenK.AllK
import Wide.FinOn
import PyProof.EqAt
import PyProof.EqKinds
import PyProof.TupleCall
import Lean
import PySem.Challenge.RW_findhall_k09_whole_poured
noncomputable section
set_option Elab.async false
set_option linter.all false
set_option maxRecDepth 100000
set_option maxHeartbeats 4000000
namespace H09
open PySem PySem.W PyProof.Rows
abbrev pQ : Program := PySem.Challenge.pw_findhall_k09_whole_poured
def vQ : Program := PySem.W.view pQ [0, 2, 3, 4, 5, 6, 7, 8, 9, 10, 12, 13, 14, 15, 16, 17, 18, 19, 20, 21, 22, 25, 26, 27, 28, 29, 30, 32, 33, 34, 35, 36, 37, 38, 40, 42, 43, 44, 45, 46, 48, 49, 50, 51, 52, 53, 55, 56, 59, 60, 61, 62, 63, 64, 65, 66, 67, 68, 69, 70, 71, 72, 73, 74, 75, 76, 77, 78, 79]
def lQ : List Str := [Str.ofString "need_number", Str.ofString "poured"]
def xQ (s : Shared) : Bool := xlAt vQ [] s && recOk (RowW.records PySem.Challenge.rw_findhall_k09_whole_poured.row.toRowW) s
def sQ (w : World) (os : OsState) : Shared := ⟨boot_heap w.params, Array.mk [], boot_drawn, boot_toks, os⟩
def topRunT (tb : String -> Option Builtin) (p : Program) (w : World) (n₀ : Nat) (ann : Option Value) : Nat -> SharedT -> Thread -> Option SharedT
 | 0, _, _ => none
 | n + 1, s, t => match through t with
  | true => some s
  | false => match stepOk n₀ ann t with
   | false => none
   | true => match stepT (denote tb) p w s t with
    | some (s', t') => topRunT tb p w n₀ ann n s' t'
    | none => none
theorem topRun_of {tb : String -> Option Builtin} {p : Program} {w : World} {n₀ : Nat} {ann : Option Value} : ∀ {n : Nat} {s s' : SharedT} {t : Thread}, topRunT tb p w n₀ ann n s t = some s' -> topRun tb p w n₀ ann n s.abs t = some s'.abs
 | 0, _, _, _, h => by cases h
 | n + 1, s, s', t, h => by
  unfold topRunT at h
  unfold topRun
  cases he : through t with
  | true => rw [he] at h; cases h; rfl
  | false =>
   rw [he] at h
   cases hk : stepOk n₀ ann t with
   | false => rw [hk] at h; cases h
   | true =>
    rw [hk] at h
    cases hs : stepT (denote tb) p w s t with
    | none => rw [hs] at h; cases h
    | some r => obtain ⟨s₂, t₂⟩ := r; rw [hs] at h; rw [stepT_spec hs]; exact topRun_of h
def buildT : List Obj -> BT -> Nat -> Option BT
 | [], t, _ => some t
 | o :: r, t, n => match ((t.ins n o).get n).isSome with
  | true => buildT r (t.ins n o) (n + 1)
  | false => none
theorem build_of : ∀ {l : List Obj} {t t' : BT} {n : Nat} (life : Life), buildT l t n = some t' -> absHeap t' (n + l.length) life = ⟨(absHeap t n life).objs ++ l.toArray, life⟩
 | [], t, t', n, life, h => by
  cases h
  show absHeap t n life = _
  unfold absHeap
  simp
 | o :: r, t, t', n, life, h => by
  unfold buildT at h
  cases hs : ((t.ins n o).get n).isSome with
  | false => rw [hs] at h; cases h
  | true =>
   rw [hs] at h
   have e := build_of life h
   rw [show n + (o :: r).length = n + 1 + r.length by rw [List.length_cons]; omega, e, absHeap_ins hs]
   show Heap.mk _ _ = Heap.mk _ _
   congr 1
   show (absHeap t n life).objs.push o ++ r.toArray = (absHeap t n life).objs ++ (o :: r).toArray
   apply Array.ext'
   simp
def annQ (w : World) (os : OsState) : Option Value := (sQ w os).heap.nsMap mainGlobals (Str.ofString "__annotations__")
def topQ (w : World) (os : OsState) : Option Shared := match buildT (boot_heap w.params).objs.toList .nil 0 with
 | none => none
 | some t => (topRunT treeTable pQ w (boot_heap w.params).objs.size (annQ w os) 20000 ⟨t, (boot_heap w.params).objs.size, (boot_heap w.params).life, Array.mk [], boot_drawn, boot_toks, os⟩ (topStub pQ)).map SharedT.abs
theorem topQ_run {w : World} {os : OsState} {s : Shared} (h : topQ w os = some s) : topRun treeTable pQ w (sQ w os).heap.objs.size ((sQ w os).heap.nsMap mainGlobals (Str.ofString "__annotations__")) 20000 (sQ w os) (topStub pQ) = some s := by
 unfold topQ at h
 cases hb : buildT (boot_heap w.params).objs.toList .nil 0 with
 | none => rw [hb] at h; cases h
 | some t =>
  rw [hb] at h
  obtain ⟨x, hx, e⟩ := Option.map_eq_some_iff.mp h
  have q := topRun_of hx
  have a : absHeap t (boot_heap w.params).objs.size (boot_heap w.params).life = boot_heap w.params := by
   have := build_of (boot_heap w.params).life hb
   rw [Nat.zero_add, Array.length_toList] at this
   rw [this]
   show Heap.mk _ _ = _
   have e0 : (absHeap .nil 0 (boot_heap w.params).life).objs = #[] := by unfold absHeap BT.list; simp
   rw [e0]
   simp
  have es : SharedT.abs ⟨t, (boot_heap w.params).objs.size, (boot_heap w.params).life, Array.mk [], boot_drawn, boot_toks, os⟩ = sQ w os := by
   unfold SharedT.abs sQ
   rw [a]
  rw [es] at q
  rw [<- e]
  exact q
def okQ (h : Heap) (s : Shared) : Bool := staticsOk (importedModules pQ.main.body) h s.heap && namesBound pQ s.heap && gensDone s && laidKept h s.heap
def seenQ (s : Shared) := openSeen vQ lQ (importedModules pQ.main.body) xQ true s
def goodQ := openGood vQ lQ
def ok9 (w : World) (os : OsState) (s : Shared) : Bool := okQ (boot_heap w.params) s && ((sQ w os).heap.isNs mainGlobals && (sQ w os).gens.size == 0)
def seenA (s : Shared) := (fun x => (x.1, x.2.1, x.2.2.1, x.2.2.2.1, x.2.2.2.2.1, x.2.2.2.2.2.1, x.2.2.2.2.2.2.1, x.2.2.2.2.2.2.2.1, x.2.2.2.2.2.2.2.2)) (seenQ s)
def goodA := (true, (fun x => (x.1, x.2.1, x.2.2.1, x.2.2.2.1, x.2.2.2.2.1, x.2.2.2.2.2.1, x.2.2.2.2.2.2.1, x.2.2.2.2.2.2.2.1, x.2.2.2.2.2.2.2.2)) goodQ)
def runA (w : World) (os : OsState) := (topQ w os).map fun s => (ok9 w os s, seenA s)
def runK (as : List Nat) (w : World) (os : OsState) := (topQ w os).map fun s => as.map s.heap.get?
noncomputable def _root_.PySem.W.Fast.tw14598715356260435866 := PySem.W.boot_o_0
theorem _root_.PySem.W.Fast.te14598715356260435866 : PySem.W.boot_o_0 = PySem.W.Fast.tw14598715356260435866 := rfl
noncomputable def _root_.PySem.W.Fast.tw3765769393393343784 := PySem.Challenge.pw_findhall_k09_whole_poured
theorem _root_.PySem.W.Fast.te3765769393393343784 : PySem.Challenge.pw_findhall_k09_whole_poured = PySem.W.Fast.tw3765769393393343784 := rfl
lay_quick runA goodA
theorem hA : ∀ w os, PySem.W.Fast.tw9906680542413578068 w os = some PySem.W.Fast.tw3244371959935420428 := fun w os => by kernel_rfl
lay_quick runK
theorem rA (w : World) (os : OsState) : runA w os = some goodA := by rw [PySem.W.Fast.te9906680542413578068, PySem.W.Fast.te3244371959935420428]; exact hA w os
theorem topFrom_some {tb : String -> Option Builtin} {p : Program} {w : World} {N : Nat} {s0 s : Shared} (h1 : (s0.heap.isNs mainGlobals && s0.gens.size == 0) = true) (h2 : topRun tb p w s0.heap.objs.size (s0.heap.nsMap mainGlobals (Str.ofString "__annotations__")) N s0 (topStub p) = some s)
  (h3 : (staticsOk (importedModules p.main.body) s0.heap s.heap && namesBound p s.heap && gensDone s && laidKept s0.heap s.heap) = true) : topFrom tb p w N s0 = some s := by
 unfold topFrom
 rw [h1]
 dsimp only
 rw [h2]
 dsimp only [Option.bind]
 rw [h3]
theorem openEnds_some {tb : String -> Option Builtin} {p : Program} {w : World} {N : Nat} {s0 s : Shared} (a : fencedOpening tb p w N = some s0) (b : topFrom tb p w N s0 = some s) : openEnds tb p w N = some s := by
 unfold openEnds
 rw [a]
 exact b
theorem map_at {α β : Type} {o : Option α} {s : α} {f : α -> β} {b : β} (h : o = some s) (e : o.map f = some b) : f s = b := by
 subst h
 exact Option.some.inj e
theorem map_some' {α β : Type} {o : Option α} {f : α -> β} {b : β} (e : o.map f = some b) : ∃ s, o = some s := by
 cases o with
 | none => cases e
 | some s => exact ⟨s, rfl⟩
theorem pair_of {α β σ : Type} {f : σ -> α} {g : σ -> β} {o : Option σ} {s : σ} {a : α} {b : β} (e : o = some s) (h1 : f s = a) (h2 : g s = b) : o.map (fun s => (f s, g s)) = some (a, b) := by
 subst e
 subst h1
 subst h2
 rfl
theorem sh_eq {s : Shared} {h : Heap} {g : Array GenState} {d : Drawn} {k : Nat} (a : s.heap = h) (b : s.gens = g) (c : s.drawn = d) (e : s.toks = k) : s = ⟨h, g, d, k, s.os⟩ := by
 cases s
 cases a
 cases b
 cases c
 cases e
 rfl
theorem opQ : opening pQ = plainProg pQ.main.scope.names := by kernel_rfl
theorem feQ (s : Shared) : fenceModules? pQ s = some s := by kernel_rfl
theorem seen_eq {s : Shared} (aA : seenA s = goodA.2) : seenQ s = goodQ :=
 Prod.ext (congrArg (fun y => y.1) aA) (Prod.ext (congrArg (fun y => y.2.1) aA) (Prod.ext (congrArg (fun y => y.2.2.1) aA) (Prod.ext (congrArg (fun y => y.2.2.2.1) aA) (Prod.ext (congrArg (fun y => y.2.2.2.2.1) aA) (Prod.ext (congrArg (fun y => y.2.2.2.2.2.1) aA) (Prod.ext (congrArg (fun y => y.2.2.2.2.2.2.1) aA) (Prod.ext (congrArg (fun y => y.2.2.2.2.2.2.2.1) aA) ((congrArg (fun y => y.2.2.2.2.2.2.2.2) aA)))))))))
theorem end_of {as : List Nat} {V : World -> List (Option Obj)} {w : World} {os : OsState} {s : Shared} (ht : topQ w os = some s) (hs0 : fencedOpening treeTable pQ w 20000 = some (sQ w os)) (e : runK as w os = some (V w)) :
  openEnds treeTable pQ w 20000 = some s /\ seenQ s = goodQ /\ as.map s.heap.get? = V w := by
 have d0 := map_at (f := fun (s : Shared) => (ok9 w os s, seenA s)) ht (rA w os)
 have d1 : ok9 w os s = true := congrArg (fun y => y.1) d0
 have dA : seenA s = goodA.2 := congrArg (fun y => y.2) d0
 obtain ⟨d2, d3⟩ := Bool.and_eq_true_iff.mp d1
 exact ⟨openEnds_some hs0 (topFrom_some d3 (topQ_run ht) d2), seen_eq dA , map_at (f := fun (s : Shared) => as.map s.heap.get?) ht e⟩
theorem hl_of {as : List Nat} {V : World -> List (Option Obj)} (h : ∀ w os, PySem.W.Fast.tw525257795670130533 as w os = some (V w)) : LeftO pQ vQ lQ xQ (fun s => as.map s.heap.get?) V 20000 := fun w => by
 obtain ⟨s0, hs0, hv⟩ := Option.map_eq_some_iff.mp (boot_open (p := pQ) (N := 20000) opQ rfl feQ w)
 have es : s0 = sQ w s0.os := sh_eq (congrArg (fun x => x.1) hv) (congrArg (fun x => x.2.1) hv) (congrArg (fun x => x.2.2.1) hv) (congrArg (fun x => x.2.2.2) hv)
 rw [es] at hs0
 obtain ⟨s, ht⟩ := map_some' (rA w s0.os)
 have e : runK as w s0.os = some (V w) := by rw [PySem.W.Fast.te525257795670130533]; exact h w s0.os
 obtain ⟨e1, e2, e3⟩ := end_of ht hs0 e
 exact pair_of (f := seenQ) (g := fun s => as.map s.heap.get?) (a := goodQ) e1 e2 e3
end H09
section
open PySem PySem.W PyProof.Rows
local macro_rules | `(tactic| o_head $H:term) => `(tactic|
 refine holds_open
  (q := H09.vQ) (loose := H09.lQ)
  (Xt := H09.xQ) (XP := XL H09.vQ [])
  (Yf := Hook.obs $H)
  (Ya := Hook.val $H) (YP := Hook.says $H)
  (N := 20000)
  (H09.hl_of fun w os => by kernel_rfl)
  (Hook.of $H) (Hook.keeps $H)
  (fun s e => xl_of s (Bool.and_eq_true_iff.mp e).1)
  XL.keeps rfl rfl rfl
  (fun s e => recFacts_of (Bool.and_eq_true_iff.mp e).2)
  rfl
  (by first | assumption | decide +kernel)
  (by decide +kernel)
  ⟨rfl, rfl, rfl, rfl, rfl, by decide +kernel⟩
  ?hw ?hc)
open_top H09.head for PySem.Challenge.rw_findhall_k09_whole_poured
end
namespace L2
open PySem PySem.Spec PyProof.Rows
theorem dk{p:Prop} [Decidable p] (h:decide p=true:=by kernel_rfl):p:=of_decide_eq_true h
abbrev Key:=Sum Int Str
def lD:Key->Value->Bool
 | .inl k,v=>Value.isInt k v
 | .inr x,v=>Value.isStrOf x v
def Cq(w:World):Key->Int
 | .inl k=>hashInt k
 | .inr x=>hashStr w x
theorem jI:∀{k:Key} {v:Value},lD k v=true->(∃ i t,k=Sum.inl i/\v=Value.int i t)\/(∃ x t,k=Sum.inr x/\v=Value.str x t)
 | .inl i,v,h=>by
  obtain⟨t,e⟩:=Value.isInt_shape (k:=i) (v:=v) h
  exact .inl ⟨i,t,rfl,e⟩
 | .inr x,v,h=>by
  obtain⟨t,e⟩:=Value.isStrOf_shape (x:=x) (v:=v) h
  exact .inr ⟨x,t,rfl,e⟩
theorem CP(i:Int)(t:Tok):lD (.inl i) (.int i t)=true:=by simp [lD,Value.isInt]
theorem BI(x:Str)(t:Tok):lD (.inr x) (.str x t)=true:=by simp [lD,Value.isStrOf]
theorem Cj(a b:Int):decide ((Sum.inl a:Key)=Sum.inl b)=(a == b):=by
 by_cases e:a=b
 ·subst e;simp
 ·have h:¬ (Sum.inl a:Key)=Sum.inl b:=fun q=>e (Sum.inl.inj q)
  rw [decide_eq_false h]
  exact(beq_eq_false_iff_ne.mpr e).symm
theorem C3(a b:Str):decide ((Sum.inr a:Key)=Sum.inr b)=decide (a=b):=by
 by_cases e:a=b
 ·subst e;simp
 ·have h:¬ (Sum.inr a:Key)=Sum.inr b:=fun q=>e (Sum.inr.inj q)
  rw [decide_eq_false h,decide_eq_false e]
theorem AZ(a:Int)(b:Str):decide ((Sum.inl a:Key)=Sum.inr b)=false:=decide_eq_false (fun q=>nomatch q)
theorem Az(a:Str)(b:Int):decide ((Sum.inr a:Key)=Sum.inl b)=false:=decide_eq_false (fun q=>nomatch q)
def g6(prog:Program)(w:World):PySem.KeyKind prog w Key where
 is:=lD
 hash:=Cq w
 inj:=fun v a b ha hb=>by
  rcases jI ha with ⟨i,t,rfl,rfl⟩ | ⟨x,t,rfl,rfl⟩
  ·rcases jI hb with ⟨j,u,rfl,e⟩ | ⟨y,u,rfl,e⟩
   ·injection e with e1 _;rw [e1]
   ·exact nomatch e
  ·rcases jI hb with ⟨j,u,rfl,e⟩ | ⟨y,u,rfl,e⟩
   ·exact nomatch e
   ·injection e with e1 _;rw [e1]
 byValue:=fun k v h=>by
  rcases jI h with ⟨i,t,rfl,rfl⟩ | ⟨x,t,rfl,rfl⟩<;>rfl
 pyHash:=fun I h=>by
  rcases jI I with ⟨i,t,rfl,rfl⟩ | ⟨x,t,rfl,rfl⟩
  ·exact wpAny_pyHash_int h
  ·exact wpAny_pyHash_str h
 eqBool:=fun J I h=>by
  rcases jI J with ⟨i,t,rfl,rfl⟩ | ⟨x,t,rfl,rfl⟩
  ·rcases jI I with ⟨j,u,rfl,rfl⟩ | ⟨y,u,rfl,rfl⟩
   ·rw [Cj] at h;exact wpAny_eqBool_int h
   ·rw [AZ] at h;exact SeqAt.EqAt.int_str i t y u _ _ _ _ h
  ·rcases jI I with ⟨j,u,rfl,rfl⟩ | ⟨y,u,rfl,rfl⟩
   ·rw [Az] at h;exact SeqAt.EqAt.str_int x t j u _ _ _ _ h
   ·rw [C3] at h;exact wpAny_eqBool_str h
 «strs»:=fun k x t v h=>by
  rcases jI h with ⟨i,u,rfl,e⟩ | ⟨y,u,rfl,e⟩
  ·exact nomatch e
  ·injection e with e1 _
   subst e1
   cases v<;>rfl
theorem z3(prog:Program)(w:World)(i:Int)(t:Tok):(g6 prog w).is (.inl i) (.int i t)=true:=CP i t
theorem CY(prog:Program)(w:World)(x:Str)(t:Tok):(g6 prog w).is (.inr x) (.str x t)=true:=BI x t
inductive V where
 | non | bl (b : Bool) | int (i : Int) | str (x : Str) | byt (b : Array UInt8) | flt (b : UInt64) | ref (a : Addr) | ty (n : String)
 deriving DecidableEq
def RelV:V->Value->Prop
 | .non,u=>u=Value.none
 | .bl b,u=>u=Value.bool b
 | .int i,u=>∃ t,u=Value.int i t
 | .str x,u=>∃ t,u=Value.str x t
 | .byt b,u=>∃ t,u=Value.bytes b t
 | .flt b,u=>∃ t,u=Value.float b t
 | .ref a,u=>u=Value.ref a
 | .ty n,u=>u=Value.type n
abbrev Vals:List V->List Value->Prop:=Paired RelV
theorem Vals.length {xs:List V}{us:List Value}(r:Vals xs us):xs.length=us.length:=Paired.length r
theorem Vals.get:∀{xs:List V} {us:List Value} {i:Nat} {x:V},Vals xs us->xs[i]? =some x->∃ u,us[i]? =some u/\RelV x u
 | _,_,_,_,.nil,e=>by simp at e
 | _,_,0,_,.cons r _,e=>by simp at e;subst e;exact⟨_,rfl,r⟩
 | _,_,i + 1,x,.cons _ t,e=>by
  obtain⟨u,h1,h2⟩:=Vals.get (i:=i) (x:=x) t (by simpa using e)
  exact⟨u,by simpa using h1,h2⟩
theorem Vals.set {x:V}{u:Value}(r:RelV x u):∀{xs:List V} {us:List Value} (i:Nat),Vals xs us->Vals (xs.set i x) (us.set i u)
 | _,_,_,.nil=> .nil
 | _,_,0,.cons _ t=> .cons r t
 | _,_,i + 1,.cons q t=> .cons q (Vals.set r i t)
theorem Vals.append:∀{xs ys:List V} {us ws:List Value},Vals xs us->Vals ys ws->Vals (xs++ys) (us++ws)
 | _,_,_,_,.nil,s=>s
 | _,_,_,_,.cons r t,s=> .cons r (Vals.append t s)
theorem Vals.take:∀{xs:List V} {us:List Value} (n:Nat),Vals xs us->Vals (xs.take n) (us.take n)
 | _,_,0,_=> .nil
 | _,_,_ + 1,.nil=> .nil
 | _,_,n + 1,.cons r t=> .cons r (Vals.take n t)
theorem Vals.drop:∀{xs:List V} {us:List Value} (n:Nat),Vals xs us->Vals (xs.drop n) (us.drop n)
 | _,_,0,r=>r
 | _,_,_ + 1,.nil=> .nil
 | _,_,n + 1,.cons _ t=>Vals.drop n t
def il:Option V->Option Value->Prop
 | some v,some u=>RelV v u
 | none,none=>True
 | _,_=>False
def KV{κ:Type}:List (κ×V)->List (κ×Value)->Prop:=Paired fun(p:κ×V) (q:κ×Value)=>p.1=q.1/\RelV p.2 q.2
def kV:Key->V
 | .inl i=> .int i
 | .inr x=> .str x
inductive HO where
 | lst (xs : List V)
 | tup (xs : List V)
 | dK (kvs : List (Key × V)) | dT (kvs : List (List Key × V))
 | set (S : Int -> Bool) (n : Nat)
 | ins (C dx : Addr) (fs : List (Str × V))
 | own (x : Addr)
 | xd (fs : List (Str × V))
 | met (f x : Addr)
 | rng (lo hi : Int)
 | frz (o : Obj) (u : HO)
 | tbl (ps : Array Value)
 | ext (φ : Heap -> Prop)
abbrev Hp:=Addr->Option HO
def upd(H:Hp)(a:Addr)(o:HO):Hp:=fun b=>if b=a then some o else H b
theorem d7{H:Hp}{a:Addr}{o:HO}:upd H a o a=some o:=by unfold upd;rw [if_pos rfl]
theorem eC{H:Hp}{a b:Addr}{o:HO}(h:b≠a):upd H a o b=H b:=by unfold upd;rw [if_neg h]
theorem ke{H:Hp}{a:Addr}{o u:HO}:upd (upd H a o) a u=upd H a u:=by
 funext b;unfold upd;split<;>rfl
theorem De{H:Hp}{a b:Addr}{o u:HO}(h:H a=some o)(h':H b=some u)(d:o≠u):a≠b:=by
 intro e;subst e;rw [h] at h';exact d (Option.some.inj h')
theorem fv{H:Hp}{a b:Addr}{o:HO}(h:H a=some o)(h':H b=none):a≠b:=by
 intro e;subst e;rw [h] at h';cases h'
section
variable (P : Program) (w : World)
def gk(H:Hp)(h:Heap)(a:Addr):HO->Prop
 | .lst xs=>xs.length<=sizeLine/\∃(I:List Value) (n:Nat),Vals xs I/\h.get? a=some {cls:= .type "list",data:= .seq I.toArray n}
 | .tup xs=>xs.length<=sizeLine/\∃ I:List Value,Vals xs I/\IsTup h a I.toArray
 | .dK kvs=>kvs.length<=sizeLine/\(a == sysModules)=false/\∃ vs,KV kvs vs/\h.DictOf (g6 P w) a vs
 | .dT kvs=>kvs.length<=sizeLine/\(a == sysModules)=false/\∃ xs:List (List Key×Addr×Value),
   Paired (fun(p:List Key×V) (q:List Key×Addr×Value)=>p.1=q.1/\H q.2.1=some (.tup (p.1.map kV))/\RelV p.2 q.2.2) kvs xs/\
   ∃ o es ep,h.get? a=some o/\o.ExactDict/\o.data= .dict es ep/\es.toList=xs.map (entryOfKey (tupleKind (g6 P w)))/\(xs.map (·.1)).Nodup
 | .set S n=>h.SetOf (intKind P w) a S n
 | .ins C dx fs=>H dx=some (.own a)/\fs.length<=1000/\dx≠a/\h.get? a=some (W.instObj C dx)/\
   ∃ mA,h.Ns1 dx mA/\(∀ f,il (fs.lookup f) (mA f))/\PySem.Within mA (fs.map (·.1))
 | .own _=>∃ o,h.get? a=some o
 | .xd fs=>∃ mA,h.Ns1 a mA/\∀ f,il (fs.lookup f) (mA f)
 | .rng lo hi=>∃ t u v,h.get? a=some {cls:= .type "range",data:= .fields #[.int lo t,.int hi u,.int 1 v]}
 | .frz o u=>h.get? a=some o/\gk H h a u
 | .tbl ps=>h.get? a=some {cls:= .none,data:= .fields ps}
 | .met f x=>h.get? a=some (W.methodObj (.ref f) (.ref x))
 | .ext J=>J h/\(∃ o,h.get? a=some o)/\∀ h1 h2:Heap,J h1->(∀ o,h1.get? a=some o->h2.get? a=some o)->J h2
def gi(H:Hp)(h:Heap):Prop:=∀ a o,H a=some o->gk P w H h a o
end
section
variable {P : Program} {w : World} {H H' : Hp} {h h' : Heap} {a : Addr} {o : HO}
theorem gk.lt (x:gk P w H h a o):a < h.objs.size:=by
 cases o with
 | lst xs=>obtain⟨_,_,_,_,e⟩:=x;exact Heap.lt_size e
 | tup xs=>obtain⟨_,_,_,p⟩:=x;exact p.lt
 | dK kvs=>obtain⟨_,_,_,_,o,_,_,e,_⟩:=x;exact Heap.lt_size e
 | dT kvs=>obtain⟨_,_,_,_,o,_,_,e,_⟩:=x;exact Heap.lt_size e
 | set S n=>obtain⟨o,_,_,_,e,_⟩:=x;exact Heap.lt_size e
 | ins C dx fs=>obtain⟨_,_,_,e,_⟩:=x;exact Heap.lt_size e
 | own y=>obtain⟨_,e⟩:=x;exact Heap.lt_size e
 | xd fs=>obtain⟨_,⟨_,_,_,e,_⟩,_⟩:=x;exact Heap.lt_size e
 | rng lo hi=>obtain⟨_,_,_,e⟩:=x;exact Heap.lt_size e
 | frz ob u=>obtain⟨e,_⟩:=x;exact Heap.lt_size e
 | tbl ps=>exact Heap.lt_size (show h.get? a=some _ from x)
 | met f y=>exact Heap.lt_size (show h.get? a=some _ from x)
 | ext I=>obtain⟨_,⟨_,e⟩,_⟩:=x;exact Heap.lt_size e
theorem Paired.mapP {α β:Type}{F G:α->β->Prop}:∀{l₁:List α} {l₂:List β},Paired F l₁ l₂->(∀ a b,F a b->G a b)->Paired G l₁ l₂
 | _,_,.nil,_=> .nil
 | _,_,.cons r t,f=> .cons (f _ _ r) (Paired.mapP t f)
theorem gk.stay (x:gk P w H h a o)(k:∀ b u,(b=a\/H b=some (.own a))->h.get? b=some u->h'.get? b=some u)
  (ho:∀ b,H b=some (.own a)->H' b=some (.own a))(ht:∀ b xs,H b=some (.tup xs)->H' b=some (.tup xs)):gk P w H' h' a o:=by
 induction o with
 | lst xs=>obtain⟨z,I,n,r,e⟩:=x;exact⟨z,I,n,r,k _ _ (.inl rfl) e⟩
 | tup xs=>obtain⟨z,I,r,ob,e,c⟩:=x;exact⟨z,I,r,ob,k _ _ (.inl rfl) e,c⟩
 | dK kvs=>obtain⟨z,y,vs,r,ob,es,ep,e,c⟩:=x;exact⟨z,y,vs,r,ob,es,ep,k _ _ (.inl rfl) e,c⟩
 | dT kvs=>
  obtain⟨z,y,xs,r,ob,es,ep,e,c⟩:=x
  exact⟨z,y,xs,Paired.mapP r fun p q z=>⟨z.1,ht _ _ z.2.1,z.2.2⟩,ob,es,ep,k _ _ (.inl rfl) e,c⟩
 | set S n=>obtain⟨ob,es,ep,t,e,c⟩:=x;exact⟨ob,es,ep,t,k _ _ (.inl rfl) e,c⟩
 | ins C dx fs=>
  obtain⟨d,z,ne,e,mA,⟨J,es,ep,U,c⟩,r⟩:=x
  exact⟨ho _ d,z,ne,k _ _ (.inl rfl) e,mA,⟨J,es,ep,k _ _ (.inr d) U,c⟩,r⟩
 | own y=>obtain⟨ob,e⟩:=x;exact⟨ob,k _ _ (.inl rfl) e⟩
 | xd fs=>obtain⟨mA,⟨J,es,ep,e,c⟩,r⟩:=x;exact⟨mA,⟨J,es,ep,k _ _ (.inl rfl) e,c⟩,r⟩
 | rng lo hi=>obtain⟨t,u,v,e⟩:=x;exact⟨t,u,v,k _ _ (.inl rfl) e⟩
 | frz ob u ih=>obtain⟨e,q⟩:=x;exact⟨k _ _ (.inl rfl) e,ih q⟩
 | tbl ps=>
  have e:h.get? a=some {cls:= .none,data:= .fields ps}:=x
  show h'.get? a=some {cls:= .none,data:= .fields ps}
  exact k a _ (.inl rfl) e
 | met f y=>
  have e:h.get? a=some (W.methodObj (.ref f) (.ref y)):=x
  show h'.get? a=some (W.methodObj (.ref f) (.ref y))
  exact k a _ (.inl rfl) e
 | ext φ=>obtain⟨p,⟨o,e⟩,st⟩:=x;exact⟨st _ _ p fun o q=>k _ _ (.inl rfl) q,⟨o,k _ _ (.inl rfl) e⟩,st⟩
theorem gi.lt (x:gi P w H h)(e:H a=some o):a < h.objs.size:=(x a o e).lt
theorem gi.fresh (x:gi P w H h)(e:h.objs.size<=a):H a=none:=by
 cases q:H a with
 | none=>rfl
 | some u=>exact absurd (Nat.lt_of_lt_of_le (x.lt q) e) (Nat.lt_irrefl _)
theorem gi.kept (x:gi P w H h)(k:∀ b u,h.get? b=some u->h'.get? b=some u):gi P w H h':=fun a o e=>
 (x a o e).stay (fun b u _ q=>k b u q) (fun _ q=>q) fun _ _ q=>q
theorem gi.laid (x:gi P w H h)(k:∀ b u,h.get? b=some u->h'.get? b=some u)(hp:h.objs.size<=a)(new:gk P w (upd H a o) h' a o):gi P w (upd H a o) h':=fun b u e=>by
 have hn:=x.fresh hp
 by_cases hb:b=a
 ·subst hb;rw [d7] at e;cases e;exact new
 ·rw [eC hb] at e
  exact(x b u e).stay (fun c v _ q=>k c v q) (fun c q=>by rw [eC (fv q hn)];exact q) fun c xs q=>by rw [eC (fv q hn)];exact q
end
def Rd(H:Hp)(a:Addr)(u:HO):Prop:=H a=some u\/∃ o,H a=some (.frz o u)
theorem Rd.ok {P:Program}{w:World}{H:Hp}{h:Heap}{a:Addr}{u:HO}(r:Rd H a u)(x:gi P w H h):gk P w H h a u:=by
 rcases r with r | ⟨o,r⟩
 ·exact x a u r
 ·obtain⟨_,q⟩:=x a _ r
  exact q
def oW:Option HO->Prop
 | some (.lst _)=>True
 | some (.dK _)=>True
 | some (.dT _)=>True
 | some (.set _ _)=>True
 | some (.ins _ _ _)=>True
 | some (.ext _)=>True
 | _=>False
section
variable {P : Program} {w : World} {H : Hp} {h h' : Heap} {x e : Addr} {o' : HO}
theorem gi.write (ok:gi P w H h)(mu:oW (H x))(he:e=x\/H e=some (.own x))(k:∀ b u,b≠e->h.get? b=some u->h'.get? b=some u)(heo:∃ u,h'.get? e=some u)
  (new:gk P w (upd H x o') h' x o'):gi P w (upd H x o') h':=fun b u q=>by
 have J:∀ c y,H c=some (.own y)->c≠x:=fun c y r z=>by subst z;rw [r] at mu;exact mu
 have U:∀ c xs,H c=some (.tup xs)->c≠x:=fun c xs r z=>by subst z;rw [r] at mu;exact mu
 by_cases hb:b=x
 ·subst hb;rw [d7] at q;cases q;exact new
 ·rw [eC hb] at q
  by_cases I:b=e
  ·have q':H b=some (.own x):=by
    rcases he with z | z
    ·exact absurd (I.trans z) hb
    ·rw [I];exact z
   rw [q] at q';cases q'
   obtain⟨v,hv⟩:=heo
   exact⟨v,by rw [I];exact hv⟩
  ·refine(ok b u q).stay (fun c v hc r=>k c v ?_ r) (fun c r=>by rw [eC (J c b r)];exact r) fun c xs r=>by rw [eC (U c xs r)];exact r
   rcases hc with rfl | hc
   ·exact I
   ·rintro rfl
    rcases he with z | z
    ·exact J c b hc z
    ·rw [hc] at z;cases z;exact hb rfl
end
structure Un (fs ex : List Addr) (H H' : Hp) (h h' : Heap) : Prop where
 keep : ∀ b o, h.get? b = some o -> H b = none -> b ∉ fs -> b ∉ ex -> h'.get? b = some o
 slot : ∀ b o, h.get? b = some o -> H b = none -> b ∈ fs -> b ∉ ex -> ∃ sl, h'.get? b = some { o with slots := sl }
 free : ∀ b o, h.get? b = some o -> H b = none -> b ∉ ex -> H' b = none
 there : ∀ b o, h.get? b = some o -> b ∉ ex -> ∃ o', h'.get? b = some o'
 tups : ∀ b xs, H b = some (.tup xs) -> H' b = some (.tup xs)
 frzs : ∀ b o u, H b = some (.frz o u) -> H' b = some (.frz o u)
 tbls : ∀ b ps, H b = some (.tbl ps) -> ∃ more, H' b = some (.tbl (ps ++ more))
section
variable {fs fs' ex ex' : List Addr} {H H1 H2 : Hp} {h h1 h2 h' : Heap} {a x e : Addr} {o : HO}
theorem Un.any (u:Un fs ex H H1 h h1){b:Addr}{ob:Obj}(q:h.get? b=some ob)(n:H b=none)(hx:b∉ex):∃ sl,h1.get? b=some {ob with slots:=sl}:=by
 by_cases hb:b∈fs
 ·exact u.slot b ob q n hb hx
 ·exact⟨ob.slots,u.keep b ob q n hb hx⟩
theorem Un.kept (k:∀ b u,h.get? b=some u->h'.get? b=some u):Un fs ex H H h h':=
 ⟨fun b ob q _ _ _=>k b ob q,fun b ob q _ _ _=>⟨ob.slots,k b ob q⟩,fun _ _ _ n _=>n,fun b ob q _=>⟨ob,k b ob q⟩,fun _ _ q=>q,fun _ _ _ q=>q,fun _ ps q=>⟨#[],by rw [q];simp⟩⟩
theorem Un.refl:Un fs ex H H h h:=Un.kept fun _ _ q=>q
theorem Un.laid (k:∀ b u,h.get? b=some u->h'.get? b=some u)(hp:h.objs.size<=a)(hn:H a=none):Un fs ex H (upd H a o) h h' where
 keep:=fun b u q _ _ _=>k b u q
 slot:=fun b u q _ _ _=>⟨u.slots,k b u q⟩
 free:=fun b u q n _=>by rw [eC (Nat.ne_of_lt (Nat.lt_of_lt_of_le (Heap.lt_size q) hp))];exact n
 there:=fun b u q _=>⟨u,k b u q⟩
 tups:=fun b xs q=>by rw [eC (fv q hn)];exact q
 frzs:=fun b u xs q=>by rw [eC (fv q hn)];exact q
 tbls:=fun b ps q=>⟨#[],by rw [eC (fv q hn),q];simp⟩
theorem Un.write (mu:oW (H x))(he:e=x\/H e=some (.own x))(k:∀ b u,b≠e->h.get? b=some u->h'.get? b=some u)(heo:∃ u,h'.get? e=some u):Un fs ex H (upd H x o) h h':=by
 have J:∀ b,H b=none->b≠x:=fun b n z=>by subst z;rw [n] at mu;exact mu
 have hb:∀ b,H b=none->b≠e:=fun b n z=>by
  subst z
  rcases he with r | r
  ·exact J b n r
  ·rw [n] at r;cases r
 have hm:∀ b u,H b=some u->¬ oW (some u)->b≠x:=fun b u q nm z=>by subst z;rw [q] at mu;exact nm mu
 refine⟨fun b u q n _ _=>k b u (hb b n) q,fun b u q n _ _=>⟨u.slots,k b u (hb b n) q⟩,fun b u q n _=>by rw [eC (J b n)];exact n,fun b u q _=>?_,
  fun b xs q=>by rw [eC (hm b _ q fun z=>z)];exact q,fun b u xs q=>by rw [eC (hm b _ q fun z=>z)];exact q,fun b ps q=>⟨#[],by rw [eC (hm b _ q fun z=>z),q];simp⟩⟩
 by_cases I:b=e
 ·subst I;exact heo
 ·exact⟨u,k b u I q⟩
end
def qT(h:Heap)(H:Hp):List Addr:=(List.range h.objs.size).filter fun a=>(H a).isSome
def j5(h:Heap)(H:Hp):Heap:=W.hideAll h (qT h H)
theorem HE(h:Heap)(H:Hp):(j5 h H).objs.size=h.objs.size:=W.hideAll_size _ _
theorem GB{h:Heap}{H:Hp}{b:Addr}{o:Obj}(e:h.get? b=some o)(n:H b=none):(j5 h H).get? b=some o:=
 W.hideAll_get _ e fun hm=>by
  have q:(H b).isSome=true:=(List.mem_filter.mp hm).2
  rw [n] at q;simp at q
theorem DD{h:Heap}{H:Hp}{b:Addr}{o:Obj}(e:(j5 h H).get? b=some o):h.get? b=some o/\H b=none:=by
 have I:h.get? b=some o:=W.of_hideAll (qT h H) e
 refine⟨I,?_⟩
 cases q:H b with
 | none=>rfl
 | some x=>
  have hm:b∈qT h H:=List.mem_filter.mpr ⟨List.mem_range.mpr (Heap.lt_size I),by simp [q]⟩
  have z:(j5 h H).get? b=none:=W.hideAll_none (qT h H) hm
  rw [z] at e;cases e
structure Mod (K : W.Frag) (mg : Str -> Option Value) (base : Heap) : Prop where
 kin : K.In base
 glob : base.Ns mainGlobals mg
 blt : ∃ mb, base.Ns builtinsNs mb /\ ∀ x : Str, x ≠ "__name__" -> mb x = bootBuiltins x
 nolimit : base.NoLimit
structure Cx where
 prog : Program
 w : World
 K : W.Frag
 mg : Str -> Option Value
 base : Heap
 A : Around
 N : List Str
 s₀ : Shared
 H₀ : Hp
 env : Env
 outer : List Env
 stack : List Env
 ex : List Addr
 fn : Str -> Bool
 calm : Bool
 pn : List (Addr × Obj)
 xe : Value -> Shared -> Prop
def fT(l:List Env):List Addr:=l.filterMap (·.frame)
abbrev Cx.fs (X:Cx):List Addr:=fT X.outer
def qq(sc:Scope)(x:Str):Prop:=sc.names.lookup x=some .local\/sc.names.lookup x=some .cell\/sc.names.lookup x=some .free
def Loc(sc:Scope)(x:Str):Prop:=sc.names.lookup x=some .local\/sc.names.lookup x=some .cell
def Look(env:Env)(h:Heap)(m:Str->Option Value)(x:Str)(u:Value):Prop:=
 (env.kindOf x=some .local/\m x=some u)\/((env.kindOf x=some .cell\/env.kindOf x=some .free)/\∃ c,env.cells.lookup x=some c/\h.IsCell c (some u))
structure Cx.Ok (X : Cx) : Prop where
 mod : Mod X.K X.mg X.base
 kind : X.env.scope.kind = .function
 glob : X.env.globals = mainGlobals
 blt : X.env.builtins = builtinsNs
 above : X.s₀.heap.objs.size <= X.env.locals
 inj : ∀ x y c, X.env.cells.lookup x = some c -> X.env.cells.lookup y = some c -> x = y
 has : ∀ x, (X.env.kindOf x = some .cell \/ X.env.kindOf x = some .free) -> ∃ c, X.env.cells.lookup x = some c
 cab : ∀ x c, X.fn x = true -> X.env.cells.lookup x = some c -> X.s₀.heap.objs.size <= c
 hd : X.calm = true -> X.A.handled = none
 frames : X.A.frames = some X.stack
 stk : X.stack = X.outer \/ (X.stack = X.env :: X.outer /\ X.env.frame = some X.env.locals)
 exf : ∀ b ∈ X.ex, b ≠ X.env.locals /\ ∀ x c, X.env.cells.lookup x = some c -> c ≠ b
 bs : ∀ b o, X.base.get? b = some o -> X.s₀.heap.get? b = some o /\ X.H₀ b = none
 bsz : X.base.objs.size <= X.s₀.heap.objs.size
 noex : ∀ b o, X.base.get? b = some o -> b ∉ X.ex
 exfs : ∀ b ∈ X.ex, b ∉ X.fs
 funs : X.s₀.heap.FunFrames X.base X.outer
 frf : ∀ b ∈ X.fs, X.H₀ b = none
structure Inv (X : Cx) (pins : List (Addr × Obj)) (σ : List (Option V)) (H : Hp) (s : Shared) : Prop where
 ok : X.Ok
 os : s.os = X.s₀.os
 bare : AllBare s.gens
 base : Un X.fs X.ex X.H₀ H X.s₀.heap s.heap
 loc : ∃ m, s.heap.Ns X.env.locals m /\ ∀ (i : Nat) (x : Str) (v : V), X.N[i]? = some x -> σ[i]? = some (some v) -> qq X.env.scope x -> ∃ u, RelV v u /\ Look X.env s.heap m x u
 cell : ∀ x c, X.env.cells.lookup x = some c -> ∃ v, s.heap.IsCell c v
 free : H X.env.locals = none
 freeC : ∀ x c, X.env.cells.lookup x = some c -> H c = none
 pin : ∀ p ∈ X.pn ++ pins, s.heap.get? p.1 = some p.2 /\ H p.1 = none /\ p.1 ≠ X.env.locals /\ p.1 ∉ X.fs /\ ∀ v, p.2.data ≠ .cell v
 hok : gi X.prog X.w H s.heap
 len : σ.length = X.N.length
section
variable {X : Cx} {pins : List (Addr × Obj)} {σ : List (Option V)} {H H' : Hp} {s : Shared} {h' : Heap}
theorem Cx.Ok.nofr (ok:X.Ok){b:Addr}{o:Obj}(e:X.base.get? b=some o):b∉X.fs:=fun hb=>by
 have:=(ok.funs.mem hb).1
 rw [e] at this;cases this
theorem Inv.bs (I:Inv X pins σ H s):∀ b o,X.base.get? b=some o->s.heap.get? b=some o/\H b=none:=fun b o e=>
 ⟨I.base.keep b o (I.ok.bs b o e).1 (I.ok.bs b o e).2 (I.ok.nofr e) (I.ok.noex b o e),I.base.free b o (I.ok.bs b o e).1 (I.ok.bs b o e).2 (I.ok.noex b o e)⟩
theorem Inv.bk (I:Inv X pins σ H s):∀ b o,X.base.get? b=some o->s.heap.get? b=some o:=fun b o e=>(I.bs b o e).1
theorem Inv.mod (I:Inv X pins σ H s):Mod X.K X.mg X.base:=I.ok.mod
theorem Inv.kIn (I:Inv X pins σ H s):X.K.In s.heap:=I.ok.mod.kin.keeps I.bk
theorem Inv.fr (I:Inv X pins σ H s):∃ m,Fr X.base X.env.locals s.heap m:=
 let ⟨m,hn,_⟩:=I.loc
 ⟨m,hn,I.bk,Nat.le_trans I.ok.bsz I.ok.above⟩
theorem Inv.lt (I:Inv X pins σ H s):X.env.locals < s.heap.objs.size:=let ⟨_,hn,_⟩:=I.loc;hn.lt
theorem Inv.sz (I:Inv X pins σ H s):X.s₀.heap.objs.size<=s.heap.objs.size:=Nat.le_trans I.ok.above (Nat.le_of_lt I.lt)
theorem Inv.nofs (I:Inv X pins σ H s){a:Addr}(h:s.heap.objs.size<=a):a∉X.fs:=fun hb=>by
 obtain⟨_,o,J,_⟩:=I.ok.funs.mem hb
 exact absurd (Nat.lt_of_lt_of_le (Heap.lt_size J) (Nat.le_trans I.sz h)) (Nat.lt_irrefl _)
theorem Inv.cne (I:Inv X pins σ H s):∀ x c,X.env.cells.lookup x=some c->c≠X.env.locals:=fun x c e z=>by
 obtain⟨v,o,ho,hd⟩:=I.cell x c e
 obtain⟨m,⟨o',es,ep,J,U,_⟩,_⟩:=I.loc
 rw [z,J] at ho;cases ho;rw [U] at hd;cases hd
theorem Inv.funs (I:Inv X pins σ H s):s.heap.FunFrames X.base X.outer:=by
 have all:∀(l:List Env),(∀ b∈fT l,b∈X.fs)->X.s₀.heap.FunFrames X.base l->s.heap.FunFrames X.base l:=by
  intro l
  induction l with
  | nil=>intro _ _;trivial
  | cons env r ih=>
   intro U hl
   obtain⟨hk,⟨L,o,hf,hn,ho,hd⟩,hr⟩:=hl
   have J:L∈X.fs:=U L (by unfold fT;rw [List.filterMap_cons,hf];exact List.mem_cons_self)
   obtain⟨sl,e⟩:=I.base.slot L o ho (I.ok.frf L J) J fun z=>I.ok.exfs L z J
   exact⟨hk,⟨L,_,hf,hn,e,hd⟩,ih (fun b hb=>U b (by unfold fT;rw [List.filterMap_cons,hf];exact List.mem_cons_of_mem _ hb)) hr⟩
 exact all X.outer (fun _ hb=>hb) I.ok.funs
theorem Inv.stack (I:Inv X pins σ H s):s.heap.FunFrames X.base X.stack:=by
 rcases I.ok.stk with e | ⟨e,hf⟩
 ·rw [e];exact I.funs
 ·rw [e]
  obtain⟨m,hn,_⟩:=I.loc
  refine .cons (by rw [I.ok.kind];decide) hf hn ?_ I.funs
  exact Heap.get?_none_of_le (Nat.le_trans I.ok.bsz I.ok.above)
theorem Inv.stkSub (I:Inv X pins σ H s):∀ b∈fT X.stack,b∈X.env.locals::X.fs:=fun b hb=>by
 rcases I.ok.stk with e | ⟨e,hf⟩
 ·rw [e] at hb;exact List.mem_cons_of_mem _ hb
 ·rw [e] at hb
  unfold fT at hb
  rw [List.filterMap_cons,hf] at hb
  exact hb
theorem Inv.stkFree (I:Inv X pins σ H s):∀ b∈fT X.stack,H b=none:=fun b hb=>by
 rcases List.mem_cons.mp (I.stkSub b hb) with e | hb
 ·rw [e];exact I.free
 ·obtain⟨_,o,J,_⟩:=I.ok.funs.mem hb
  exact I.base.free b o J (I.ok.frf b hb) fun z=>I.ok.exfs b z hb
theorem Inv.step {g':Array GenState}{t':Nat}{d':Drawn}{ch:List Addr}(I:Inv X pins σ H s)
  (hch:∀ b∈ch,(b∈X.ex\/X.s₀.heap.objs.size<=b)/\b≠X.env.locals/\(∀ x c,X.env.cells.lookup x=some c->c≠b)/\∀ p∈X.pn++pins,p.1≠b)
  (keep:∀ b o,b≠X.env.locals->b∉X.fs->b∉ch->s.heap.get? b=some o->H b=none->h'.get? b=some o)
  (slot:∀ b o,b≠X.env.locals->b∈X.fs->b∉ch->s.heap.get? b=some o->H b=none->∃ sl,h'.get? b=some {o with slots:=sl})(free:∀ b o,b∉ch->s.heap.get? b=some o->H b=none->H' b=none)
  (there:∀ b o,b∉ch->s.heap.get? b=some o->∃ o',h'.get? b=some o')
  (tups:∀ b xs,H b=some (.tup xs)->H' b=some (.tup xs))(frzs:∀ b o u,H b=some (.frz o u)->H' b=some (.frz o u))(tbls:∀ b ps,H b=some (.tbl ps)->∃ more,H' b=some (.tbl (ps++more)))
  (ns:∀ m,s.heap.Ns X.env.locals m->h'.Ns X.env.locals m)(hok:gi X.prog X.w H' h')(hg:AllBare g'):
  Inv X pins σ H' {s with heap:=h',gens:=g',drawn:=d',toks:=t'}:=by
 have ab:∀ b o,X.s₀.heap.get? b=some o->b≠X.env.locals:=fun b o e=>Nat.ne_of_lt (Nat.lt_of_lt_of_le (Heap.lt_size e) I.ok.above)
 have aa:∀ b o,X.s₀.heap.get? b=some o->b∉X.ex->b∉ch:=fun b o e J hb=>by
  rcases(hch b hb).1 with z | z
  ·exact J z
  ·exact absurd (Nat.lt_of_lt_of_le (Heap.lt_size e) z) (Nat.lt_irrefl _)
 have cellK:∀ x c,X.env.cells.lookup x=some c->∀ v,s.heap.IsCell c v->h'.IsCell c v:=fun x c e v ⟨o,ho,hd⟩=>by
  have U:c∉ch:=fun z=>(hch c z).2.2.1 x c e rfl
  by_cases hc:c∈X.fs
  ·obtain⟨sl,q⟩:=slot c o (I.cne x c e) hc U ho (I.freeC x c e)
   exact⟨_,q,hd⟩
  ·exact⟨o,keep c o (I.cne x c e) hc U ho (I.freeC x c e),hd⟩
 refine⟨I.ok,I.os,hg,⟨fun b o e n hb J=>?_,fun b o e n hb J=>?_,fun b o e n J=>?_,fun b o e J=>?_,fun b xs e=>tups b xs (I.base.tups b xs e),fun b o xs e=>frzs b o xs (I.base.frzs b o xs e),fun b ps e=>?_⟩,?_,fun x c e=>?_,?_,fun x c e=>?_,fun p hp=>?_,hok,I.len⟩
 ·exact keep b o (ab b o e) hb (aa b o e J) (I.base.keep b o e n hb J) (I.base.free b o e n J)
 ·obtain⟨sl,e1⟩:=I.base.slot b o e n hb J
  obtain⟨ae,e2⟩:=slot b _ (ab b o e) hb (aa b o e J) e1 (I.base.free b o e n J)
  exact⟨ae,e2⟩
 ·obtain⟨o',e1⟩:=I.base.there b o e J
  exact free b o' (aa b o e J) e1 (I.base.free b o e n J)
 ·obtain⟨o',e1⟩:=I.base.there b o e J
  exact there b o' (aa b o e J) e1
 ·obtain⟨m1,e1⟩:=I.base.tbls b ps e
  obtain⟨m2,e2⟩:=tbls b _ e1
  exact⟨m1++m2,by rw [e2,Array.append_assoc]⟩
 ·obtain⟨m,hn,hl⟩:=I.loc
  refine⟨m,ns m hn,fun i x v e1 e2 e3=>?_⟩
  obtain⟨u,r,l⟩:=hl i x v e1 e2 e3
  refine⟨u,r,?_⟩
  rcases l with l | ⟨k,c,e,z⟩
  ·exact .inl l
  ·exact .inr ⟨k,c,e,cellK x c e _ z⟩
 ·obtain⟨v,z⟩:=I.cell x c e
  exact⟨v,cellK x c e v z⟩
 ·obtain⟨m,⟨o,_,_,ho,_⟩,_⟩:=I.loc
  exact free _ o (fun z=>(hch _ z).2.1 rfl) ho I.free
 ·obtain⟨v,o,ho,hd⟩:=I.cell x c e
  exact free c o (fun z=>(hch c z).2.2.1 x c e rfl) ho (I.freeC x c e)
 ·obtain⟨e,n,ne,nf,d⟩:=I.pin p hp
  have U:p.1∉ch:=fun z=>(hch p.1 z).2.2.2 p hp rfl
  exact⟨keep p.1 p.2 ne nf U e n,free p.1 p.2 U e n,ne,nf,d⟩
theorem Inv.un {t':Nat}(I:Inv X pins σ H s)(u:Un X.fs [] H H' s.heap h')(hok:gi X.prog X.w H' h'):Inv X pins σ H' {s with heap:=h',toks:=t'}:=by
 obtain⟨m,⟨o,es,ep,ho,r⟩,_⟩:=id I.loc
 obtain⟨sl,hL⟩:=u.any ho I.free (by simp)
 exact I.step (g':=s.gens) (d':=s.drawn) (ch:=[]) (fun _ z=>nomatch z) (fun b o _ hb _ e n=>u.keep b o e n hb (by simp)) (fun b o _ hb _ e n=>u.slot b o e n hb (by simp)) (fun b o _ e n=>u.free b o e n (by simp)) (fun b o _ e=>u.there b o e (by simp)) u.tups u.frzs u.tbls (fun m' hm=>by
  obtain⟨o',U,aa,J,r'⟩:=hm
  rw [ho] at J;cases J
  exact⟨_,U,aa,hL,r'⟩) hok I.bare
theorem Inv.call {g':Array GenState}{t':Nat}{d':Drawn}{ch:List Addr}(I:Inv X pins σ H s)(u:Un (fT X.stack) ch H H' s.heap h')(hok:gi X.prog X.w H' h')(hg:AllBare g')
  (hch:∀ b∈ch,(b∈X.ex\/X.s₀.heap.objs.size<=b)/\b≠X.env.locals/\(∀ x c,X.env.cells.lookup x=some c->c≠b)/\∀ p∈X.pn++pins,p.1≠b):
  Inv X pins σ H' {s with heap:=h',gens:=g',drawn:=d',toks:=t'}:=by
 obtain⟨m,⟨o,es,ep,ho,r⟩,_⟩:=id I.loc
 obtain⟨sl,hL⟩:=u.any ho I.free fun z=>(hch _ z).2.1 rfl
 exact I.step (ch:=ch) hch (fun b o hL hb J e n=>u.keep b o e n (fun z=>(List.mem_cons.mp (I.stkSub b z)).elim hL hb) J) (fun b o _ _ J e n=>u.any e n J) (fun b o J e n=>u.free b o e n J) (fun b o J e=>u.there b o e J) u.tups u.frzs u.tbls (fun m' hm=>by
  obtain⟨o',aa,ab,U,r'⟩:=hm
  rw [ho] at U;cases U
  exact⟨_,aa,ab,hL,r'⟩) hok hg
theorem Inv.turned {t':Nat}{it:Addr}(I:Inv X pins σ H s)(k:∀ b o,b≠it->s.heap.get? b=some o->h'.get? b=some o)(hn:H it=none)(hL:it≠X.env.locals)
  (h1:it∈X.ex\/X.s₀.heap.objs.size<=it)(h2:∀ x c,X.env.cells.lookup x=some c->c≠it)(h3:∀ p∈X.pn++pins,p.1≠it):Inv X pins σ H {s with heap:=h',toks:=t'}:=by
 have U:∀ b u,H b=some u->b≠it:=fun b u e z=>by rw [z,hn] at e;cases e
 refine I.step (g':=s.gens) (d':=s.drawn) (ch:=[it]) (fun b hb=>?_) (fun b o _ _ J e _=>k b o (fun z=>J (by simp [z])) e) (fun b o _ _ J e _=>⟨o.slots,k b o (fun z=>J (by simp [z])) e⟩) (fun _ _ _ _ n=>n)
  (fun b o J e=>⟨o,k b o (fun z=>J (by simp [z])) e⟩) (fun _ _ e=>e) (fun _ _ _ e=>e) (fun b ps e=>⟨#[],by rw [e];simp⟩) (fun m hm=>?_) (fun b u e=>?_) I.bare
 ·have e:b=it:=by simpa using hb
  subst e
  exact⟨h1,hL,h2,h3⟩
 ·obtain⟨o,es,ep,ho,r⟩:=hm
  exact⟨o,es,ep,k _ o (Ne.symm hL) ho,r⟩
 ·refine(I.hok b u e).stay (fun c v J q=>k c v ?_ q) (fun _ q=>q) fun _ _ q=>q
  rcases J with z | z
  ·rw [z];exact U b u e
  ·exact U c _ z
theorem Inv.tok (I:Inv X pins σ H s)(t:Nat):Inv X pins σ H {s with toks:=t}:=I.un (h':=s.heap) (t':=t) Un.refl I.hok
theorem Inv.kept {t':Nat}(I:Inv X pins σ H s)(k:∀ b u,s.heap.get? b=some u->h'.get? b=some u):Inv X pins σ H {s with heap:=h',toks:=t'}:=I.un (Un.kept k) (I.hok.kept k)
theorem Inv.laid {a:Addr}{o:HO}{t':Nat}(I:Inv X pins σ H s)(k:∀ b u,s.heap.get? b=some u->h'.get? b=some u)(hp:s.heap.objs.size<=a)(new:gk X.prog X.w (upd H a o) h' a o):
  Inv X pins σ (upd H a o) {s with heap:=h',toks:=t'}:=I.un (Un.laid k hp (I.hok.fresh hp)) (I.hok.laid k hp new)
theorem Inv.write {x e:Addr}{o:HO}{t':Nat}(I:Inv X pins σ H s)(mu:oW (H x))(he:e=x\/H e=some (.own x))(k:∀ b u,b≠e->s.heap.get? b=some u->h'.get? b=some u)(heo:∃ u,h'.get? e=some u)
  (new:gk X.prog X.w (upd H x o) h' x o):Inv X pins σ (upd H x o) {s with heap:=h',toks:=t'}:=I.un (Un.write mu he k heo) (I.hok.write mu he k heo new)
theorem Inv.weak {σ':List (Option V)}(I:Inv X pins σ H s)(hl:σ'.length=σ.length)(w:∀(i:Nat) v,σ'[i]? =some (some v)->σ[i]? =some (some v)):Inv X pins σ' H s:=
 ⟨I.ok,I.os,I.bare,I.base,let ⟨m,hn,hl'⟩:=I.loc;⟨m,hn,fun i x v J U e3=>hl' i x v J (w i v U) e3⟩,I.cell,I.free,I.freeC,I.pin,I.hok,hl.trans I.len⟩
theorem Inv.pins_of {pins':List (Addr×Obj)}(I:Inv X pins σ H s)(h:∀ p∈pins',s.heap.get? p.1=some p.2/\H p.1=none/\p.1≠X.env.locals/\p.1∉X.fs/\∀ v,p.2.data≠ .cell v):Inv X pins' σ H s:=
 ⟨I.ok,I.os,I.bare,I.base,I.loc,I.cell,I.free,I.freeC,fun p J=>(List.mem_append.mp J).elim (fun z=>I.pin p (List.mem_append_left _ z)) (h p),I.hok,I.len⟩
theorem we{N:List Str}(hN:N.Nodup){i j:Nat}{x:Str}(a:N[i]? =some x)(b:N[j]? =some x):i=j:=by
 obtain⟨h1,I⟩:=List.getElem?_eq_some_iff.mp a
 obtain⟨h2,J⟩:=List.getElem?_eq_some_iff.mp b
 exact(List.getElem_inj hN).mp (I.trans J.symm)
theorem va{M:Model}{A:Around}{E:Value->Shared->Prop}{i:Nat}{x:Str}{v:V}{u:Value}{Q:Unit->Shared->Prop}(I:Inv X pins σ H s)(hN:X.N.Nodup)(hi:X.N[i]? =some x)(hx:Loc X.env.scope x)(r:RelV v u)
  (h:∀ s',Inv X pins (σ.set i (some v)) H s'->(∃ a,Heap.SameBut a s.heap s'.heap/\(a=X.env.locals\/X.env.cells.lookup x=some a))->Q () s')(hf:X.fn x=true\/X.env.scope.names.lookup x=some .local:=by first | exact .inl rfl | exact .inr rfl | assumption):wpAny M A (storeName X.env x u) Q E s:=by
 obtain⟨m,hn,hl⟩:=id I.loc
 have af:(X.env.scope.kind == .class || (X.env.scope.kind == .module && X.env.locals != X.env.globals))=false:=by rw [I.ok.kind];rfl
 have ab:i < σ.length:=by rw [I.len];exact(List.getElem?_eq_some_iff.mp hi).1
 have cne:=I.cne
 have tracked:∀{a:Addr} {h':Heap},(∃ o,s.heap.get? a=some o/\H a=none)->Heap.SameBut a s.heap h'->gi X.prog X.w H h':=fun{a h'} ha J b ob e=>by
  obtain⟨_,_,aa⟩:=ha
  refine(I.hok b ob e).stay (fun c w' hc q=>(J.2 c ?_).trans q) (fun _ q=>q) fun _ _ q=>q
  rintro rfl
  rcases hc with rfl | hc
  ·rw [aa] at e;cases e
  ·rw [aa] at hc;cases hc
 rcases hx with hk | hk
 ·refine wpAny_storeName_local hk hn (fun h' ak J=>?_) af
  obtain⟨oL,_,_,ao,_⟩:=id hn
  refine h _ ⟨I.ok,I.os,I.bare,⟨fun b o e n hb hx=>?_,fun b o e n hb hx=>?_,I.base.free,fun b o e hx=>?_,I.base.tups,I.base.frzs,I.base.tbls⟩,⟨_,ak,fun j y v' U e2 e3=>?_⟩,fun y c e=>?_,I.free,I.freeC,fun p hp=>?_,tracked ⟨oL,ao,I.free⟩ J,by simpa using I.len⟩ ⟨_,J,.inl rfl⟩
  ·exact(J.2 b (Nat.ne_of_lt (Nat.lt_of_lt_of_le (Heap.lt_size e) I.ok.above))).trans (I.base.keep b o e n hb hx)
  ·obtain⟨sl,U⟩:=I.base.slot b o e n hb hx
   exact⟨sl,(J.2 b (Nat.ne_of_lt (Nat.lt_of_lt_of_le (Heap.lt_size e) I.ok.above))).trans U⟩
  ·obtain⟨o',U⟩:=I.base.there b o e hx
   exact⟨o',(J.2 b (Nat.ne_of_lt (Nat.lt_of_lt_of_le (Heap.lt_size e) I.ok.above))).trans U⟩
  ·by_cases hj:j=i
   ·subst hj
    rw [hi] at U;cases U
    rw [List.getElem?_set_self ab] at e2
    cases e2
    exact⟨u,r,.inl ⟨hk,by simp⟩⟩
   ·rw [List.getElem?_set_ne (Ne.symm hj)] at e2
    obtain⟨u',r',q⟩:=hl j y v' U e2 e3
    refine⟨u',r',?_⟩
    rcases q with ⟨k,e⟩ | ⟨k,c,e,z⟩
    ·refine .inl ⟨k,?_⟩
     have:y≠x:=fun e=>hj (we hN U (e ▸ hi))
     simp [this,e]
    ·exact .inr ⟨k,c,e,z.sameBut J (cne y c e)⟩
  ·obtain⟨w',z⟩:=I.cell y c e
   exact⟨w',z.sameBut J (cne y c e)⟩
  ·obtain⟨e,n,ne,nf,d⟩:=I.pin p hp
   exact⟨(J.2 p.1 ne).trans e,n,ne,nf,d⟩
 ·have ae:X.fn x=true:=by
   rcases hf with z | z
   ·exact z
   ·rw [z] at hk;cases hk
  obtain⟨c,hc⟩:=I.ok.has x (.inl hk)
  obtain⟨w',z⟩:=I.cell x c hc
  refine wpAny_storeName_cell I.ok.kind hk hc z (fun h' ag J=>?_)
  obtain⟨oc,ah,ai⟩:=id z
  refine h {s with heap:=h'} ⟨I.ok,I.os,I.bare,⟨fun b o e n hb hx=>?_,fun b o e n hb hx=>?_,I.base.free,fun b o e hx=>?_,I.base.tups,I.base.frzs,I.base.tbls⟩,⟨m,hn.sameBut J (Ne.symm (cne x c hc)),fun j y v' U e2 e3=>?_⟩,fun y c' e=>?_,I.free,I.freeC,fun p hp=>?_,tracked ⟨oc,ah,I.freeC x c hc⟩ J,by simpa using I.len⟩ ⟨c,J,.inr hc⟩
  ·exact(J.2 b (Nat.ne_of_lt (Nat.lt_of_lt_of_le (Heap.lt_size e) (I.ok.cab x c ae hc)))).trans (I.base.keep b o e n hb hx)
  ·obtain⟨sl,U⟩:=I.base.slot b o e n hb hx
   exact⟨sl,(J.2 b (Nat.ne_of_lt (Nat.lt_of_lt_of_le (Heap.lt_size e) (I.ok.cab x c ae hc)))).trans U⟩
  ·obtain⟨o',U⟩:=I.base.there b o e hx
   exact⟨o',(J.2 b (Nat.ne_of_lt (Nat.lt_of_lt_of_le (Heap.lt_size e) (I.ok.cab x c ae hc)))).trans U⟩
  ·by_cases hj:j=i
   ·subst hj
    rw [hi] at U;cases U
    rw [List.getElem?_set_self ab] at e2
    cases e2
    exact⟨u,r,.inr ⟨.inl hk,c,hc,ag⟩⟩
   ·rw [List.getElem?_set_ne (Ne.symm hj)] at e2
    obtain⟨u',r',q⟩:=hl j y v' U e2 e3
    refine⟨u',r',?_⟩
    rcases q with q | ⟨k,c',e,z'⟩
    ·exact .inl q
    ·refine .inr ⟨k,c',e,z'.sameBut J ?_⟩
     rintro rfl
     exact hj (we hN U (I.ok.inj _ _ _ e hc ▸ hi))
  ·by_cases aj:c'=c
   ·subst aj;exact⟨_,ag⟩
   ·obtain⟨w2,z2⟩:=I.cell y c' e
    exact⟨w2,z2.sameBut J aj⟩
  ·obtain⟨e,n,ne,nf,d⟩:=I.pin p hp
   refine⟨(J.2 p.1 ?_).trans e,n,ne,nf,d⟩
   intro q
   rw [q,ah] at e
   have q':oc=p.2:=Option.some.inj e
   exact d w' (by rw [<-q'];exact ai)
theorem uJ{M:Model}{A:Around}{E:Value->Shared->Prop}{i:Nat}{x:Str}{v:V}{u:Value}{Q:Unit->Shared->Prop}(I:Inv X pins σ H s)(hN:X.N.Nodup)(hi:X.N[i]? =some x)(hx:Loc X.env.scope x)(r:RelV v u)
  (h:∀ s',Inv X pins (σ.set i (some v)) H s'->Q () s')(hf:X.fn x=true\/X.env.scope.names.lookup x=some .local:=by first | exact .inl rfl | exact .inr rfl | assumption):wpAny M A (storeName X.env x u) Q E s:=
 va I hN hi hx r (fun s' J _=>h s' J) hf
theorem Inv.call' {s':Shared}{ch:List Addr}(I:Inv X pins σ H s)(ho:s'.os=s.os)(u:Un (fT X.stack) ch H H' s.heap s'.heap)(hok:gi X.prog X.w H' s'.heap)(hg:AllBare s'.gens)
  (hch:∀ b∈ch,(b∈X.ex\/X.s₀.heap.objs.size<=b)/\b≠X.env.locals/\(∀ x c,X.env.cells.lookup x=some c->c≠b)/\∀ p∈X.pn++pins,p.1≠b):Inv X pins σ H' s':=by
 obtain⟨h',g',d',t',o'⟩:=s'
 have e:o'=s.os:=ho
 subst e
 exact I.call (g':=g') (t':=t') (d':=d') u hok hg hch
end
abbrev XK:=Value->Option Addr->Hp->Prop
abbrev St:=List (Option V)
abbrev VK:=V->Hp->Prop
abbrev TE:=St->Hp->VK->Prop
abbrev TT:=St->Hp->(Bool->Hp->Prop)->Prop
abbrev TA:=St->Hp->(List V->Hp->Prop)->Prop
structure Ends where
 nx : St -> Hp -> Prop
 rt : VK
 bk : St -> Hp -> Prop := fun _ _ => False
 ct : St -> Hp -> Prop := fun _ _ => False
abbrev TS:=Ends->St->Hp->Prop
def EP(X:Cx)(pins:List (Addr×Obj))(σ:St)(Q:VK)(u:Value)(s':Shared):Prop:=∃ v H',Inv X pins σ H' s'/\RelV v u/\Q v H'
def TP(X:Cx)(pins:List (Addr×Obj))(σ:St)(Q:Bool->Hp->Prop)(b:Bool)(s':Shared):Prop:=∃ H',Inv X pins σ H' s'/\Q b H'
def AP(X:Cx)(pins:List (Addr×Obj))(σ:St)(Q:List V->Hp->Prop)(us:List Value)(s':Shared):Prop:=∃ vs H',Inv X pins σ H' s'/\Vals vs us/\Q vs H'
def SP(X:Cx)(pins:List (Addr×Obj))(D:Ends)(f:Flow)(s':Shared):Prop:=
 match f with
 | .next=>∃ I H',Inv X pins I H' s'/\D.nx I H'
 | .brk=>∃ I H',Inv X pins I H' s'/\D.bk I H'
 | .cont=>∃ I H',Inv X pins I H' s'/\D.ct I H'
 | .ret u=>∃ v I H',Inv X pins I H' s'/\RelV v u/\D.rt v H'
def PE(X:Cx)(e:Expr)(t:TE):Prop:=
 ∀(pins:List (Addr×Obj)) (s:Shared) (σ:St) (H:Hp) (Q:VK),Inv X pins σ H s->t σ H Q->wpAny (model X.prog X.w) X.A (eval e X.env) (EP X pins σ Q) X.xe s
def PT(X:Cx)(e:Expr)(t:TT):Prop:=
 ∀(pins:List (Addr×Obj)) (s:Shared) (σ:St) (H:Hp) (Q:Bool->Hp->Prop),Inv X pins σ H s->t σ H Q->wpAny (model X.prog X.w) X.A (isTrue e X.env (eval e X.env)) (TP X pins σ Q) X.xe s
def PW(X:Cx)(e:Expr)(t:TT):Prop:=
 ∀(whole:Sem Value) (pins:List (Addr×Obj)) (s:Shared) (σ:St) (H:Hp) (Q:Bool->Hp->Prop),Inv X pins σ H s->t σ H Q->wpAny (model X.prog X.w) X.A (isTrue e X.env whole) (TP X pins σ Q) X.xe s
theorem PW.pt {X:Cx}{e:Expr}{t:TT}(h:PW X e t):PT X e t:=h _
def PA(X:Cx)(es:List Expr)(t:TA):Prop:=
 ∀(pos:Pos) (pins:List (Addr×Obj)) (s:Shared) (σ:St) (H:Hp) (Q:List V->Hp->Prop),Inv X pins σ H s->t σ H Q->wpAny (model X.prog X.w) X.A (spliced (backTo pos (starEach es X.env))) (AP X pins σ Q) X.xe s
def PS(X:Cx)(st:Stmt)(t:TS):Prop:=
 ∀(pins:List (Addr×Obj)) (s:Shared) (σ:St) (H:Hp) (D:Ends),Inv X pins σ H s->t D σ H->wpAny (model X.prog X.w) X.A (exec st X.env) (SP X pins D) X.xe s
def eK(X:Cx)(st:List Stmt)(t:TS):Prop:=
 ∀(pins:List (Addr×Obj)) (s:Shared) (σ:St) (H:Hp) (D:Ends),Inv X pins σ H s->t D σ H->wpAny (model X.prog X.w) X.A (execs st X.env) (SP X pins D) X.xe s
theorem eJ{α:Type}{t:Sem α}{Q Q':α->Shared->Prop}{M:Model}{A:Around}{E:Value->Shared->Prop}{s:Shared}(h:wpAny M A t Q E s)(hQ:∀ a s,Q a s->Q' a s):wpAny M A t Q' E s:=wpAny_mono h hQ fun _ _ x=>x
section
variable {X : Cx}
def ie(i:Nat):TE:=fun σ H Q=>∃ v,σ[i]? =some (some v)/\Q v H
def tC(v:V):TE:=fun _ H Q=>Q v H
theorem HR{i:Nat}{x:Str}{pos:Pos}(hN:X.N[i]? =some x)(hv:qq X.env.scope x)(hd:(x == ("__debug__":Str))=false:=by decide)(hcd:(x == ("__classdict__":Str))=false:=by decide):PE X (.Name x pos) (ie i):=by
 intro pins s σ H Q I h
 obtain⟨v,e,h⟩:=h
 obtain⟨m,hn,hl⟩:=I.loc
 obtain⟨u,r,l⟩:=hl i x v hN e hv
 have fin:EP X pins σ Q u s:=⟨v,H,I,r,h⟩
 rcases l with ⟨hk,hm⟩ | ⟨hk,c,U,J⟩
 ·exact wpAny_Name (wpAny_loadName_local I.ok.kind hk hn hm fin) hd
 ·rcases hk with hk | hk
  ·exact wpAny_Name (wpAny_loadName_cell I.ok.kind hk U J fin) hd
  ·exact wpAny_Name (wpAny_loadName_free I.ok.kind hk U J fin hcd) hd
theorem d5{i j pos}:PE X (.Constant (.int i) j pos) (tC (.int i)):=fun _ _ _ H _ I h=>wpAny_Constant_int ⟨.int i,H,I.tok _,⟨_,rfl⟩,h⟩
theorem gM{b j pos}:PE X (.Constant (.bool b) j pos) (tC (.bl b)):=fun _ _ _ H _ I h=>Constant_bool ⟨.bl b,H,I,rfl,h⟩
theorem Bu{j pos}:PE X (.Constant .none j pos) (tC .non):=fun _ _ _ H _ I h=>Constant_none ⟨.non,H,I,rfl,h⟩
theorem fF{x j pos}:PE X (.Constant (.str x) j pos) (tC (.str x)):=fun _ _ _ H _ I h=>Calls.Constant_str ⟨.str x,H,I.tok _,⟨_,rfl⟩,h⟩
def Gl(X:Cx)(x:Str):Prop:=X.env.kindOf x=some .globalImplicit
theorem rq{E:Value->Shared->Prop}{pins:List (Addr×Obj)}{s:Shared}{σ:St}{H:Hp}{x:Str}{u:Value}{pos:Pos}{Q:Value->Shared->Prop}(I:Inv X pins σ H s)(hg:Gl X x)(hm:X.mg x=some u)(h:Q u s)
  (hd:(x == ("__debug__":Str))=false:=by decide):wpAny (model X.prog X.w) X.A (eval (.Name x pos) X.env) Q E s:=
 Calls.Name_function_global I.ok.kind hg (Calls.loadGlobal_global (by rw [I.ok.glob];exact I.mod.glob.keeps I.bk) hm h) hd
theorem nc{E:Value->Shared->Prop}{pins:List (Addr×Obj)}{s:Shared}{σ:St}{H:Hp}{x:Str}{u:Value}{pos:Pos}{Q:Value->Shared->Prop}(I:Inv X pins σ H s)(hg:Gl X x)(hm:X.mg x=none)(hv:bootBuiltins x=some u)(h:Q u s)
  (hn:x≠"__name__":=by decide)(hd:(x == ("__debug__":Str))=false:=by decide):wpAny (model X.prog X.w) X.A (eval (.Name x pos) X.env) Q E s:=by
 obtain⟨J,h1,h2⟩:=I.mod.blt
 exact Calls.Name_function_global I.ok.kind hg (Calls.loadGlobal_builtin (by rw [I.ok.glob];exact I.mod.glob.keeps I.bk) hm (by rw [I.ok.blt];exact h1.keeps I.bk) ((h2 x hn).trans hv) h) hd
theorem je{x:Str}{v:V}{u:Value}{pos:Pos}(hg:Gl X x)(hm:X.mg x=some u)(r:RelV v u)(hd:(x == ("__debug__":Str))=false:=by decide):PE X (.Name x pos) (tC v):=
 fun _ _ _ H _ I h=>rq I hg hm ⟨v,H,I,r,h⟩ hd
theorem jE{x:Str}{v:V}{u:Value}{pos:Pos}(hg:Gl X x)(hm:X.mg x=none)(hv:bootBuiltins x=some u)(r:RelV v u)(hn:x≠"__name__":=by decide)(hd:(x == ("__debug__":Str))=false:=by decide):PE X (.Name x pos) (tC v):=
 fun _ _ _ H _ I h=>nc I hg hm hv ⟨v,H,I,r,h⟩ hn hd
variable {a b : Expr} {ta tb : TE} {pos : Pos}
def PC(X:Cx)(op:CmpOp)(a b:Expr)(t:TE):Prop:=
 ∀(pins:List (Addr×Obj)) (s:Shared) (σ:St) (H:Hp) (Q:VK),Inv X pins σ H s->t σ H Q->
  wpAny (model X.prog X.w) X.A (eval a X.env) (fun v I=>wpAny (model X.prog X.w) X.A (eval b X.env) (fun u J=>wpAny (model X.prog X.w) X.A (compareOp op v u) (EP X pins σ Q) X.xe J) X.xe I) X.xe s
theorem AY(b:Expr){op:CmpOp}(h:op≠ .In)(h2:op≠ .NotIn):behindInMarks op b=false:=by
 have I:(op == CmpOp.In)=false:=by cases op<;>first | rfl | exact absurd rfl h
 have J:(op == CmpOp.NotIn)=false:=by cases op<;>first | rfl | exact absurd rfl h2
 cases b<;>simp [behindInMarks,I,J]
def Dy(ta:TE):TE:=fun σ H Q=>ta σ H fun x H1=>Q (.bl (decide (x= .non))) H1
def Dc(ta:TE):TE:=fun σ H Q=>ta σ H fun x H1=>Q (.bl (!decide (x= .non))) H1
theorem RelV.none_iff {x:V}{v:Value}(r:RelV x v):(v == Value.none)=decide (x= .non):=by
 cases x with
 | non=>cases r;rfl
 | bl _=>cases r;rfl
 | int _=>obtain⟨t,rfl⟩:=r;rfl
 | str _=>obtain⟨t,rfl⟩:=r;rfl
 | byt _=>obtain⟨t,rfl⟩:=r;rfl
 | flt _=>obtain⟨t,rfl⟩:=r;rfl
 | ref _=>cases r;rfl
 | ty _=>cases r;rfl
theorem yp{j pos'}(ha:PE X a ta):PC X .Is a (.Constant .none j pos') (Dy ta):=by
 intro pins s σ H Q I h
 refine eJ (ha pins s σ H _ I h) fun v s1 ⟨x,H1,J,U,q1⟩=>?_
 exact Constant_none (is_none_gen ⟨.bl _,H1,J,by rw [U.none_iff];rfl,q1⟩)
theorem xg{j pos'}(ha:PE X a ta):PC X .IsNot a (.Constant .none j pos') (Dc ta):=by
 intro pins s σ H Q I h
 refine eJ (ha pins s σ H _ I h) fun v s1 ⟨x,H1,J,U,q1⟩=>?_
 exact Constant_none (isnot_none_gen ⟨.bl _,H1,J,by rw [U.none_iff];rfl,q1⟩)
def tB(t:TE):TT:=fun σ H Q=>t σ H fun x H1=>∃ c,x= .bl c/\Q c H1
theorem kH{op:CmpOp}{t:TE}(h:PC X op a b t)(h1:behindInMarks op b=false:=by first | exact AY _ (by decide) (by decide) | rfl):PT X (.Compare a [op] [b] pos) (tB t):=by
 intro pins s σ H Q I hw
 refine wpAny_isTrue_Compare1 (eJ (h pins s σ H _ I hw) fun v s1 h1=>eJ h1 fun u s2 h2=>eJ h2 fun c s3 ⟨x,H1,J,U,q1⟩=>?_) h1
 obtain⟨d,rfl,q⟩:=q1
 cases U
 exact wpAny_truthy_bool ⟨H1,J,q⟩
theorem gC{e:Expr}{t:TE}(h:PE X e t)(he:∀ whole,isTrue e X.env whole=(do let v<-whole;standAt e.pos;holding [v] (truthy v)):=by intro _;rfl):PT X e (tB t):=by
 intro pins s σ H Q I hw
 refine isTrue_plain (eJ (h pins s σ H _ I hw) fun v s1 ⟨x,H1,J,U,q1⟩=>?_) (he _)
 obtain⟨d,rfl,q⟩:=q1
 cases U
 exact wpAny_truthy_bool ⟨H1,J,q⟩
variable {tA tB' : TT} {rest : List Expr}
def D3(t u:TT):TT:=fun σ H Q=>t σ H fun c H1=>if c=true then u σ H1 Q else Q false H1
def HJ(t u:TT):TT:=fun σ H Q=>t σ H fun c H1=>if c=true then Q true H1 else u σ H1 Q
def Dv(t:TT):TT:=fun σ H Q=>t σ H fun c H1=>Q (!c) H1
theorem mz(ha:PT X a tA):PW X (.BoolOp .And [a] pos) tA:=by
 intro J pins s σ H Q I h
 refine isTrue_and (eJ (ha pins s σ H Q I h) fun c s1 e=>?_)
 cases c with
 | true=>exact isTrue_and_nil e
 | false=>exact e
theorem ip(ha:PT X a tA):PW X (.BoolOp .Or [a] pos) tA:=by
 intro J pins s σ H Q I h
 refine isTrue_or (eJ (ha pins s σ H Q I h) fun c s1 e=>?_)
 cases c with
 | false=>exact isTrue_or_nil e
 | true=>exact e
theorem mv(ha:PT X a tA)(hb:PW X (.BoolOp .And (b::rest) pos) tB'):PW X (.BoolOp .And (a::b::rest) pos) (D3 tA tB'):=by
 intro wh pins s σ H Q I h
 refine isTrue_and (eJ (ha pins s σ H _ I h) fun c s1 ⟨H1,J,U⟩=>?_)
 cases c with
 | true=>exact hb wh pins s1 σ H1 Q J U
 | false=>exact⟨H1,J,U⟩
theorem gU(ha:PT X a tA)(hb:PW X (.BoolOp .Or (b::rest) pos) tB'):PW X (.BoolOp .Or (a::b::rest) pos) (HJ tA tB'):=by
 intro wh pins s σ H Q I h
 refine isTrue_or (eJ (ha pins s σ H _ I h) fun c s1 ⟨H1,J,U⟩=>?_)
 cases c with
 | true=>exact⟨H1,J,U⟩
 | false=>exact hb wh pins s1 σ H1 Q J U
theorem gH(ha:PT X a tA):PT X (.UnaryOp .Not a pos) (Dv tA):=by
 intro pins s σ H Q I h
 exact isTrue_not (ha pins s σ H (fun c H1=>Q (!c) H1) I h)
def E9(ta tb:TE):TE:=fun σ H Q=>ta σ H fun x H1=>∃ c,x= .bl c/\if c=true then tb σ H1 Q else Q (.bl false) H1
def Dh(ta tb:TE):TE:=fun σ H Q=>ta σ H fun x H1=>∃ c,x= .bl c/\if c=true then Q (.bl true) H1 else tb σ H1 Q
def B1(ta:TE):TE:=fun σ H Q=>ta σ H fun x H1=>∃ c,x= .bl c/\Q (.bl (!c)) H1
theorem qb{op}{t:TE}(h:PE X a t):PE X (.BoolOp op [a] pos) t:=fun pins s σ H Q I hw=>BoolOp_one (h pins s σ H Q I hw)
theorem ql(ha:PE X a ta)(hb:PE X (.BoolOp .And (b::rest) pos) tb):PE X (.BoolOp .And (a::b::rest) pos) (E9 ta tb):=by
 intro pins s σ H Q I h
 refine BoolOp_and (eJ (ha pins s σ H _ I h) fun v s1 ⟨x,H1,U,r1,J⟩=>?_)
 obtain⟨c,rfl,J⟩:=J
 cases r1
 refine wpAny_truthy_bool ?_
 cases c with
 | true=>exact hb pins s1 σ H1 Q U J
 | false=>exact⟨.bl false,H1,U,rfl,J⟩
theorem AJ(ha:PE X a ta)(hb:PE X (.BoolOp .Or (b::rest) pos) tb):PE X (.BoolOp .Or (a::b::rest) pos) (Dh ta tb):=by
 intro pins s σ H Q I h
 refine BoolOp_or (eJ (ha pins s σ H _ I h) fun v s1 ⟨x,H1,U,r1,J⟩=>?_)
 obtain⟨c,rfl,J⟩:=J
 cases r1
 refine wpAny_truthy_bool ?_
 cases c with
 | false=>exact hb pins s1 σ H1 Q U J
 | true=>exact⟨.bl true,H1,U,rfl,J⟩
theorem yO(ha:PE X a ta):PE X (.UnaryOp .Not a pos) (B1 ta):=by
 intro pins s σ H Q I h
 refine UnaryOp_ (eJ (ha pins s σ H _ I h) fun v s1 ⟨x,H1,U,r1,J⟩=>?_)
 obtain⟨c,rfl,J⟩:=J
 cases r1
 exact not_of (wpAny_truthy_bool ⟨.bl (!c),H1,U,rfl,J⟩)
def xl(t:TT)(ta tb:TE):TE:=fun σ H Q=>t σ H fun c H1=>if c=true then ta σ H1 Q else tb σ H1 Q
theorem oR{c:Expr}(hc:PT X c tA)(ha:PE X a ta)(hb:PE X b tb):PE X (.IfExp c a b pos) (xl tA ta tb):=by
 intro pins s σ H Q I h
 refine wpAny_IfExp (eJ (hc pins s σ H _ I h) fun d s1 ⟨H1,J,U⟩=>?_)
 cases d with
 | true=>exact ha pins s1 σ H1 Q J U
 | false=>exact hb pins s1 σ H1 Q J U
end
def d4(K:W.Frag)(H:Hp)(a:Addr)(xs:List V):Prop:=
 Rd H a (.lst xs)\/
  ∃(o:Obj) (I:Array Value) (n:Nat),K.lookup a=some o/\o.cls= .type "list"/\o.dict=none/\o.data= .seq I n/\I.size<=sizeLine/\Vals xs I.toList
def eW(K:W.Frag)(H:Hp)(a:Addr)(xs:List V):Prop:=
 Rd H a (.tup xs)\/
  ∃(o:Obj) (I:Array Value) (n:Nat),K.lookup a=some o/\o.cls= .type "tuple"/\o.data= .seq I n/\I.size<=sizeLine/\Vals xs I.toList
def z4:Value->Option V
 | .none=>some .non
 | .bool b=>some (.bl b)
 | .int i _=>some (.int i)
 | .str x _=>some (.str x)
 | .bytes b _=>some (.byt b)
 | .float b _=>some (.flt b)
 | .ref a=>some (.ref a)
 | .type n=>some (.ty n)
 | _=>none
theorem RelV.abs {x:V}{u:Value}(r:RelV x u):z4 u=some x:=by
 cases x with
 | non=>cases r;rfl
 | bl _=>cases r;rfl
 | int _=>obtain⟨t,rfl⟩:=r;rfl
 | str _=>obtain⟨t,rfl⟩:=r;rfl
 | byt _=>obtain⟨t,rfl⟩:=r;rfl
 | flt _=>obtain⟨t,rfl⟩:=r;rfl
 | ref _=>cases r;rfl
 | ty _=>cases r;rfl
theorem RelV.inj {x y:V}{u:Value}(r:RelV x u)(q:RelV y u):x=y:=Option.some.inj (r.abs.symm.trans q.abs)
theorem Vals.inj:∀{xs ys:List V} {us:List Value},Vals xs us->Vals ys us->xs=ys
 | _,_,_,.nil,.nil=>rfl
 | _,_,_,.cons r t,.cons I t'=>by rw [r.inj I,Vals.inj t t']
section
variable {X : Cx} {pins : List (Addr × Obj)} {σ : St} {H : Hp} {s : Shared} {a : Addr} {xs ys : List V}
theorem d4.of {K:W.Frag}(h:H a=some (.lst xs)):d4 K H a xs:= .inl (.inl h)
theorem eW.of {K:W.Frag}(h:H a=some (.tup xs)):eW K H a xs:= .inl (.inl h)
theorem Inv.list (I:Inv X pins σ H s)(h:d4 X.K H a xs):∃ its:List Value,Vals xs its/\PlainL s.heap a its.toArray/\xs.length<=sizeLine:=by
 rcases h with h | ⟨o,its,n,hk,J,hd,U,hz,r⟩
 ·obtain⟨z,its,n,r,e⟩:=h.ok I.hok
  exact⟨its,r,⟨_,n,e,rfl,rfl,rfl⟩,z⟩
 ·refine⟨its.toList,r,⟨o,n,I.kIn a o hk,J,hd,by simpa using U⟩,?_⟩
  have e:=r.length
  simp only [Array.length_toList] at e
  omega
theorem Inv.tuple (I:Inv X pins σ H s)(h:eW X.K H a xs):∃ its:List Value,Vals xs its/\IsTup s.heap a its.toArray/\xs.length<=sizeLine:=by
 rcases h with h | ⟨o,its,n,hk,J,U,hz,r⟩
 ·obtain⟨z,its,r,p⟩:=h.ok I.hok
  exact⟨its,r,p,z⟩
 ·refine⟨its.toList,r,⟨o,I.kIn a o hk,J,n,by simpa using U⟩,?_⟩
  have e:=r.length
  simp only [Array.length_toList] at e
  omega
theorem Inv.list_inj (I:Inv X pins σ H s)(h:d4 X.K H a xs)(h':d4 X.K H a ys):xs=ys:=by
 obtain⟨J,r,⟨o,n,e,_,_,d⟩,_⟩:=I.list h
 obtain⟨its',r',⟨o',n',U,_,_,d'⟩,_⟩:=I.list h'
 rw [e] at U;cases U
 rw [d] at d'
 injection d' with d1 _
 have:J=its':=by simpa using congrArg Array.toList d1
 subst this
 exact r.inj r'
theorem Inv.tuple_inj (I:Inv X pins σ H s)(h:eW X.K H a xs)(h':eW X.K H a ys):xs=ys:=by
 obtain⟨J,r,⟨o,e,_,n,d⟩,_⟩:=I.tuple h
 obtain⟨its',r',⟨o',U,_,n',d'⟩,_⟩:=I.tuple h'
 rw [e] at U;cases U
 rw [d] at d'
 injection d' with d1 _
 have:J=its':=by simpa using congrArg Array.toList d1
 subst this
 exact r.inj r'
end
abbrev Cx.wish (X:Cx)(E:Value->Shared->Prop):Cx:={X with xe:=E}
abbrev Cx.nox (X:Cx):Cx:=X.wish fun _ _=>False
theorem Cx.Ok.wish {X:Cx}(ok:X.Ok)(E:Value->Shared->Prop):(X.wish E).Ok:=
 ⟨ok.mod,ok.kind,ok.glob,ok.blt,ok.above,ok.inj,ok.has,ok.cab,ok.hd,ok.frames,ok.stk,ok.exf,ok.bs,ok.bsz,ok.noex,ok.exfs,ok.funs,ok.frf⟩
theorem Cx.Ok.unwish {X:Cx}{E:Value->Shared->Prop}(ok:(X.wish E).Ok):X.Ok:=
 ⟨ok.mod,ok.kind,ok.glob,ok.blt,ok.above,ok.inj,ok.has,ok.cab,ok.hd,ok.frames,ok.stk,ok.exf,ok.bs,ok.bsz,ok.noex,ok.exfs,ok.funs,ok.frf⟩
section
variable {X : Cx} {pins : List (Addr × Obj)} {σ : St} {H : Hp} {s : Shared} {E : Value -> Shared -> Prop}
theorem Inv.wish (I:Inv X pins σ H s)(E:Value->Shared->Prop):Inv (X.wish E) pins σ H s:=⟨I.ok.wish E,I.os,I.bare,I.base,I.loc,I.cell,I.free,I.freeC,I.pin,I.hok,I.len⟩
theorem Inv.unwish (I:Inv (X.wish E) pins σ H s):Inv X pins σ H s:=⟨I.ok.unwish,I.os,I.bare,I.base,I.loc,I.cell,I.free,I.freeC,I.pin,I.hok,I.len⟩
theorem SP.unwish {D:Ends}{f:Flow}{s':Shared}(h:SP (X.wish E) pins D f s'):SP X pins D f s':=by
 cases f with
 | next=>obtain⟨J,H',I,q⟩:=h;exact⟨J,H',I.unwish,q⟩
 | brk=>obtain⟨J,H',I,q⟩:=h;exact⟨J,H',I.unwish,q⟩
 | cont=>obtain⟨J,H',I,q⟩:=h;exact⟨J,H',I.unwish,q⟩
 | ret u=>obtain⟨v,J,H',I,r,q⟩:=h;exact⟨v,J,H',I.unwish,r,q⟩
theorem eK.nox {st:List Stmt}{t:TS}(h:eK X.nox st t):eK X st t:=fun pins s σ H D I hw=>
 wpAny_mono (h pins s σ H D (I.wish _) hw) (fun _ _ q=>q.unwish) fun _ _ z=>False.elim z
end
section
variable {X : Cx} {st : Stmt} {rest : List Stmt} {t u : TS} {e : Expr} {te : TE} {pos : Pos}
def CL:TS:=fun D σ H=>D.nx σ H
def qh(t u:TS):TS:=fun D σ H=>t {D with nx:=u D} σ H
theorem fB:eK X [] CL:=fun _ _ σ H _ I h=>wpAny_execs_nil ⟨σ,H,I,h⟩
theorem d6(h1:PS X st t)(h2:eK X rest u):eK X (st::rest) (qh t u):=by
 intro pins s σ H D I h
 refine wpAny_execs_cons (eJ (h1 pins s σ H {D with nx:=u D} I h) fun f s1 q=>?_)
 cases f with
 | next=>
  obtain⟨J,H',U,q⟩:=q
  exact h2 pins s1 J H' D U q
 | ret v=>exact q
 | brk=>exact q
 | cont=>exact q
theorem d9(h1:PS X st t):eK X [st] t:=by
 intro pins s σ H D I h
 refine wpAny_execs_cons (eJ (h1 pins s σ H D I h) fun f s1 q=>?_)
 cases f with
 | next=>exact wpAny_execs_nil q
 | ret v=>exact q
 | brk=>exact q
 | cont=>exact q
theorem Inv.quiet {pins:List (Addr×Obj)}{σ:St}{H:Hp}{s:Shared}(I:Inv X pins σ H s):interactive X.env=false:=by simp [interactive,I.ok.kind]
def AW(te:TE):TS:=fun D σ H=>te σ H fun _ H1=>D.nx σ H1
theorem gq(he:PE X e te)(hs:swapsWith e none pos.line X.env=pure false:=by rfl):PS X (.Expr e pos) (AW te):=by
 intro pins s σ H D I h
 exact wpAny_Expr_any (eJ (he pins s σ H _ I h) fun v s1 ⟨x,H1,J,r1,U⟩=>⟨σ,H1,J,U⟩) I.quiet hs
def Br(te:TE):TS:=fun D σ H=>te σ H D.rt
theorem eG(he:PE X e te):PS X (.Return (some e) pos) (Br te):=by
 intro pins s σ H D I h
 exact wpAny_Return_some (eJ (he pins s σ H _ I h) fun v s1 ⟨x,H1,J,U,q1⟩=>⟨x,σ,H1,J,U,q1⟩)
def Di(c:TT)(t u:TS):TS:=fun D σ H=>c σ H fun b H1=>if b=true then t D σ H1 else u D σ H1
theorem fE{c:Expr}{a b:List Stmt}{tc:TT}(hc:PT X c tc)(ha:eK X a t)(hb:eK X b u):PS X (.If c a b pos) (Di tc t u):=by
 intro pins s σ H D I h
 refine wpAny_If (eJ (hc pins s σ H _ I h) fun d s1 ⟨H1,J,U⟩=>?_)
 cases d with
 | true=>exact ha pins s1 σ H1 D J U
 | false=>exact hb pins s1 σ H1 D J U
def BG:TS:=fun _ _ _=>False
theorem jF:PS X st BG:=fun _ _ _ _ _ _ h=>h.elim
end
abbrev TG:=V->St->Hp->(St->Hp->Prop)->Prop
abbrev jQ:=List V->St->Hp->(St->Hp->Prop)->Prop
def PG(X:Cx)(target:Expr)(t:TG):Prop:=
 ∀(pins:List (Addr×Obj)) (s:Shared) (σ:St) (H:Hp) (v:V) (u:Value) (Q:St->Hp->Prop),Inv X pins σ H s->RelV v u->t v σ H Q->
  wpAny (model X.prog X.w) X.A (assign target X.env u) (fun _ s'=>∃ I H',Inv X pins I H' s'/\Q I H') X.xe s
def eV(X:Cx)(ts:List Expr)(t:jQ):Prop:=
 ∀(pins:List (Addr×Obj)) (s:Shared) (σ:St) (H:Hp) (vs:List V) (us:List Value) (Q:St->Hp->Prop),Inv X pins σ H s->Vals vs us->t vs σ H Q->
  wpAny (model X.prog X.w) X.A (assignInOrder ((assignEach ts X.env).map (·.2)) us) (fun _ s'=>∃ I H',Inv X pins I H' s'/\Q I H') X.xe s
abbrev tf:=V->V->V->Hp->(Hp->Prop)->Prop
def xH(X:Cx)(t:tf):Prop:=
 ∀(pins:List (Addr×Obj)) (s:Shared) (σ:St) (H:Hp) (o i v:V) (I J u:Value) (Q:Hp->Prop),Inv X pins σ H s->RelV o I->RelV i J->RelV v u->t o i v H Q->
  wpAny (model X.prog X.w) X.A (setItem I J u) (fun _ s'=>∃ H',Inv X pins σ H' s'/\Q H') X.xe s
abbrev qJ:=V->V->Hp->VK->Prop
def xy(X:Cx)(op:Operator)(t:qJ):Prop:=
 ∀(pins:List (Addr×Obj)) (s:Shared) (σ:St) (H:Hp) (x y:V) (v u:Value) (Q:VK),Inv X pins σ H s->RelV x v->RelV y u->t x y H Q->
  wpAny (model X.prog X.w) X.A (inplaceOp op v u) (EP X pins σ Q) X.xe s
section
variable {X : Cx} {pos : Pos}
def jT(i:Nat):TG:=fun v σ H Q=>Q (σ.set i (some v)) H
theorem eO{i:Nat}{x:Str}(hN:X.N.Nodup)(hi:X.N[i]? =some x)(hx:Loc X.env.scope x)(hf:X.fn x=true\/X.env.scope.names.lookup x=some .local:=by first | exact .inl rfl | exact .inr rfl | assumption):PG X (.Name x pos) (jT i):=by
 intro pins s σ H v u Q I r h
 exact wpAny_assign_Name (uJ I hN hi hx r (fun s' J=>⟨_,H,J,h⟩) hf)
def yB:jQ:=fun vs σ H Q=>vs=[]/\Q σ H
def vH(t:TG)(u:jQ):jQ:=fun vs σ H Q=>∃ v r,vs=v::r/\t v σ H fun I H'=>u r I H' Q
theorem iC:eV X [] yB:=by
 intro pins s σ H vs us Q I r h
 obtain⟨e,h⟩:=h
 subst e
 cases r
 exact assignInOrder_nil ⟨σ,H,I,h⟩
theorem gh{e:Expr}{es:List Expr}{t:TG}{u:jQ}(h1:PG X e t)(h2:eV X es u)
  (hs:(assignEach (e::es) X.env).map (·.2)=assign e X.env::(assignEach es X.env).map (·.2):=by rfl):eV X (e::es) (vH t u):=by
 intro pins s σ H vs us Q I r h
 obtain⟨v,vr,U,h⟩:=h
 subst U
 cases r with
 | cons r rr=>
  rw [hs]
  refine assignInOrder_cons (eJ (h1 pins s σ H _ _ _ I r h) fun _ s1 ⟨J,H1,I1,q1⟩=>?_)
  exact h2 pins s1 J H1 _ _ Q I1 rr q1
def zK(K:W.Frag)(n:Nat)(t:jQ):TG:=fun v σ H Q=>∃ a xs,v= .ref a/\eW K H a xs/\xs.length=n/\t xs σ H Q
theorem iz{es:List Expr}{k:Nat}{t:jQ}{n:Nat}(hc:X.calm=true)(h:eV X es t)
  (hn:(assignEach es X.env).length=n:=by rfl)(hst:(assignEach es X.env).findIdx? (·.1)=none:=by rfl):PG X (.Tuple es k pos) (zK X.K n t):=by
 intro pins s σ H v u Q I r hw
 obtain⟨a,xs,U,hq,hl,hw⟩:=hw
 subst U
 cases r
 obtain⟨aa,J,ht,hz⟩:=I.tuple hq
 refine assign_Tuple_tuple (I.ok.hd hc) ht (by simp [hn,<-hl,J.length]) hst fun h' hx=>?_
 have I1:Inv X pins σ H {s with heap:=h'}:=I.kept (t':=s.toks) fun b o e=>hx b o (Nat.ne_of_lt (Heap.lt_size e)) e
 exact h pins _ σ H xs _ Q I1 (by simpa using J) hw
def uZ(to ti:TE)(t:tf):TG:=fun v σ H Q=>to σ H fun o H1=>ti σ H1 fun i H2=>t o i v H2 fun I=>Q σ I
theorem Es{o i:Expr}{to ti:TE}{t:tf}(ho:PE X o to)(hi:PE X i ti)(hs:xH X t)
  (ha:∀ v,assign (.Subscript o i pos) X.env v=(do
   let ov<-holding [v] (eval o X.env)
   let iv<-holding [v,ov] (eval i X.env)
   standAt pos
   holding [v,ov,iv] (setItem ov iv v)
   release [v,ov,iv] []):=by intro _;rfl):PG X (.Subscript o i pos) (uZ to ti t):=by
 intro pins s σ H v u Q I r h
 rw [ha]
 refine wpAny_bind (wpAny_holding (eJ (ho pins s σ H _ I h) fun ov s1 ⟨x,H1,J,U,q1⟩=>?_))
 refine wpAny_bind (wpAny_holding (eJ (hi pins s1 σ H1 _ J q1) fun iv s2 ⟨y,H2,I2,r2,q2⟩=>?_))
 refine wpAny_bind (wpAny_standAt (wpAny_bind (wpAny_holding (eJ (hs pins s2 σ H2 x y v ov iv u _ I2 U r2 r q2) fun _ s3 ⟨H3,I3,q3⟩=>?_))))
 exact wpAny_release ⟨σ,H3,I3,q3⟩
def uM(te:TE)(g:TG):TS:=fun D σ H=>te σ H fun x H1=>g x σ H1 D.nx
theorem Gd{tg e:Expr}{te:TE}{g:TG}(he:PE X e te)(hg:PG X tg g)(hs:swapsWithSole [tg] e pos.line X.env=pure false:=by rfl)(hw:swappedStores [tg] e X.env=pure none:=by rfl)
  (h1:(assignEach [tg] X.env).map (·.2)=[assign tg X.env]:=by rfl):PS X (.Assign [tg] e pos) (uM te g):=by
 intro pins s σ H D I h
 refine wpAny_Assign_stores (eJ (he pins s σ H _ I h) fun v s1 ⟨x,H1,J,U,q1⟩=>?_) hs hw
 rw [h1]
 exact eJ (hg pins s1 σ H1 x v _ J U q1) fun _ s2 q=>q
theorem eE{i:Nat}{x:Str}{e:Expr}{te:TE}{pos':Pos}(hN:X.N.Nodup)(hi:X.N[i]? =some x)(hx:Loc X.env.scope x)(he:PE X e te)(hs:swapsWith e (some (.Name x pos')) pos.line X.env=pure false:=by rfl)(hf:X.fn x=true\/X.env.scope.names.lookup x=some .local:=by first | exact .inl rfl | exact .inr rfl | assumption):
  PS X (.Assign [.Name x pos'] e pos) (uM te (jT i)):=by
 intro pins s σ H D I h
 refine wpAny_Assign_Name (eJ (he pins s σ H _ I h) fun v s1 ⟨y,H1,J,U,q1⟩=>?_) hs
 exact uJ J hN hi hx U (fun s2 I2=>⟨_,H1,I2,q1⟩) hf
def Fx(i:Nat)(te:TE)(ti:qJ):TS:=fun D σ H=>∃ x,σ[i]? =some (some x)/\te σ H fun y H1=>ti x y H1 fun z H2=>D.nx (σ.set i (some z)) H2
theorem Ca{i:Nat}{x:Str}{e:Expr}{te:TE}{op:Operator}{ti:qJ}{pos':Pos}(hN:X.N.Nodup)(hi:X.N[i]? =some x)(hx:Loc X.env.scope x)(he:PE X e te)(ho:xy X op ti)(hf:X.fn x=true\/X.env.scope.names.lookup x=some .local:=by first | exact .inl rfl | exact .inr rfl | assumption):
  PS X (.AugAssign (.Name x pos') op e pos) (Fx i te ti):=by
 intro pins s σ H D I h
 obtain⟨v,e1,h⟩:=h
 obtain⟨m,hn,hl⟩:=I.loc
 have ab:qq X.env.scope x:=by rcases hx with k | k;exact .inl k;exact .inr (.inl k)
 obtain⟨u,r,l⟩:=hl i x v hi e1 ab
 refine wpAny_AugAssign_Name ?_
 have go:wpAny (model X.prog X.w) X.A (eval e X.env) (fun w U=>wpAny (model X.prog X.w) X.A (inplaceOp op u w) (fun r aa=>wpAny (model X.prog X.w) X.A (storeName X.env x r) (fun _=>SP X pins D .next) X.xe aa) X.xe U) X.xe s:=by
  refine eJ (he pins s σ H _ I h) fun w s1 ⟨y,H1,I1,r1,q1⟩=>?_
  refine eJ (ho pins s1 σ H1 v y u w _ I1 r r1 q1) fun z s2 ⟨zv,H2,I2,r2,q2⟩=>?_
  exact uJ I2 hN hi hx r2 (fun s3 I3=>⟨_,H2,I3,q2⟩) hf
 rcases l with ⟨hk,hm⟩ | ⟨hk,c,hc,J⟩
 ·exact wpAny_loadName_local I.ok.kind hk hn hm go
 ·rcases hk with hk | hk
  ·exact wpAny_loadName_cell I.ok.kind hk hc J go
  ·rcases hx with k | k
   ·have:X.env.scope.names.lookup x=some .free:=hk
    rw [k] at this;cases this
   ·have:X.env.scope.names.lookup x=some .free:=hk
    rw [k] at this;cases this
def Aj(f:Int->Int->Int):qJ:=fun x y H Q=>∃ i j,x= .int i/\y= .int j/\Q (.int (f i j)) H
theorem El:xy X .Add (Aj fun i j=>i + j):=by
 intro pins s σ H x y v u Q I J U h
 obtain⟨i,j,e1,e2,q⟩:=h
 subst e1;subst e2
 obtain⟨t,rfl⟩:=J
 obtain⟨t',rfl⟩:=U
 exact iadd_int ⟨.int _,H,I.tok _,⟨_,rfl⟩,q⟩
def yD(c:TT)(tb:TS):TS:=fun D σ H=>∃ W:Nat->St->Hp->Prop,(∃ m,W m σ H)/\∀ m σ H,W m σ H->
 c σ H fun b H1=>if b=true then ∃ N:St->Hp->Prop,(∀ I H',N I H'->∃ J,J < m/\W J I H')/\tb {D with nx:=N,ct:=N,bk:=D.nx} σ H1 else D.nx σ H1
theorem ux{c:Expr}{body:List Stmt}{tc:TT}{tb:TS}(hp:PassesOwn (model X.prog X.w) X.A X.env X.xe)(hc:PT X c tc)(hb:eK X body tb):PS X (.While c body [] pos) (yD tc tb):=by
 intro pins s σ H D I h
 obtain⟨W,⟨m0,w0⟩,turn⟩:=h
 refine wpAny_While (codeAny_whileLoop (fun n s'=>∃ aa H',Inv X pins aa H' s'/\W n aa H') ?_ m0 ⟨σ,H,I,w0⟩)
 rintro n s1 ⟨U,H1,I1,w1⟩
 refine wpAny_passesOwn hp (eJ (hc pins s1 U H1 _ I1 (turn n U H1 w1)) fun b s2 ⟨H2,I2,q2⟩=>?_)
 cases b with
 | true=>
  obtain⟨N,hN,q2⟩:=q2
  rw [if_pos rfl]
  refine wpAny_passesOwn hp (eJ (hb pins s2 U H2 _ I2 q2) fun f s3 q3=>?_)
  cases f with
  | next=>
   obtain⟨J,H3,I3,n3⟩:=q3
   obtain⟨m',hm,w3⟩:=hN J H3 n3
   exact⟨m',hm,J,H3,I3,w3⟩
  | cont=>
   obtain⟨J,H3,I3,n3⟩:=q3
   obtain⟨m',hm,w3⟩:=hN J H3 n3
   exact⟨m',hm,J,H3,I3,w3⟩
  | brk=>exact q3
  | ret v=>exact q3
 | false=>
  rw [if_neg Bool.false_ne_true]
  exact wpAny_execs_nil ⟨U,H2,I2,q2⟩
end
structure It where
 go : Nat -> Hp -> Prop
 yld : Nat -> Hp -> V -> Hp -> Prop
 stop : Nat -> Hp -> Prop
def jY(X:Cx)(pins:List (Addr×Obj))(H:Hp)(b:Addr):Prop:=
 H b=none/\b≠X.env.locals/\b∉X.fs/\(b∈X.ex\/X.s₀.heap.objs.size<=b)/\(∀ x c,X.env.cells.lookup x=some c->c≠b)/\∀ p∈X.pn++pins,p.1≠b
theorem Inv.fpOk {X:Cx}{pins:List (Addr×Obj)}{σ:St}{H H':Hp}{s:Shared}{b:Addr}(I:Inv X pins σ H s)(hb:s.heap.objs.size<=b)(hn:H' b=none):jY X pins H' b:=by
 refine⟨hn,Nat.ne_of_gt (Nat.lt_of_lt_of_le I.lt hb),I.nofs hb,.inr (Nat.le_trans I.sz hb),fun x c e z=>?_,fun p J z=>?_⟩
 ·obtain⟨v,q⟩:=I.cell x c e
  exact absurd (Nat.lt_of_lt_of_le q.lt (by rw [z];exact hb)) (Nat.lt_irrefl _)
 ·exact absurd (Nat.lt_of_lt_of_le (Heap.lt_size (I.pin p J).1) (by rw [z];exact hb)) (Nat.lt_irrefl _)
structure Turn (P : Program) (w : World) (K : W.Frag) (tg : Expr) (J : It) (fp : List Addr) (it : Addr) (tn : Nat -> Heap -> Prop) : Prop where
 mem : it ∈ fp
 obj : ∀ i h, tn i h -> ∀ b ∈ fp, ∃ o, h.get? b = some o /\ ∀ v, o.data ≠ .cell v
 keep : ∀ i h h', tn i h -> (∀ b ∈ fp, ∀ o, h.get? b = some o -> h'.get? b = some o) -> tn i h'
 item : ∀ (X : Cx), X.prog = P -> X.w = w -> X.K = K -> X.calm = true -> ∀ (i : Nat) (pins : List (Addr × Obj)) (s : Shared) (σ : St) (H : Hp) (E : Value -> Shared -> Prop), Inv X pins σ H s -> (∀ b ∈ fp, jY X pins H b) -> tn i s.heap -> J.go i H ->
  wpAny (model P w) X.A (pyNext (.ref it)) (fun r s1 => ∃ u, r = some u /\
   wpAny (model P w) X.A (letOwnedTupleGo tg (.ref it) u) (fun _ s2 => ∃ x H', Inv X pins σ H' s2 /\ RelV x u /\ J.yld i H x H' /\ tn (i + 1) s2.heap /\ ∀ b ∈ fp, H' b = none) E s1) E s
 done : ∀ (X : Cx), X.prog = P -> X.w = w -> X.K = K -> X.calm = true -> ∀ (i : Nat) (pins : List (Addr × Obj)) (s : Shared) (σ : St) (H : Hp) (E : Value -> Shared -> Prop), Inv X pins σ H s -> (∀ b ∈ fp, jY X pins H b) -> tn i s.heap -> J.stop i H ->
  wpAny (model P w) X.A (pyNext (.ref it)) (fun r s1 => r = none /\ Inv X pins σ H s1) E s
 self : ∀ (A : Around) (i : Nat) (s : Shared) (Q : Value -> Shared -> Prop) (E : Value -> Shared -> Prop), tn i s.heap -> Q (.ref it) s -> wpAny (model P w) A (pyIter (.ref it)) Q E s
abbrev TI:=St->Hp->(It->Hp->Prop)->Prop
def yf(X:Cx)(pins:List (Addr×Obj))(σ:St)(tg:Expr)(R:It->Hp->Prop)(itv:Value)(s2:Shared):Prop:=
 ∃(it:Addr) (fp:List Addr) (I:Nat->Heap->Prop) (J:It) (H':Hp),itv= .ref it/\Inv X pins σ H' s2/\Turn X.prog X.w X.K tg J fp it I/\I 0 s2.heap/\(∀ b∈fp,jY X pins H' b)/\R J H'
def PI(X:Cx)(tg iter:Expr)(wi:TI):Prop:=
 ∀(pins:List (Addr×Obj)) (s:Shared) (σ:St) (H:Hp) (R:It->Hp->Prop),Inv X pins σ H s->wi σ H R->
  wpAny (model X.prog X.w) X.A (eval iter X.env) (fun v s1=>wpAny (model X.prog X.w) X.A (pyIter v) (yf X pins σ tg R) X.xe s1) X.xe s
theorem pC {M : Model} {A : Around} {E : Value -> Shared -> Prop} {s : Shared} {tg : Expr} {it : Addr} {u : Value} {o : Obj} {n : String} {vs : Array Value} {Q : Unit -> Shared -> Prop} (ho : s.heap.get? it = some o) (hc : o.cls = .type n) (hd : o.data = .fields vs)
  (hn : ["enumerate", "zip", "dict_itemiterator", "dict_reverseitemiterator", "odict_iterator", "itertools.zip_longest", "itertools.pairwise"].contains n = false) (hQ : Q () s) : wpAny M A (letOwnedTupleGo tg (.ref it) u) Q E s := by
 unfold letOwnedTupleGo
 cases tg <;> first
  | exact wpAny_pure hQ
  | (cases u <;> first
    | exact wpAny_pure hQ
    | (refine wpAny_bind (wpAny_load ho ?_)
       rw [hc, hd]
       show wpAny M A (if (["enumerate", "zip", "dict_itemiterator", "dict_reverseitemiterator", "odict_iterator", "itertools.zip_longest", "itertools.pairwise"].contains n && vs[0]? == some (rawInt _)) = true then _ else _) Q E s
       rw [if_neg (by intro h; rw [hn, Bool.false_and] at h; cases h)]
       exact wpAny_pure hQ))
def nA(K:W.Frag)(a:Addr):It:=
 ⟨fun i H=>∃ xs x,d4 K H a xs/\xs[i]? =some x,fun i H x H'=>H'=H/\∀ xs,d4 K H a xs->xs[i]? =some x,fun i H=>∃ xs,d4 K H a xs/\xs.length<=i⟩
def oY(K:W.Frag)(a:Addr):It:=
 ⟨fun i H=>∃ xs x,eW K H a xs/\xs[i]? =some x,fun i H x H'=>H'=H/\∀ xs,eW K H a xs->xs[i]? =some x,fun i H=>∃ xs,eW K H a xs/\xs.length<=i⟩
def mh(lo:Int)(n:Nat):It:=⟨fun i _=>i < n,fun i H x H'=>H'=H/\x= .int (lo + i),fun i _=>n<=i⟩
theorem Ac{P:Program}{w:World}{K:W.Frag}{tg:Expr}(a it:Addr):Turn P w K tg (nA K a) [it] it (fun i h=>h.IsListIter it a i) where
 mem:=by simp
 obj:=fun i h st b hb=>by
  have e:b=it:=by simpa using hb
  subst e
  obtain⟨o,e,c,d⟩:=st
  exact⟨o,e,fun v z=>by rw [d] at z;cases z⟩
 keep:=fun i h h' st k=>st.at fun o e=>k it (by simp) o e
 item:=by
  intro X hP hw hK hc i pins s σ H E I hf st hg
  subst hP hw hK
  obtain⟨xs,x,U,hx⟩:=hg
  obtain⟨aa,rv,p,hz⟩:=I.list U
  obtain⟨u,hu,ru⟩:=rv.get hx
  obtain⟨f0,f1,f2,f3,f4,f5⟩:=hf it (by simp)
  refine wpAny_pyNext_list_item st p.isList (x:=u) (by simpa using hu) fun h' J sb=>?_
  have I1:Inv X pins σ H {s with heap:=h'}:=I.turned (t':=s.toks) (fun b o hb e=>(sb.2 b hb).trans e) f0 f1 f3 f4 f5
  obtain⟨o,e,c,d⟩:=id J
  exact⟨u,rfl,pC (s:={s with heap:=h'}) e c d (by decide) ⟨x,H,I1,ru,⟨rfl,fun ys hy=>by rw [I.list_inj hy U];exact hx⟩,J,fun b hb=>(hf b hb).1⟩⟩
 done:=by
  intro X hP hw hK hc i pins s σ H E I hf st hg
  subst hP hw hK
  obtain⟨xs,U,hx⟩:=hg
  obtain⟨aa,rv,p,hz⟩:=I.list U
  obtain⟨f0,f1,f2,f3,f4,f5⟩:=hf it (by simp)
  have hl:=rv.length
  exact wpAny_pyNext_list_end (I.ok.hd hc) st p.isList (by simp;omega) fun h' eb=>⟨rfl,I.turned (t':=s.toks) (fun b o hb e=>eb b o hb e) f0 f1 f3 f4 f5⟩
 self:=fun _ _ _ _ _ st h=>wpAny_pyIter_listiter st h
theorem Bx{P:Program}{w:World}{K:W.Frag}{tg:Expr}(a it:Addr):Turn P w K tg (oY K a) [it] it (fun i h=>h.IsTupleIter it a i) where
 mem:=by simp
 obj:=fun i h st b hb=>by
  have e:b=it:=by simpa using hb
  subst e
  obtain⟨o,e,c,d⟩:=st
  exact⟨o,e,fun v z=>by rw [d] at z;cases z⟩
 keep:=fun i h h' st k=>st.at fun o e=>k it (by simp) o e
 item:=by
  intro X hP hw hK hc i pins s σ H E I hf st hg
  subst hP hw hK
  obtain⟨xs,x,hq,hx⟩:=hg
  obtain⟨J,rv,p,hz⟩:=I.tuple hq
  obtain⟨u,hu,ru⟩:=rv.get hx
  obtain⟨f0,f1,f2,f3,f4,f5⟩:=hf it (by simp)
  refine wpAny_pyNext_tuple_item st (show s.heap.IsTuple a J.toArray from p) (x:=u) (by simpa using hu) fun h' U sb=>?_
  have I1:Inv X pins σ H {s with heap:=h'}:=I.turned (t':=s.toks) (fun b o hb e=>(sb.2 b hb).trans e) f0 f1 f3 f4 f5
  obtain⟨o,e,c,d⟩:=id U
  exact⟨u,rfl,pC (s:={s with heap:=h'}) e c d (by decide) ⟨x,H,I1,ru,⟨rfl,fun ys hy=>by rw [I.tuple_inj hy hq];exact hx⟩,U,fun b hb=>(hf b hb).1⟩⟩
 done:=by
  intro X hP hw hK hc i pins s σ H E I hf st hg
  subst hP hw hK
  obtain⟨xs,hq,hx⟩:=hg
  obtain⟨J,rv,p,hz⟩:=I.tuple hq
  obtain⟨f0,f1,f2,f3,f4,f5⟩:=hf it (by simp)
  have hl:=rv.length
  exact wpAny_pyNext_tuple_end (I.ok.hd hc) st (show s.heap.IsTuple a J.toArray from p) (by simp;omega) fun h' eb=>⟨rfl,I.turned (t':=s.toks) (fun b o hb e=>eb b o hb e) f0 f1 f3 f4 f5⟩
 self:=fun _ _ _ _ _ st h=>wpAny_pyIter_tupleiter st h
theorem Hc{P:Program}{w:World}{K:PySem.W.Frag}{tg:Expr}(it:Addr)(lo:Int)(n:Nat):Turn P w K tg (mh lo n) [it] it (fun i h=>IsRangeIter h it (lo + (i:Nat) * 1) ((n:Int) - (i:Nat)) 1) where
 mem:=by simp
 obj:=fun i h st b hb=>by
  have e:b=it:=by simpa using hb
  subst e
  exact⟨_,st,fun v z=>by
   have z':Data.fields _=Data.cell v:=z
   cases z'⟩
 keep:=fun i h h' st k=>k it (by simp) _ st
 item:=by
  intro X U hw hK hc i pins s σ H E I hf st hg
  subst U hw hK
  obtain⟨f0,f1,f2,f3,f4,f5⟩:=hf it (by simp)
  have W:=Walks.range (prog:=X.prog) (w:=X.w) (I.ok.hd hc) it lo 1 n
  refine W.item i s _ _ hg st fun v h' tk hv J kk=>?_
  obtain⟨t,rfl⟩:=hv
  have I1:Inv X pins σ H {s with heap:=h',toks:=tk}:=I.turned (fun b o hb e=>kk b o (by simpa using hb) e) f0 f1 f3 f4 f5
  refine⟨_,rfl,pC (s:={s with heap:=h',toks:=tk}) (n:="range_iterator") J rfl rfl (by decide) ⟨.int (lo + i),H,I1,⟨t,?_⟩,⟨rfl,rfl⟩,J,fun b hb=>(hf b hb).1⟩⟩
  rw [Int.mul_one]
 done:=by
  intro X U hw hK hc i pins s σ H E I hf st hg
  subst U hw hK
  obtain⟨f0,f1,f2,f3,f4,f5⟩:=hf it (by simp)
  exact wpAny_pyNext_range_end (I.ok.hd hc) st (by have:n<=i:=hg;omega) fun h' eb=>⟨rfl,I.turned (t':=s.toks) (fun b o hb e=>eb b o hb e) f0 f1 f3 f4 f5⟩
 self:=fun _ _ _ _ _ st h=>wpAny_pyIter_rangeiter st h
section
variable {X : Cx} {tg : Expr}
def Bb(K:W.Frag)(tl:TE):TI:=fun σ H R=>tl σ H fun x H1=>∃ a,x= .ref a/\(∃ xs,d4 K H1 a xs)/\R (nA K a) H1
def Eu(K:W.Frag)(tl:TE):TI:=fun σ H R=>tl σ H fun x H1=>∃ a,x= .ref a/\(∃ xs,eW K H1 a xs)/\R (oY K a) H1
theorem gu{l:Expr}{tl:TE}(hl:PE X l tl):PI X tg l (Bb X.K tl):=by
 intro pins s σ H R I h
 refine eJ (hl pins s σ H _ I h) fun v s1 ⟨x,H1,J,U,q1⟩=>?_
 obtain⟨a,e,⟨xs,hq⟩,q⟩:=q1
 subst e
 cases U
 obtain⟨aa,rv,p,hz⟩:=J.list hq
 refine wpAny_pyIter_list p.isList ?_
 refine⟨s1.heap.objs.size,[s1.heap.objs.size],_,_,H1,rfl,J.kept (t':=s1.toks) fun b o e=>Heap.get?_push_of_some _ e,Ac a _,⟨_,Heap.get?_push_size _ rfl,rfl,rfl⟩,fun b hb=>?_,q⟩
 have e:b=s1.heap.objs.size:=by simpa using hb
 subst e
 exact J.fpOk (Nat.le_refl _) (J.hok.fresh (Nat.le_refl _))
theorem wK{l:Expr}{tl:TE}(hl:PE X l tl):PI X tg l (Eu X.K tl):=by
 intro pins s σ H R I h
 refine eJ (hl pins s σ H _ I h) fun v s1 ⟨x,H1,J,r1,q1⟩=>?_
 obtain⟨a,e,⟨xs,hq⟩,q⟩:=q1
 subst e
 cases r1
 obtain⟨U,rv,p,hz⟩:=J.tuple hq
 refine wpAny_pyIter_tuple (show s1.heap.IsTuple a U.toArray from p) ?_
 refine⟨s1.heap.objs.size,[s1.heap.objs.size],_,_,H1,rfl,J.kept (t':=s1.toks) fun b o e=>Heap.get?_push_of_some _ e,Bx a _,⟨_,Heap.get?_push_size _ rfl,rfl,rfl⟩,fun b hb=>?_,q⟩
 have e:b=s1.heap.objs.size:=by simpa using hb
 subst e
 exact J.fpOk (Nat.le_refl _) (J.hok.fresh (Nat.le_refl _))
theorem Aa{pins:List (Addr×Obj)}{σ:St}{H:Hp}{s:Shared}{R:It->Hp->Prop}{E:Value->Shared->Prop}{lo hi:Int}{t u v:Tok}{tk:Nat}(I:Inv X pins σ H s)(h1: -(2 ^ 62)<=lo)(h2:lo < 2 ^ 62)(h3: -(2 ^ 62)<=hi)(h4:hi < 2 ^ 62)
  (q:R (mh lo (hi - lo).toNat) H):wpAny (model X.prog X.w) X.A (pyIter (.ref s.heap.objs.size)) (yf X pins σ tg R) E {s with heap:=s.heap.push {cls:= .type "range",data:= .fields #[.int lo t,.int hi u,.int 1 v]},toks:=tk}:=by
 refine wpAny_pyIter_range (IsRange.new ..) (small_one h1 h2 h3 h4) ?_
 have J:Inv X pins σ H {s with heap:=s.heap.push {cls:= .type "range",data:= .fields #[.int lo t,.int hi u,.int 1 v]},toks:=tk}:=I.kept fun b o e=>Heap.get?_push_of_some _ e
 refine⟨(s.heap.push {cls:= .type "range",data:= .fields #[.int lo t,.int hi u,.int 1 v]}).objs.size,[(s.heap.push {cls:= .type "range",data:= .fields #[.int lo t,.int hi u,.int 1 v]}).objs.size],_,_,H,rfl,
  J.kept (t':=tk) fun b o e=>Heap.get?_push_of_some _ e,Hc _ lo (hi - lo).toNat,?_,fun b hb=>?_,q⟩
 ·have U:lo + ((0:Nat):Int) * 1=lo:=by simp
  have e2:(((hi - lo).toNat:Nat):Int) - ((0:Nat):Int)=Builtin.Range.rangeSize lo hi 1:=by rw [rangeSize_one];split<;>omega
  show IsRangeIter _ _ (lo + ((0:Nat):Int) * 1) ((((hi - lo).toNat:Nat):Int) - ((0:Nat):Int)) 1
  rw [U,e2]
  exact Heap.get?_push_size _ rfl
 ·have e:b=(s.heap.push {cls:= .type "range",data:= .fields #[.int lo t,.int hi u,.int 1 v]}).objs.size:=by simpa using hb
  subst e
  exact J.fpOk (Nat.le_refl _) (J.hok.fresh (Nat.le_refl _))
def AN(ta:TA):TI:=fun σ H R=>ta σ H fun vs H1=>∃ j:Int,vs=[.int j]/\ -(2 ^ 62)<=j/\j < 2 ^ 62/\R (mh 0 j.toNat) H1
theorem iW{a:Expr}{ta:TA}{p pos:Pos}(hg:Gl X "range")(hm:X.mg "range"=none)(ha:PA X [a] ta)(hs:starEach [a] X.env=[(false,eval a X.env)]:=by rfl):PI X tg (.Call (.Name "range" p) [a] [] pos) (AN ta):=by
 intro pins s σ H R I h
 refine Call_ (nc I hg hm boot_range (PyProof.Rows.callWith_type1 (eJ (ha pos pins s σ H _ I h) fun us s1 ⟨vs,H1,U,r1,J⟩=>?_) hs rfl))
 obtain⟨j,e,J,q2,q⟩:=J
 subst e
 cases r1 with
 | cons r rr=>
  cases rr
  obtain⟨t,rfl⟩:=r
  exact call_range_1 (Aa U (by omega) (by omega) J q2 (by simpa using q))
def C5(wi:TI)(g:TG)(tb:TS):TS:=fun D σ H=>wi σ H fun J H1=>∃ W:Nat->Nat->St->Hp->Prop,(∃ m,W 0 m σ H1)/\∀ i m σ H,W i m σ H->
 (J.stop i H/\D.nx σ H)\/(J.go i H/\∃ N:St->Hp->Prop,(∀ I H',N I H'->∃ m',m' < m/\W (i + 1) m' I H')/\∀ x H',J.yld i H x H'->g x σ H' fun U H2=>tb {D with nx:=N,ct:=N,bk:=D.nx} U H2)
def pT(fp:List Addr)(h:Heap):List (Addr×Obj):=fp.filterMap fun b=>(h.get? b).map fun o=>(b,o)
theorem rh{fp:List Addr}{h:Heap}{b:Addr}{o:Obj}(hb:b∈fp)(e:h.get? b=some o):(b,o)∈pT fp h:=List.mem_filterMap.mpr ⟨b,hb,by rw [e];rfl⟩
theorem AE{fp:List Addr}{h:Heap}{p:Addr×Obj}(hp:p∈pT fp h):p.1∈fp/\h.get? p.1=some p.2:=by
 obtain⟨b,hb,e⟩:=List.mem_filterMap.mp hp
 cases q:h.get? b with
 | none=>rw [q] at e;cases e
 | some o=>
  rw [q] at e
  have I:(b,o)=p:=Option.some.inj e
  subst I
  exact⟨hb,q⟩
theorem Inv.pinned {pins:List (Addr×Obj)}{σ:St}{H:Hp}{s:Shared}{fp:List Addr}(I:Inv X pins σ H s)(hf:∀ b∈fp,jY X pins H b)(ho:∀ b∈fp,∃ o,s.heap.get? b=some o/\∀ v,o.data≠ .cell v):Inv X (pins++pT fp s.heap) σ H s:=
 I.pins_of fun p U=>(List.mem_append.mp U).elim (fun z=>I.pin p (List.mem_append_right _ z)) fun z=>by
  obtain⟨hb,e⟩:=AE z
  obtain⟨f0,f1,f2,_⟩:=hf p.1 hb
  obtain⟨o,J,d⟩:=ho p.1 hb
  rw [e] at J;cases J
  exact⟨e,f0,f1,f2,d⟩
theorem Inv.unpinned {pins pl:List (Addr×Obj)}{σ:St}{H:Hp}{s:Shared}(I:Inv X (pins++pl) σ H s):Inv X pins σ H s:=I.pins_of fun p J=>I.pin p (List.mem_append_right _ (List.mem_append_left _ J))
theorem fU{iter:Expr}{body:List Stmt}{wi:TI}{g:TG}{tb:TS}{pos:Pos}(hp:PassesOwn (model X.prog X.w) X.A X.env X.xe)(hc:X.calm=true)(hi:PI X tg iter wi)(hg:PG X tg g)(hb:eK X body tb)
  (hs:∀ x,foldedSetIterable iter X.env x=pure x:=by intro _;rfl):PS X (.For tg iter body [] pos) (C5 wi g tb):=by
 intro pins s σ H D I h
 refine wpAny_For (eJ (hi pins s σ H _ I h) fun v s1 h1=>eJ h1 fun aq s2 h2=>?_) hs
 obtain⟨it,fp,tn,J,H2,e,I2,T,ai,f2,W,⟨m0,w0⟩,turn⟩:=h2
 subst e
 have aa:∀{H':Hp},(∀ b∈fp,H' b=none)->∀ b∈fp,jY X pins H' b:=fun hn b hb=>⟨hn b hb,(f2 b hb).2⟩
 refine codeAny_forLoop_any (fun n s'=>∃ i ab H',Inv X pins ab H' s'/\tn i s'.heap/\(∀ b∈fp,H' b=none)/\W i n ab H') ?_ m0 ⟨0,σ,H2,I2,ai,fun b hb=>(f2 b hb).1,w0⟩
 rintro n s3 ⟨i,ae,H3,I3,ag,ah,w3⟩
 rcases turn i n ae H3 w3 with ⟨stop,qn⟩ | ⟨go,N,hN,step⟩
 ·refine wpAny_passesOwn hp (eJ (T.done X rfl rfl rfl hc i pins s3 ae H3 X.xe I3 (aa ah) ag stop) fun r s4 ⟨hr,I4⟩=>?_)
  subst hr
  exact wpAny_execs_nil ⟨ae,H3,I4,qn⟩
 ·refine wpAny_passesOwn hp (eJ (T.item X rfl rfl rfl hc i pins s3 ae H3 X.xe I3 (aa ah) ag go) fun r s4 ⟨u,hr,h4⟩=>?_)
  subst hr
  refine wpAny_passesOwn hp (eJ h4 fun _ s5 ⟨x,H5,I5,r5,y5,af,aj⟩=>?_)
  have ak:=I5.pinned (aa aj) (T.obj _ _ af)
  refine wpAny_passesOwn hp (eJ (hg _ s5 ae H5 x u _ ak r5 (step x H5 y5)) fun _ s6 ⟨ao,H6,I6,q6⟩=>?_)
  refine wpAny_passesOwn hp (eJ (hb _ s6 ao H6 _ I6 q6) fun f s7 q7=>?_)
  have again:∀{U:St} {H7:Hp},Inv X (pins++pT fp s5.heap) U H7 s7->N U H7->∃ m,m < n/\∃ i ab H',Inv X pins ab H' s7/\tn i s7.heap/\(∀ b∈fp,H' b=none)/\W i m ab H':=fun{U H7} I7 n7=>by
   obtain⟨m',hm,w7⟩:=hN U H7 n7
   refine⟨m',hm,i + 1,U,H7,I7.unpinned,T.keep _ _ _ af fun b hb o e=>(I7.pin (b,o) (List.mem_append_right _ (List.mem_append_right _ (rh hb e)))).1,fun b hb=>?_,w7⟩
   obtain⟨o,e,d⟩:=T.obj _ _ af b hb
   exact(I7.pin (b,o) (List.mem_append_right _ (List.mem_append_right _ (rh hb e)))).2.1
  cases f with
  | next=>obtain⟨U,H7,I7,n7⟩:=q7;exact again I7 n7
  | cont=>obtain⟨U,H7,I7,n7⟩:=q7;exact again I7 n7
  | brk=>obtain⟨U,H7,I7,q7⟩:=q7;exact⟨U,H7,I7.unpinned,q7⟩
  | ret v=>obtain⟨x7,U,H7,I7,r7,q7⟩:=q7;exact⟨x7,U,H7,I7.unpinned,r7,q7⟩
end
theorem iS{K:PySem.W.Frag}{a:Addr}{xs:List V}{g:TG}{tb:TS}{D:Ends}{σ:St}{H:Hp}(Pv:Nat->St->Hp->Prop)(h0:Pv 0 σ H)(hl:∀ i σ H,i<=xs.length->Pv i σ H->d4 K H a xs)
  (hs:∀ i x σ H,xs[i]? =some x->Pv i σ H->g x σ H fun σ2 H2=>tb {D with nx:=Pv (i + 1),ct:=Pv (i + 1),bk:=D.nx} σ2 H2)(hd:∀ σ H,Pv xs.length σ H->D.nx σ H):
  ∃ W:Nat->Nat->St->Hp->Prop,(∃ m,W 0 m σ H)/\∀ i m σ H,W i m σ H->
   ((nA K a).stop i H/\D.nx σ H)\/((nA K a).go i H/\∃ N:St->Hp->Prop,(∀ σ' H',N σ' H'->∃ m',m' < m/\W (i + 1) m' σ' H')/\∀ x H',(nA K a).yld i H x H'->g x σ H' fun σ2 H2=>tb {D with nx:=N,ct:=N,bk:=D.nx} σ2 H2):=by
 refine⟨fun i m σ H=>m=xs.length - i/\i<=xs.length/\Pv i σ H,⟨xs.length,by simp,Nat.zero_le _,h0⟩,?_⟩
 rintro i m σ H ⟨rfl,hi,p⟩
 have q:=hl i σ H hi p
 by_cases I:i < xs.length
 ·refine .inr ⟨⟨xs,xs[i],q,by simp [I]⟩,Pv (i + 1),fun σ' H' J=>⟨xs.length - (i + 1),by omega,rfl,I,J⟩,fun x H' y=>?_⟩
  obtain⟨e,y⟩:=y
  subst e
  exact hs i x σ _ (y xs q) p
 ·have e:i=xs.length:=by omega
  subst e
  exact .inl ⟨⟨xs,q,Nat.le_refl _⟩,hd σ H p⟩
theorem yQ{K:PySem.W.Frag}{a:Addr}{xs:List V}{g:TG}{tb:TS}{D:Ends}{σ:St}{H:Hp}(Pv:Nat->St->Hp->Prop)(h0:Pv 0 σ H)(hl:∀ i σ H,i<=xs.length->Pv i σ H->eW K H a xs)
  (hs:∀ i x σ H,xs[i]? =some x->Pv i σ H->g x σ H fun σ2 H2=>tb {D with nx:=Pv (i + 1),ct:=Pv (i + 1),bk:=D.nx} σ2 H2)(hd:∀ σ H,Pv xs.length σ H->D.nx σ H):
  ∃ W:Nat->Nat->St->Hp->Prop,(∃ m,W 0 m σ H)/\∀ i m σ H,W i m σ H->
   ((oY K a).stop i H/\D.nx σ H)\/((oY K a).go i H/\∃ N:St->Hp->Prop,(∀ σ' H',N σ' H'->∃ m',m' < m/\W (i + 1) m' σ' H')/\∀ x H',(oY K a).yld i H x H'->g x σ H' fun σ2 H2=>tb {D with nx:=N,ct:=N,bk:=D.nx} σ2 H2):=by
 refine⟨fun i m σ H=>m=xs.length - i/\i<=xs.length/\Pv i σ H,⟨xs.length,by simp,Nat.zero_le _,h0⟩,?_⟩
 rintro i m σ H ⟨rfl,hi,p⟩
 have q:=hl i σ H hi p
 by_cases I:i < xs.length
 ·refine .inr ⟨⟨xs,xs[i],q,by simp [I]⟩,Pv (i + 1),fun σ' H' J=>⟨xs.length - (i + 1),by omega,rfl,I,J⟩,fun x H' y=>?_⟩
  obtain⟨e,y⟩:=y
  subst e
  exact hs i x σ _ (y xs q) p
 ·have e:i=xs.length:=by omega
  subst e
  exact .inl ⟨⟨xs,q,Nat.le_refl _⟩,hd σ H p⟩
theorem jM{lo:Int}{n:Nat}{g:TG}{tb:TS}{D:Ends}{σ:St}{H:Hp}(Pv:Nat->St->Hp->Prop)(h0:Pv 0 σ H)
  (hs:∀ i σ H,i < n->Pv i σ H->g (.int (lo + i)) σ H fun σ2 H2=>tb {D with nx:=Pv (i + 1),ct:=Pv (i + 1),bk:=D.nx} σ2 H2)(hd:∀ σ H,Pv n σ H->D.nx σ H):
  ∃ W:Nat->Nat->St->Hp->Prop,(∃ m,W 0 m σ H)/\∀ i m σ H,W i m σ H->
   ((mh lo n).stop i H/\D.nx σ H)\/((mh lo n).go i H/\∃ N:St->Hp->Prop,(∀ σ' H',N σ' H'->∃ m',m' < m/\W (i + 1) m' σ' H')/\∀ x H',(mh lo n).yld i H x H'->g x σ H' fun σ2 H2=>tb {D with nx:=N,ct:=N,bk:=D.nx} σ2 H2):=by
 refine⟨fun i m σ H=>m=n - i/\i<=n/\Pv i σ H,⟨n,by simp,Nat.zero_le _,h0⟩,?_⟩
 rintro i m σ H ⟨rfl,hi,p⟩
 by_cases I:i < n
 ·refine .inr ⟨I,Pv (i + 1),fun σ' H' J=>⟨n - (i + 1),by omega,rfl,I,J⟩,fun x H' y=>?_⟩
  obtain⟨e,y⟩:=y
  subst e y
  exact hs i σ _ I p
 ·have e:i=n:=by omega
  subst e
  exact .inl ⟨Nat.le_refl _,hd σ H p⟩
theorem uK{c:TT}{tb:TS}{D:Ends}{σ:St}{H:Hp}(Pv:St->Hp->Prop)(μ:St->Hp->Nat)(h0:Pv σ H)
  (hs:∀ σ H,Pv σ H->c σ H fun b H1=>if b=true then tb {D with nx:=fun σ' H'=>Pv σ' H'/\μ σ' H' < μ σ H,ct:=fun σ' H'=>Pv σ' H'/\μ σ' H' < μ σ H,bk:=D.nx} σ H1 else D.nx σ H1)
  (mono:∀ σ H Q Q',(∀ b H1,Q b H1->Q' b H1)->c σ H Q->c σ H Q'):yD c tb D σ H:=by
 refine⟨fun m σ H=>m=μ σ H/\Pv σ H,⟨_,rfl,h0⟩,?_⟩
 rintro m σ H ⟨rfl,p⟩
 refine mono σ H _ _ (fun b H1 q=>?_) (hs σ H p)
 cases b with
 | true=>exact⟨_,fun σ' H' ⟨I,l⟩=>⟨_,l,rfl,I⟩,q⟩
 | false=>exact q
abbrev R2:=V->V->Hp->VK->Prop
def gz(X:Cx)(f:Value->Value->Sem Value)(r:R2):Prop:=
 ∀(pins:List (Addr×Obj)) (s:Shared) (σ:St) (H:Hp) (x y:V) (v u:Value) (Q:VK),Inv X pins σ H s->RelV x v->RelV y u->r x y H Q->
  wpAny (model X.prog X.w) X.A (f v u) (EP X pins σ Q) X.xe s
def uR(X:Cx)(f:Value->Sem Value)(r:V->Hp->VK->Prop):Prop:=
 ∀(pins:List (Addr×Obj)) (s:Shared) (σ:St) (H:Hp) (x:V) (v:Value) (Q:VK),Inv X pins σ H s->RelV x v->r x H Q->
  wpAny (model X.prog X.w) X.A (f v) (EP X pins σ Q) X.xe s
def iB(X:Cx)(f:Value)(r:List V->Hp->VK->Prop):Prop:=
 ∀(pins:List (Addr×Obj)) (s:Shared) (σ:St) (H:Hp) (xs:List V) (us:List Value) (Q:VK),Inv X pins σ H s->Vals xs us->r xs H Q->
  wpAny (model X.prog X.w) X.A (call f us) (EP X pins σ Q) X.xe s
def iQ(r:R2)(ta tb:TE):TE:=fun σ H Q=>ta σ H fun x H1=>tb σ H1 fun y H2=>r x y H2 Q
def B3(r:V->Hp->VK->Prop)(ta:TE):TE:=fun σ H Q=>ta σ H fun x H1=>r x H1 Q
def rI(C:Int->Int->Prop)(g:Int->Int->V):R2:=fun x y H Q=>∃ i j,x= .int i/\y= .int j/\C i j/\Q (g i j) H
def jN(g:Int->Int->V):R2:=fun x y H Q=>∃ i j,x= .int i/\y= .int j/\Q (g i j) H
def rU(g:Int->V):V->Hp->VK->Prop:=fun x H Q=>∃ i,x= .int i/\Q (g i) H
section
variable {X : Cx} {a b c : Expr} {ta tb tc : TE} {pos : Pos}
theorem sH(ha:PE X a ta)(hb:PE X b tb){pins:List (Addr×Obj)}{s:Shared}{σ:St}{H:Hp}{R:V->V->Hp->Prop}(I:Inv X pins σ H s)
  (h:ta σ H fun x H1=>tb σ H1 fun y H2=>R x y H2){Q:Value->Shared->Prop}{f:Value->Value->Sem Value}
  (hf:∀ v u s2 x y H2,Inv X pins σ H2 s2->RelV x v->RelV y u->R x y H2->wpAny (model X.prog X.w) X.A (f v u) Q X.xe s2):
  wpAny (model X.prog X.w) X.A (eval a X.env) (fun v s₁=>wpAny (model X.prog X.w) X.A (eval b X.env) (fun u s₂=>wpAny (model X.prog X.w) X.A (f v u) Q X.xe s₂) X.xe s₁) X.xe s:=by
 refine eJ (ha pins s σ H _ I h) fun v s1 ⟨x,H1,J,U,q1⟩=>?_
 refine eJ (hb pins s1 σ H1 _ J q1) fun u s2 ⟨y,H2,I2,r2,q2⟩=>?_
 exact hf v u s2 x y H2 I2 U r2 q2
theorem ek{op:Operator}{r:R2}(ho:gz X (binaryOp op) r)(ha:PE X a ta)(hb:PE X b tb):PE X (.BinOp a op b pos) (iQ r ta tb):=by
 intro pins s σ H Q I h
 exact wpAny_BinOp (sH ha hb I h fun v u s2 x y H2 J U ry q=>ho pins s2 σ H2 x y v u Q J U ry q)
theorem yM{op:UnaryOp}{r:V->Hp->VK->Prop}(ho:uR X (unaryOp op) r)(ha:PE X a ta):PE X (.UnaryOp op a pos) (B3 r ta):=by
 intro pins s σ H Q I h
 exact UnaryOp_ (eJ (ha pins s σ H _ I h) fun v s1 ⟨x,H1,J,U,q1⟩=>ho pins s1 σ H1 x v Q J U q1)
theorem uf{f:Value->Value->Sem Value}{C:Int->Int->Prop}{g:Int->Int->Int}
  (rule:∀(i j:Int) (t u:Tok) (s:Shared) (Q:Value->Shared->Prop) (E:Value->Shared->Prop),C i j->Q (.int (g i j) s.toks) {s with toks:=s.toks + 1}->wpAny (model X.prog X.w) X.A (f (.int i t) (.int j u)) Q E s):
  gz X f (rI C fun i j=> .int (g i j)):=by
 intro pins s σ H x y v u Q I J U h
 obtain⟨i,j,rfl,rfl,hc,q⟩:=h
 obtain⟨t,rfl⟩:=J
 obtain⟨t',rfl⟩:=U
 exact rule i j t t' s _ _ hc ⟨.int (g i j),H,I.tok _,⟨_,rfl⟩,q⟩
theorem y7{f:Value->Value->Sem Value}{g:Int->Int->Int}
  (rule:∀(i j:Int) (t u:Tok) (s:Shared) (Q:Value->Shared->Prop) (E:Value->Shared->Prop),Q (.int (g i j) s.toks) {s with toks:=s.toks + 1}->wpAny (model X.prog X.w) X.A (f (.int i t) (.int j u)) Q E s):
  gz X f (jN fun i j=> .int (g i j)):=by
 intro pins s σ H x y v u Q I J U h
 obtain⟨i,j,rfl,rfl,q⟩:=h
 obtain⟨t,rfl⟩:=J
 obtain⟨t',rfl⟩:=U
 exact rule i j t t' s _ _ ⟨.int (g i j),H,I.tok _,⟨_,rfl⟩,q⟩
theorem r9{f:Value->Value->Sem Value}{g:Int->Int->Bool}
  (rule:∀(i j:Int) (t u:Tok) (s:Shared) (Q:Value->Shared->Prop) (E:Value->Shared->Prop),Q (.bool (g i j)) s->wpAny (model X.prog X.w) X.A (f (.int i t) (.int j u)) Q E s):
  gz X f (jN fun i j=> .bl (g i j)):=by
 intro pins s σ H x y v u Q I J U h
 obtain⟨i,j,rfl,rfl,q⟩:=h
 obtain⟨t,rfl⟩:=J
 obtain⟨t',rfl⟩:=U
 exact rule i j t t' s _ _ ⟨.bl (g i j),H,I,rfl,q⟩
def DV(i j:Int):Prop:=0 < j/\j < 1073741824
def sW(i j:Int):Prop:=(-(2 ^ 64) < i/\i < 2 ^ 64)\/(-(2 ^ 64) < j/\j < 2 ^ 64)
theorem sW.ok {i j:Int}(h:sW i j):IntMulOk i j:=by
 rcases h with ⟨h1,h2⟩ | ⟨h1,h2⟩
 ·exact .of_left (intBits_le_64 h1 h2)
 ·exact .of_right (intBits_le_64 h1 h2)
theorem fQ:gz X (binaryOp .Add) (jN fun i j=> .int (i + j)):=y7 fun _ _ _ _ _ _ _ q=>add_int q
theorem jc:gz X (binaryOp .Sub) (jN fun i j=> .int (i - j)):=y7 fun _ _ _ _ _ _ _ q=>sub_int q
theorem iD:gz X (binaryOp .Mult) (rI sW fun i j=> .int (i * j)):=uf fun _ _ _ _ _ _ _ I q=>mul_int q I.ok
theorem g9:gz X (binaryOp .FloorDiv) (rI DV fun i j=> .int (i / j)):=uf fun i j _ _ _ _ _ I q=>by
 have h1:(0:Int) < j:=I.1
 have h2:j < 1073741824:=I.2
 exact floordiv_int (by omega) (by rw [Int.fdiv_eq_ediv_of_nonneg i (by omega)];exact q) (.inl (PyProof.noPylong_small (by omega)))
theorem fY:gz X (binaryOp .Mod) (rI (fun _ j=>0 < j) fun i j=> .int (i % j)):=uf fun i j _ _ _ _ _ I q=>by
 have h1:(0:Int) < j:=I
 exact mod_int' (by omega) (by rw [Int.fmod_eq_emod_of_nonneg i (by omega)];exact q)
theorem BO{f:Value->Sem Value}{g:Int->Int}
  (rule:∀(i:Int) (t:Tok) (s:Shared) (Q:Value->Shared->Prop) (E:Value->Shared->Prop),Q (.int (g i) s.toks) {s with toks:=s.toks + 1}->wpAny (model X.prog X.w) X.A (f (.int i t)) Q E s):
  uR X f (rU fun i=> .int (g i)):=by
 intro pins s σ H x v Q I J h
 obtain⟨i,rfl,q⟩:=h
 obtain⟨t,rfl⟩:=J
 exact rule i t s _ _ ⟨.int (g i),H,I.tok _,⟨_,rfl⟩,q⟩
theorem ye:uR X (unaryOp .USub) (rU fun i=> .int (-i)):=BO fun _ _ _ _ _ q=>neg_int q
end
def yr:V->V->Bool
 | .non,.non=>true | .non,.int _=>true | .int _,.non=>true | .non,.bl _=>true | .bl _,.non=>true | .non,.str _=>true | .str _,.non=>true
 | .int _,.int _=>true | .bl _,.bl _=>true | .str _,.str _=>true | .byt _,.byt _=>true
 | .int _,.str _=>true | .str _,.int _=>true | .bl _,.str _=>true | .str _,.bl _=>true
 | _,_=>false
def vP:R2:=fun x y H Q=>yr x y=true/\Q (.bl (decide (x=y))) H
def Ht:R2:=fun x y H Q=>yr x y=true/\Q (.bl (!decide (x=y))) H
theorem uN{i j:Int}:decide (V.int i=V.int j)=(i == j):=by
 rw [Bool.eq_iff_iff]
 simp
theorem wD{i j:Bool}:decide (V.bl i=V.bl j)=(i == j):=by
 rw [Bool.eq_iff_iff]
 simp
theorem vi{i j:Str}:decide (V.str i=V.str j)=(i == j):=by
 rw [Bool.eq_iff_iff]
 simp
theorem y1{i j:Array UInt8}:decide (V.byt i=V.byt j)=(i.toList == j.toList):=by
 rw [Bool.eq_iff_iff]
 cases i
 cases j
 simp
section
variable {X : Cx} {a b c : Expr} {ta tb tc : TE} {pos : Pos}
theorem gr{pins:List (Addr×Obj)}{σ:St}{H:Hp}{s:Shared}{Q:VK}{k k':Bool}(I:Inv X pins σ H s)(q:Q (.bl k) H)(e:k=k'):EP X pins σ Q (.bool k') s:=by
 subst e
 exact⟨.bl k,H,I,rfl,q⟩
theorem ig:gz X (compareOp .Eq) vP:=by
 intro pins s σ H x y v u Q I rx J h
 obtain⟨U,q⟩:=h
 cases x with
 | non=>
  cases rx
  cases y with
  | non=>cases J;exact PySem.EqNone.eq_none_none (gr I q (by simp))
  | bl j=>cases J;exact PySem.EqNone.eq_none_bool (gr I q (by simp))
  | int j=>obtain⟨t',rfl⟩:=J;exact PySem.EqNone.eq_none_int (gr I q (by simp))
  | str j=>obtain⟨t',rfl⟩:=J;exact PySem.EqNone.eq_none_str (gr I q (by simp))
  | _=>exact absurd (show false=true from U) Bool.false_ne_true
 | bl i=>
  cases rx
  cases y with
  | non=>cases J;exact PySem.EqNone.eq_bool_none (gr I q (by simp))
  | bl j=>cases J;exact eq_bool (gr I q wD)
  | str j=>obtain⟨t',rfl⟩:=J;exact PySem.EqMixed.eq_bool_str (gr I q (by simp))
  | _=>exact absurd (show false=true from U) Bool.false_ne_true
 | int i=>
  obtain⟨t,rfl⟩:=rx
  cases y with
  | non=>cases J;exact PySem.EqNone.eq_int_none (gr I q (by simp))
  | int j=>obtain⟨t',rfl⟩:=J;exact eq_int (gr I q uN)
  | str j=>obtain⟨t',rfl⟩:=J;exact PySem.EqMixed.eq_int_str (gr I q (by simp))
  | _=>exact absurd (show false=true from U) Bool.false_ne_true
 | str i=>
  obtain⟨t,rfl⟩:=rx
  cases y with
  | non=>cases J;exact PySem.EqNone.eq_str_none (gr I q (by simp))
  | bl j=>cases J;exact PySem.EqMixed.eq_str_bool (gr I q (by simp))
  | int j=>obtain⟨t',rfl⟩:=J;exact PySem.EqMixed.eq_str_int (gr I q (by simp))
  | str j=>obtain⟨t',rfl⟩:=J;exact eq_str (gr I q vi)
  | _=>exact absurd (show false=true from U) Bool.false_ne_true
 | byt i=>
  obtain⟨t,rfl⟩:=rx
  cases y with
  | byt j=>obtain⟨t',rfl⟩:=J;exact W.eq_bytes (gr I q y1)
  | _=>exact absurd (show false=true from U) Bool.false_ne_true
 | _=>cases y<;>exact absurd (show false=true from U) Bool.false_ne_true
theorem jv:gz X (compareOp .NotEq) Ht:=by
 intro pins s σ H x y v u Q I rx J h
 obtain⟨U,q⟩:=h
 cases x with
 | non=>
  cases rx
  cases y with
  | non=>cases J;exact PySem.EqNone.ne_none_none (gr I q (by simp))
  | bl j=>cases J;exact PySem.EqNone.ne_none_bool (gr I q (by simp))
  | int j=>obtain⟨t',rfl⟩:=J;exact PySem.EqNone.ne_none_int (gr I q (by simp))
  | str j=>obtain⟨t',rfl⟩:=J;exact PySem.EqNone.ne_none_str (gr I q (by simp))
  | _=>exact absurd (show false=true from U) Bool.false_ne_true
 | bl i=>
  cases rx
  cases y with
  | non=>cases J;exact PySem.EqNone.ne_bool_none (gr I q (by simp))
  | bl j=>cases J;exact ne_bool (gr I q (congrArg not wD))
  | str j=>obtain⟨t',rfl⟩:=J;exact PySem.EqMixed.ne_bool_str (gr I q (by simp))
  | _=>exact absurd (show false=true from U) Bool.false_ne_true
 | int i=>
  obtain⟨t,rfl⟩:=rx
  cases y with
  | non=>cases J;exact PySem.EqNone.ne_int_none (gr I q (by simp))
  | int j=>obtain⟨t',rfl⟩:=J;exact ne_int (gr I q (congrArg not uN))
  | str j=>obtain⟨t',rfl⟩:=J;exact PySem.EqMixed.ne_int_str (gr I q (by simp))
  | _=>exact absurd (show false=true from U) Bool.false_ne_true
 | str i=>
  obtain⟨t,rfl⟩:=rx
  cases y with
  | non=>cases J;exact PySem.EqNone.ne_str_none (gr I q (by simp))
  | bl j=>cases J;exact PySem.EqMixed.ne_str_bool (gr I q (by simp))
  | int j=>obtain⟨t',rfl⟩:=J;exact PySem.EqMixed.ne_str_int (gr I q (by simp))
  | str j=>obtain⟨t',rfl⟩:=J;exact ne_str (gr I q (congrArg not vi))
  | _=>exact absurd (show false=true from U) Bool.false_ne_true
 | byt i=>
  obtain⟨t,rfl⟩:=rx
  cases y with
  | byt j=>obtain⟨t',rfl⟩:=J;exact W.ne_bytes (gr I q (congrArg not y1))
  | _=>exact absurd (show false=true from U) Bool.false_ne_true
 | _=>cases y<;>exact absurd (show false=true from U) Bool.false_ne_true
theorem jm:gz X (compareOp .Lt) (jN fun i j=> .bl (decide (i < j))):=r9 fun _ _ _ _ _ _ _ q=>lt_int q
theorem jq:gz X (compareOp .Gt) (jN fun i j=> .bl (decide (j < i))):=r9 fun _ _ _ _ _ _ _ q=>gt_int q
theorem zL:gz X (compareOp .GtE) (jN fun i j=> .bl (decide (j<=i))):=r9 fun _ _ _ _ _ _ _ q=>ge_int q
theorem qz:gz X (compareOp .In) (fun x y H Q=>∃ i j,x= .str i/\y= .str j/\Q (.bl (!(Builtin.Str.occurrences j i 0 j.length 1).isEmpty)) H):=by
 intro pins s σ H x y v u Q I J U h
 obtain⟨i,j,rfl,rfl,q⟩:=h
 obtain⟨t,rfl⟩:=J
 obtain⟨t',rfl⟩:=U
 exact in_str (gr I q rfl)
theorem eZ(b:Expr){op:CmpOp}(h:op≠ .In:=by decide)(h2:op≠ .NotIn:=by decide):behindInMarks op b=false:=by
 have I:(op == CmpOp.In)=false:=by cases op<;>first | rfl | exact absurd rfl h
 have J:(op == CmpOp.NotIn)=false:=by cases op<;>first | rfl | exact absurd rfl h2
 cases b<;>simp [behindInMarks,I,J]
theorem pP{op:CmpOp}{r:R2}(ho:gz X (compareOp op) r)(ha:PE X a ta)(hb:PE X b tb)(hm:behindInMarks op b=false):PE X (.Compare a [op] [b] pos) (iQ r ta tb):=by
 intro pins s σ H Q I h
 exact wpAny_Compare1 (sH ha hb I h fun v u s2 x y H2 J U ry q=>ho pins s2 σ H2 x y v u Q J U ry q) hm
def xW(t:TE):TT:=fun σ H Q=>t σ H fun x H'=>∃ k,x= .bl k/\Q k H'
theorem eY{op:CmpOp}{r:R2}(ho:gz X (compareOp op) r)(ha:PE X a ta)(hb:PE X b tb)(hm:behindInMarks op b=false):PT X (.Compare a [op] [b] pos) (xW (iQ r ta tb)):=by
 intro pins s σ H Q I h
 refine wpAny_isTrue_Compare1 (eJ (ha pins s σ H _ I h) fun v s1 ⟨x,H1,J,U,q1⟩=>eJ (hb pins s1 σ H1 _ J q1) fun u s2 ⟨y,H2,I2,r2,q2⟩=>
  eJ (ho pins s2 σ H2 x y v u _ I2 U r2 q2) fun c s3 ⟨z,H3,I3,r3,k,e,q3⟩=>?_) hm
 subst e
 cases r3
 exact wpAny_truthy_bool ⟨H3,I3,q3⟩
def Gr(r r':R2)(ta tb tc:TE):TE:=fun σ H Q=>ta σ H fun x H1=>tb σ H1 fun y H2=>r x y H2 fun z I=>∃ k,z= .bl k/\
 (if k=true then tc σ I fun J U=>r' y J U Q else Q (.bl false) I)
theorem Aq{op op':CmpOp}{r r':R2}(ho:gz X (compareOp op) r)(ho':gz X (compareOp op') r')(ha:PE X a ta)(hb:PE X b tb)(hc:PE X c tc)
  (hm:lastMarks [op,op'] [b,c]=false:=by with_unfolding_all rfl):PE X (.Compare a [op,op'] [b,c] pos) (Gr r r' ta tb tc):=by
 intro pins s σ H Q I h
 refine Compare_chain (eJ (ha pins s σ H _ I h) fun v s1 ⟨x,H1,I1,r1,q1⟩=>chain_link (eJ (hb pins s1 σ H1 _ I1 q1) fun u s2 ⟨y,H2,I2,J,q2⟩=>
  eJ (ho pins s2 σ H2 x y v u _ I2 r1 J q2) fun d s3 ⟨z,U,I3,r3,k,e,q3⟩=>?_)) hm
 subst e
 cases r3
 refine wpAny_truthy_bool ?_
 cases k with
 | false=>exact ite_ff ⟨.bl false,U,I3,rfl,q3⟩
 | true=>exact ite_tt (chain_last (eJ (hc pins s3 σ U _ I3 q3) fun w' s4 ⟨z',H4,I4,r4,q4⟩=>ho' pins s4 σ H4 y z' u w' Q I4 J r4 q4))
theorem m6:(sizeLine:Nat) < 2 ^ 63:=by rw [sizeLine_eq];decide
theorem jl:gz X (binaryOp .Add) (fun x y H Q=>∃ i j,x= .str i/\y= .str j/\i.length + j.length<=sizeLine/\Q (.str (i++j)) H):=by
 intro pins s σ H x y v u Q I J U h
 obtain⟨i,j,rfl,rfl,hz,q⟩:=h
 obtain⟨t,rfl⟩:=J
 obtain⟨t',rfl⟩:=U
 exact add_str (fun t' tk=>⟨.str (i++j),H,I.tok _,⟨_,rfl⟩,q⟩) hz
theorem vals1{x:V}{us:List Value}(r:Vals [x] us):∃ u,us=[u]/\RelV x u:=by
 cases r with
 | cons I J=>cases J;exact⟨_,rfl,I⟩
theorem vals2{x y:V}{us:List Value}(r:Vals [x,y] us):∃ u w',us=[u,w']/\RelV x u/\RelV y w':=by
 cases r with
 | cons I J=>
  cases J with
  | cons U r4=>cases r4;exact⟨_,_,rfl,I,U⟩
theorem Co:iB X (.type "int") (fun xs H Q=>(∃ i,xs=[.int i]/\Q (.int i) H)\/∃ k,xs=[.bl k]/\Q (.int (if k then 1 else 0)) H):=by
 intro pins s σ H xs us Q I r h
 rcases h with ⟨i,rfl,q⟩ | ⟨k,rfl,q⟩
 ·obtain⟨u,rfl,t,rfl⟩:=vals1 r
  exact call_int_int ⟨.int i,H,I,⟨_,rfl⟩,q⟩
 ·obtain⟨u,rfl,J⟩:=vals1 r
  cases J
  exact call_int_bool ⟨.int (if k then 1 else 0),H,I.tok _,⟨_,rfl⟩,q⟩
theorem B8:iB X (.type "str") (fun xs H Q=>∃ i,xs=[.int i]/\i.natAbs.log2 < 1920/\Q (.str (toString i)) H):=by
 intro pins s σ H xs us Q I r h
 obtain⟨i,rfl,J,q⟩:=h
 obtain⟨u,rfl,t,rfl⟩:=vals1 r
 exact PySem.P.str_of_int J ⟨.str _,H,I.tok _,⟨_,rfl⟩,q⟩
theorem zS:iB X (.builtin "ord") (fun xs H Q=>∃ x,xs=[.str x]/\x.length=1/\Q (.int (x.cps.getD 0 0:Nat)) H):=by
 intro pins s σ H xs us Q I r h
 obtain⟨x,rfl,J,q⟩:=h
 obtain⟨u,rfl,t,rfl⟩:=vals1 r
 exact ord_of_one J ⟨.int _,H,I.tok _,⟨_,rfl⟩,q⟩
end
structure lM (h : Heap) (x dx C : Addr) (mA : Str -> Option Value) : Prop where
 obj : h.get? x = some (W.instObj C dx)
 ns : h.Ns1 dx mA
 ne : dx ≠ x
theorem Dl{h:Heap}{dx:Addr}{mA:Str->Option Value}(n:h.Ns1 dx mA):∃ od,h.get? dx=some od/\∀ name,W.lookIn name od=some (mA name):=by
 obtain⟨o,es,ep,J,hd,hk,_,hm⟩:=n
 refine⟨o,J,fun name=>?_⟩
 have e:=hm name
 unfold nsFind findBy at e
 rw [<-Array.find?_toList] at e
 unfold W.lookIn
 rw [hd]
 dsimp only
 split
 ·rename_i y q
  rw [q] at e
  exact congrArg some e
 ·rename_i q
  rw [q] at e
  have a:es.toList.any (·.refKey)=false:=by
   rw [List.any_eq_false]
   intro y U
   obtain⟨z,t,I⟩:=hk y (Array.mem_toList_iff.mp U)
   simp [DictEntry.refKey,I]
  have a':¬ es.toList.any (·.refKey)=true:=by rw [a];exact Bool.false_ne_true
  rw [if_neg a']
  exact congrArg some e
theorem lM.look {h:Heap}{x dx C:Addr}{mA:Str->Option Value}(I:lM h x dx C mA):∃ od,W.InstAt h x (W.instObj C dx) C (some od)/\∀ name,W.lookIn name od=some (mA name):=
 let ⟨od,ho,hl⟩:=Dl I.ns
 ⟨od,⟨I.obj,rfl,rfl,ho⟩,hl⟩
section
variable {prog : Program} {w : World} {A : Around} {E : Value -> Shared -> Prop} {s : Shared} {K : PySem.W.Frag} {x dx C f : Addr} {mA : Str -> Option Value} {name : Str} {v : Value}
theorem get_map{expr:Bool}{Q:Value->Shared->Prop}(X:K.In s.heap)(I:lM s.heap x dx C mA)(hg:W.plainGet K C name=true)(hh:W.hasDictIn K C=true)
  (ha:W.findIn K (.ref C) name=some none)(hv:mA name=some v)(hv':W.handedIn v=true)(h:Q v {s with toks:=s.toks + 1}):
  wpAny (model prog w) A (getAttr (.ref x) name expr) Q E s:=by
 obtain⟨od,J,U⟩:=I.look
 exact W.get_value X J (W.plainGet_of hg).1 (W.findObj_own hh ha rfl (by rw [U,hv])) hv' h
theorem FQ{pl:Sem Bool}{Q:Value×List Value->Shared->Prop}(X:K.In s.heap)(I:lM s.heap x dx C mA)(hg:W.plainGet K C name=true)
  (hf:W.findIn K (.ref C) name=some (some (.ref f)))(ht:W.isFn K (.ref f)=true)(hv:mA name=none)(h:Q (.ref f,[.ref x]) s):
  wpAny (model prog w) A (getMethod (.ref x) name pl) Q E s:=by
 obtain⟨U,J,hl⟩:=I.look
 exact W.method_fn X J (W.plainGet_of hg).1 (W.plainGet_of hg).2 hf (beq_iff_eq.mp ht) (by show(W.lookIn name U).map (·.isSome)=some false;rw [hl,hv];rfl) h
theorem Cb{ns:List Str}{Q:Unit->Shared->Prop}(X:K.In s.heap)(I:lM s.heap x dx C mA)
  (hs:W.findIn K (.ref C) "__setattr__"=some (some (.builtin "object.__setattr__")))(hp:W.plainOver K C=true)(ht:W.takerIn K C name=some none)(hh:W.hasDictIn K C=true)
  (hw:PySem.Within mA ns)(hsz:ns.length<=sizeLine)
  (h:∀ h',lM h' x dx C (fun y=>if y=name then some v else mA y)->Heap.SameBut dx s.heap h'->Q () {s with heap:=h',toks:=s.toks + 2}):
  wpAny (model prog w) A (setAttr (.ref x) name v) Q E s:=by
 obtain⟨od,J,hl⟩:=I.look
 refine W.set_plain X J hs (W.osa_open (s:={s with toks:=s.toks + 1}) (r:=none) X J hp ht fun b=>?_)
 obtain⟨cd,hc,ab⟩:=W.any_some hh
 have hx:s.heap.get? x=some ⟨.ref C,some dx,.plain,#[]⟩:=I.obj
 refine wpAny_bind (wpAny_pure (wpAny_bind (wpAny_bind (wpAny_loadPart hx (wpAny_bind (W.Looks.here (s:={s with toks:=s.toks + 1}) (W.looks_clsIn X hc) ?_))))))
 rw [ab]
 refine wpAny_pure (a:=some dx) (wpAny_bind (wpAny_pure (wpAny_bind ?_)))
 refine wpAny_nsSet1 (s:={s with toks:=s.toks + 1}) I.ns fun h' U aa=>?_
 obtain⟨oD,ah,ai,ae,af,ag⟩:=U.count (PySem.Within.cons name v hw)
 refine wpAny_bind (wpAny_lookBehind ae (by rw [af];exact pastItsLine_dict (Nat.le_trans ag (by rw [List.length_cons];omega))) ?_)
 exact wpAny_pure (h _ ⟨(aa.2 _ (Ne.symm I.ne)).trans I.obj,U,I.ne⟩ aa)
theorem Bl{R:Result->Shared->Prop}{vs:List Value}{kw:List (Str×Value)}(X:K.In s.heap)(hm:W.makesIn K C=true)
  (hi:W.findIn K (.ref C) "__init__"=some (some (.ref f)))(hf:W.typeIn K (.ref f)=some (.type "function"))
  (h:codeAny (model prog w) (A.under (.builtin "type.__call__" ⟨.ref C::vs,kw⟩)) (.call (.ref f) ⟨.ref (s.heap.objs.size + 1)::vs,kw⟩) (W.InitBack (s.heap.objs.size + 1) R)
   {s with heap:=(s.heap.push W.emptyDict).push (W.instObj C s.heap.objs.size)}):
  codeAny (model prog w) A (.call (.ref C) ⟨vs,kw⟩) R s:=by
 obtain⟨I,g,d,t,os⟩:=s
 exact W.make_core (W.makes_of X hm) (W.looks_findIn X hi) (fun self=>W.bind_fn X self hf) (.inl rfl) h
end
def fA(f:Str)(v:V):List (Str×V)->List (Str×V)
 | []=>[(f,v)]
 | (g,x)::r=>if g=f then (g,v)::r else (g,x)::fA f v r
theorem gE(f g:Str)(v:V):∀ fs:List (Str×V),(fA f v fs).lookup g=if g=f then some v else fs.lookup g
 | []=>by
  show List.lookup g [(f,v)]=_
  by_cases h:g=f
  ·have hb:(g == f)=true:=beq_iff_eq.mpr h
   simp only [List.lookup,hb,if_pos h]
  ·have hb:(g == f)=false:=beq_eq_false_iff_ne.mpr h
   simp only [List.lookup,hb,if_neg h]
 | (k,x)::r=>by
  have I:=gE f g v r
  rw [show fA f v ((k,x)::r)=(if k=f then (k,v)::r else (k,x)::fA f v r) from rfl]
  by_cases hk:k=f
  ·rw [if_pos hk]
   by_cases h:g=k
   ·have hb:(g == k)=true:=beq_iff_eq.mpr h
    simp only [List.lookup,hb,if_pos (h.trans hk)]
   ·have hb:(g == k)=false:=beq_eq_false_iff_ne.mpr h
    simp only [List.lookup,hb,if_neg (fun e:g=f=>h (e.trans hk.symm))]
  ·rw [if_neg hk]
   by_cases h:g=k
   ·have hb:(g == k)=true:=beq_iff_eq.mpr h
    simp only [List.lookup,hb,if_neg (fun e:g=f=>hk (h.symm.trans e))]
   ·have hb:(g == k)=false:=beq_eq_false_iff_ne.mpr h
    simp only [List.lookup,hb]
    exact I
theorem sF(f:Str)(v:V):∀ fs:List (Str×V),f∈(fA f v fs).map (·.1)/\∀ g,g∈fs.map (·.1)->g∈(fA f v fs).map (·.1)
 | []=>⟨by simp [fA],fun g h=>by simp at h⟩
 | (k,x)::r=>by
  obtain⟨I,J⟩:=sF f v r
  rw [show fA f v ((k,x)::r)=(if k=f then (k,v)::r else (k,x)::fA f v r) from rfl]
  by_cases hk:k=f
  ·rw [if_pos hk]
   subst hk
   exact⟨by simp,fun g h=>by simpa using h⟩
  ·rw [if_neg hk]
   refine⟨?_,fun g h=>?_⟩
   ·rw [List.map_cons]
    exact List.mem_cons_of_mem _ I
   ·rw [List.map_cons] at h ⊢
    rcases List.mem_cons.mp h with e | e
    ·exact List.mem_cons.mpr (.inl e)
    ·exact List.mem_cons_of_mem _ (J g e)
theorem xr(f:Str)(v:V):∀ fs:List (Str×V),(fA f v fs).length<=fs.length + 1
 | []=>by simp [fA]
 | (k,x)::r=>by
  have I:=xr f v r
  rw [show fA f v ((k,x)::r)=(if k=f then (k,v)::r else (k,x)::fA f v r) from rfl]
  by_cases hk:k=f
  ·rw [if_pos hk,List.length_cons,List.length_cons];omega
  ·rw [if_neg hk,List.length_cons,List.length_cons];omega
theorem il.some_of {v:V}{o:Option Value}(r:il (some v) o):∃ u,o=some u/\RelV v u:=by
 cases o with
 | none=>exact(show False from r).elim
 | some u=>exact⟨u,rfl,r⟩
theorem il.none_of {o:Option Value}(r:il none o):o=none:=by
 cases o with
 | none=>rfl
 | some u=>exact(show False from r).elim
theorem Bq{v:V}{u:Value}(r:RelV v u):W.handedIn u=true:=by
 cases v with
 | non=>cases (show u=Value.none from r);rfl
 | bl b=>cases (show u=Value.bool b from r);rfl
 | int i=>obtain⟨t,e⟩:=(show ∃ t,u=Value.int i t from r);cases e;rfl
 | str x=>obtain⟨t,e⟩:=(show ∃ t,u=Value.str x t from r);cases e;rfl
 | byt b=>obtain⟨t,e⟩:=(show ∃ t,u=Value.bytes b t from r);cases e;rfl
 | flt b=>obtain⟨t,e⟩:=(show ∃ t,u=Value.float b t from r);cases e;rfl
 | ref a=>cases (show u=Value.ref a from r);rfl
 | ty n=>cases (show u=Value.type n from r);rfl
section
variable {P : Program} {w : World} {H H' : Hp} {h h' : Heap} {a C dx : Addr} {fs fs' : List (Str × V)}
theorem qZ(hok:gi P w H h)(e:H a=some (.ins C dx fs)):∃ mA,lM h a dx C mA/\(∀ f,il (fs.lookup f) (mA f))/\PySem.Within mA (fs.map (·.1))/\fs.length<=1000/\H dx=some (.own a):=by
 obtain⟨d,z,ne,ob,mA,n,r,q⟩:=(show gk P w H h a (.ins C dx fs) from hok a _ e)
 exact⟨mA,⟨ob,n,ne⟩,r,q,z,d⟩
end
structure jt (K : W.Frag) (C : Addr) : Prop where
 pg : W.plainGet K C Str.empty = true
 hd : W.hasDictIn K C = true
 po : W.plainOver K C = true
 sa : W.findIn K (.ref C) "__setattr__" = some (some (.builtin "object.__setattr__"))
theorem jt.get {K:W.Frag}{C:Addr}(c:jt K C)(f:Str):W.plainGet K C f=true:=c.pg
def jf(K:W.Frag)(C:Addr)(f:Str):Prop:=W.findIn K (.ref C) f=some none
theorem jf.taker {K:W.Frag}{C:Addr}{f:Str}(n:jf K C f):W.takerIn K C f=some none:=by
 unfold W.takerIn
 rw [show W.findIn K (.ref C) f=some none from n]
 rfl
structure Meth (K : W.Frag) (C : Addr) (m : Str) (f : Addr) : Prop where
 at_ : W.findIn K (.ref C) m = some (some (.ref f))
 fn : W.isFn K (.ref f) = true
 kp : W.keepIn K (.ref f) = true
section
variable {X : Cx} {pins : List (Addr × Obj)} {σ : St} {H : Hp} {s : Shared} {a C dx : Addr} {fs : List (Str × V)} {f : Str} {v : V} {A : Around} {E : Value -> Shared -> Prop}
theorem zW{b:Bool}{Q:Value->Shared->Prop}(I:Inv X pins σ H s)(e:H a=some (.ins C dx fs))(c:jt X.K C)(n:jf X.K C f)(l:fs.lookup f=some v)
  (h:∀ u s',Inv X pins σ H s'->RelV v u->Q u s'):wpAny (model X.prog X.w) A (getAttr (.ref a) f b) Q E s:=by
 obtain⟨mA,O,r,_,_,_⟩:=qZ I.hok e
 obtain⟨u,U,J⟩:=il.some_of (v:=v) (o:=mA f) (by rw [<-l];exact r f)
 exact get_map I.kIn O (c.get f) c.hd n U (Bq J) (h u _ (I.tok _) J)
theorem yo{m:Str}{g:Addr}{pl:Sem Bool}{Q:Value×List Value->Shared->Prop}(I:Inv X pins σ H s)(e:H a=some (.ins C dx fs))(c:jt X.K C)(k:Meth X.K C m g)(l:fs.lookup m=none)
  (h:Q (.ref g,[.ref a]) s):wpAny (model X.prog X.w) A (getMethod (.ref a) m pl) Q E s:=by
 obtain⟨mA,O,r,_,_,_⟩:=qZ I.hok e
 have hn:mA m=none:=il.none_of (by rw [<-l];exact r m)
 exact FQ I.kIn O (c.get m) k.at_ k.fn hn h
theorem E6{y:V}{u:Value}{Q:Unit->Shared->Prop}(I:Inv X pins σ H s)(e:H a=some (.ins C dx fs))(c:jt X.K C)(n:jf X.K C f)(hl:fs.length < 1000)(ry:RelV y u)
  (h:∀ s',Inv X pins σ (upd H a (.ins C dx (fA f y fs))) s'->Q () s'):wpAny (model X.prog X.w) A (setAttr (.ref a) f u) Q E s:=by
 obtain⟨mA,O,r,U,_,ho⟩:=qZ I.hok e
 have hz:(fs.map (·.1)).length<=sizeLine:=by rw [List.length_map,sizeLine_eq];omega
 refine Cb I.kIn O c.sa c.po n.taker c.hd U hz fun h' J sb=>h _ ?_
 have hd:∃ o,h'.get? dx=some o:=let ⟨o,_,_,e',_⟩:=J.ns;⟨o,e'⟩
 refine I.write (x:=a) (e:=dx) (by rw [e];exact True.intro) (.inr ho) (fun b q hb z=>(sb.2 b hb).trans z) hd ?_
 refine⟨by rw [eC O.ne];exact ho,?_,O.ne,J.obj,_,J.ns,fun g=>?_,fun g hg=>?_⟩
 ·have:=xr f y fs;omega
 ·show il ((fA f y fs).lookup g) (if g=f then some u else mA g)
  rw [gE]
  by_cases q:g=f
  ·rw [if_pos q,if_pos q];exact ry
  ·rw [if_neg q,if_neg q];exact r g
 ·by_cases q:g=f
  ·rw [q];exact(sF f y fs).1
  ·refine(sF f y fs).2 g (U g fun z=>hg ?_)
   show(if g=f then some u else mA g)=none
   rw [if_neg q];exact z
theorem Inv.made (I:Inv X pins σ H s):Inv X pins σ (upd (upd H s.heap.objs.size (.own (s.heap.objs.size + 1))) (s.heap.objs.size + 1) (.ins C s.heap.objs.size []))
  {s with heap:=(s.heap.push W.emptyDict).push (W.instObj C s.heap.objs.size)}:=by
 have J:(s.heap.push W.emptyDict).get? s.heap.objs.size=some W.emptyDict:=Heap.get?_push_size s.heap rfl
 have U:((s.heap.push W.emptyDict).push (W.instObj C s.heap.objs.size)).get? (s.heap.objs.size + 1)=some (W.instObj C s.heap.objs.size):=by
  have:=Heap.get?_push_size (s.heap.push W.emptyDict) (o:=W.instObj C s.heap.objs.size) rfl
  rwa [Heap.size_push] at this
 have e3:(s.heap.push W.emptyDict).Ns s.heap.objs.size (fun _=>none):=⟨W.emptyDict,#[],_,J,rfl,(fun e he=>absurd he (by simp)),fun _=>rfl⟩
 have I1:=I.laid (a:=s.heap.objs.size) (o:= .own (s.heap.objs.size + 1)) (h':=s.heap.push W.emptyDict) (t':=s.toks) (fun b u q=>Heap.get?_push_of_some _ q) (Nat.le_refl _) ⟨_,J⟩
 refine I1.laid (a:=s.heap.objs.size + 1) (o:= .ins C s.heap.objs.size []) (t':=s.toks) (fun b u q=>Heap.get?_push_of_some _ q) (Nat.le_of_eq (Heap.size_push _ _)) ?_
 have ne:s.heap.objs.size≠s.heap.objs.size + 1:=Nat.ne_of_lt (Nat.lt_succ_self _)
 refine⟨by rw [eC ne,d7],Nat.zero_le _,ne,U,fun _=>none,(Heap.Ns1.of_empty e3).at fun o q=>Heap.get?_push_of_some _ q,fun _=>True.intro,fun y hy=>absurd rfl hy⟩
theorem Ae{prog:Program}{w:World}{env:Env}{e:Expr}{f:Str}{pos:Pos}{s:Shared}{Q:Value->Shared->Prop}(hb:attributeBase e f env (eval e env)=eval e env)
  (h:wpAny (model prog w) A (eval e env) (fun o s₁=>wpAny (model prog w) A (getAttr o f true) Q E s₁) E s):wpAny (model prog w) A (eval (.Attribute e f pos) env) Q E s:=
 Attribute_any_ h (by rw [arm_eval_Attribute,hb])
end
def xc(K:W.Frag)(ta:TE)(f:Str):TE:=fun σ H Q=>ta σ H fun x H1=>∃ a C dx fs v,x= .ref a/\H1 a=some (.ins C dx fs)/\jt K C/\jf K C f/\fs.lookup f=some v/\Q v H1
def yu(K:W.Frag)(ta tv:TE)(f:Str):TS:=fun D σ H=>tv σ H fun y H1=>ta σ H1 fun x H2=>∃ a C dx fs,x= .ref a/\H2 a=some (.ins C dx fs)/\jt K C/\jf K C f/\fs.length < 1000/\
 D.nx σ (upd H2 a (.ins C dx (fA f y fs)))
section
variable {X : Cx} {o e value : Expr} {f : Str} {pos pos' tpos : Pos} {ta tv : TE}
theorem ji(he:PE X e ta)(hb:attributeBase e f X.env (eval e X.env)=eval e X.env):PE X (.Attribute e f pos) (xc X.K ta f):=by
 intro pins s σ H Q I h
 refine Ae hb (eJ (he pins s σ H _ I h) fun u s1 ⟨x,H1,J,U,a,C,dx,fs,v,ex,ea,c,n,l,q⟩=>?_)
 subst ex
 obtain rfl:u=Value.ref a:=U
 exact zW J ea c n l fun u' s2 I2 ru=>⟨v,H1,I2,ru,q⟩
theorem ml(ha:PE X o ta)(hv:PE X value tv)(hs:swapsWith value (some (.Attribute o f pos')) pos.line X.env=pure false):PS X (.Assign [.Attribute o f pos'] value pos) (yu X.K ta tv f):=by
 intro pins s σ H D I h
 refine plainObj_wpAny_Assign_Attribute (eJ (hv pins s σ H _ I h) fun u s1 ⟨y,H1,J,U,q⟩=>eJ (ha pins s1 σ H1 _ J q) fun ov s2 ⟨x,H2,I2,rx,a,C,dx,fs,ex,ea,c,n,l,q2⟩=>?_) hs
 subst ex
 obtain rfl:ov=Value.ref a:=rx
 exact E6 I2 ea c n l U fun s3 I3=>⟨σ,_,I3,q2⟩
end
section
variable {X : Cx} {pins : List (Addr × Obj)} {σ : St} {H : Hp} {s : Shared} {A : Around} {E : Value -> Shared -> Prop} {Q : Value -> Shared -> Prop} {c : Value} {b : Bool}
inductive gY (K : W.Frag) (H : Hp) : V -> Value -> Prop where
 | non : gY K H .non (.type "NoneType")
 | bl (x : Bool) : gY K H (.bl x) (.type "bool")
 | int (i : Int) : gY K H (.int i) (.type "int")
 | str (x : Str) : gY K H (.str x) (.type "str")
 | flt (x : UInt64) : gY K H (.flt x) (.type "float")
 | lst {a : Addr} {xs : List V} (e : H a = some (.lst xs)) : gY K H (.ref a) (.type "list")
 | frz {a : Addr} {o : Obj} {xs : List V} (e : H a = some (.frz o (.lst xs))) : gY K H (.ref a) (.type "list")
 | tup {a : Addr} {xs : List V} (e : H a = some (.tup xs)) : gY K H (.ref a) (.type "tuple")
 | dK {a : Addr} {kvs : List (Key × V)} (e : H a = some (.dK kvs)) : gY K H (.ref a) (.type "dict")
 | dT {a : Addr} {kvs : List (List Key × V)} (e : H a = some (.dT kvs)) : gY K H (.ref a) (.type "dict")
 | ins {a C dx : Addr} {fs : List (Str × V)} (e : H a = some (.ins C dx fs)) (cl : jt K C) (ha : W.findIn K (.ref C) "__class__" = some (some (.builtin "object.__class__")))
   (hn : W.specialIn K (.builtin "object.__class__") "__get__" = some (some (.builtin "getset_descriptor.__get__"))) (htk : W.takesIn K (.builtin "object.__class__") = some true)
   (hm : W.mroIn K C (.type "object") = some true) : gY K H (.ref a) (.ref C)
theorem xu{x:V}{u t:Value}(I:Inv X pins σ H s)(rx:RelV x u)(ty:gY X.K H x t)(e:W.kitOne X.K t c=some b)(h:∀ tk,Q (.bool b) {s with toks:=tk}):
  wpAny (model X.prog X.w) A (call (.builtin "isinstance") [u,c]) Q E s:=by
 cases ty with
 | non=>cases (show u=Value.none from rx);exact W.kia_one W.kitx_none I.kIn True.intro e (fun z=>nomatch z) h
 | bl y=>cases (show u=Value.bool y from rx);exact W.kia_one W.kitx_bool I.kIn True.intro e (fun z=>nomatch z) h
 | int i=>obtain⟨t,q⟩:=(show ∃ t,u=Value.int i t from rx);cases q;exact W.kia_one W.kitx_int I.kIn True.intro e (fun z=>nomatch z) h
 | str y=>obtain⟨t,q⟩:=(show ∃ t,u=Value.str y t from rx);cases q;exact W.kia_one W.kitx_str I.kIn True.intro e (fun z=>nomatch z) h
 | flt y=>obtain⟨t,q⟩:=(show ∃ t,u=Value.float y t from rx);cases q;exact W.kia_one W.kitx_float I.kIn True.intro e (fun z=>nomatch z) h
 | @lst a xs U=>
  cases (show u=Value.ref a from rx)
  obtain⟨_,_,n,_,h1⟩:=(show gk X.prog X.w H s.heap a (.lst xs) from I.hok a _ U)
  exact W.kia_one W.kitx_list I.kIn ⟨_,h1,rfl⟩ e (fun z=>nomatch z) h
 | @frz a ob xs U=>
  cases (show u=Value.ref a from rx)
  obtain⟨_,_,_,n,_,h1⟩:=(show gk X.prog X.w H s.heap a (.frz ob (.lst xs)) from I.hok a _ U)
  exact W.kia_one W.kitx_list I.kIn ⟨_,h1,rfl⟩ e (fun z=>nomatch z) h
 | @tup a xs U=>
  cases (show u=Value.ref a from rx)
  obtain⟨_,_,_,p⟩:=(show gk X.prog X.w H s.heap a (.tup xs) from I.hok a _ U)
  obtain⟨o,h1,h2,_⟩:=p
  exact W.kia_one W.kitx_tuple I.kIn ⟨o,h1,h2⟩ e (fun z=>nomatch z) h
 | @dK a kvs U=>
  cases (show u=Value.ref a from rx)
  obtain⟨_,_,vs,_,p⟩:=(show gk X.prog X.w H s.heap a (.dK kvs) from I.hok a _ U)
  obtain⟨o,es,ep,h1,h2,_⟩:=p
  exact W.kia_one W.kitx_dict I.kIn ⟨o,h1,h2.1⟩ e (fun z=>nomatch z) h
 | @dT a kvs U=>
  cases (show u=Value.ref a from rx)
  obtain⟨_,_,xs,_,o,es,ep,h1,h2,_⟩:=(show gk X.prog X.w H s.heap a (.dT kvs) from I.hok a _ U)
  exact W.kia_one W.kitx_dict I.kIn ⟨o,h1,h2.1⟩ e (fun z=>nomatch z) h
 | @ins a C dx fs U cl ha hn aa hm=>
  cases (show u=Value.ref a from rx)
  obtain⟨mA,O,_⟩:=qZ I.hok U
  obtain⟨od,J,_⟩:=O.look
  exact W.kia_one (W.kitx_own (cl.get _) cl.hd ha hn aa hm) I.kIn J e (fun z=>nomatch z) h
end
structure gn (k : Nat) (A : Around) : Prop where
 hd : A.handled = none
 dp : A.depth + 3 * k + 5 < recursionLimit
 un : A.units + 16 * k + 200 < cLine
theorem gn.mono {j k:Nat}{A:Around}(r:gn k A)(h:j<=k):gn j A:=⟨r.hd,by have:=r.dp;omega,by have:=r.un;omega⟩
theorem gn.deeper {k:Nat}{A:Around}(r:gn (k + 1) A)(env:Env):gn k (A.deeper env):=
 ⟨r.hd,by have:=r.dp;show A.depth + 1 + 3 * k + 5 < _;omega,by have:=r.un;show A.units + 3 + 16 * k + 200 < _;omega⟩
theorem DX{A:Around}{C:Addr}{us:List Value}{kw:List (Str×Value)}:(A.under (.builtin "type.__call__" ⟨.ref C::us,kw⟩)).depth=A.depth + 1:=by
 first | rfl | simp [Around.under,Code.weight,Code.isCreation,Code.isGuard,Code.isCaller,Code.frames,Code.isFrame,guardIds]
theorem AB{A:Around}{C:Addr}{us:List Value}{kw:List (Str×Value)}:(A.under (.builtin "type.__call__" ⟨.ref C::us,kw⟩)).units=A.units + 1:=by
 first | rfl | simp [Around.under,Code.cUnits,Code.frames,Code.isFrame]
theorem gn.make {k:Nat}{A:Around}(r:gn (k + 1) A)(C:Addr)(us:List Value)(kw:List (Str×Value)):gn k (A.under (.builtin "type.__call__" ⟨.ref C::us,kw⟩)):=
 ⟨r.hd,by have:=r.dp;rw [DX];omega,by have:=r.un;rw [AB];omega⟩
theorem gn.depth {k:Nat}{A:Around}(r:gn k A):A.depth < recursionLimit:=by have:=r.dp;omega
theorem gn.units {k:Nat}{A:Around}(r:gn k A):A.units + 64 < cLine:=by have:=r.un;omega
def jU:TA:=fun _ H Q=>Q [] H
def jd(ta:TE)(tr:TA):TA:=fun σ H Q=>ta σ H fun x H1=>tr σ H1 fun xs H2=>Q (x::xs) H2
section
variable {X : Cx} {e : Expr} {es : List Expr} {te : TE} {t : TA} {pos : Pos}
theorem dZ:PA X [] jU:=fun _ _ _ _ H Q I h=>Calls.spliced_nil ⟨[],H,I,.nil,h⟩
theorem dY(ha:PE X e te)(hr:PA X es t)(hs:starEach (e::es) X.env=(false,eval e X.env)::starEach es X.env:=by rfl):PA X (e::es) (jd te t):=by
 intro pos pins s σ H Q I h
 rw [hs]
 show wpAny _ _ (spliced ((false,eval e X.env)::backTo pos (starEach es X.env))) _ _ s
 refine Calls.spliced_cons (eJ (ha pins s σ H _ I h) fun u s1 ⟨x,H1,J,U,q1⟩=>?_)
 exact eJ (hr pos pins s1 σ H1 _ J q1) fun us s2 ⟨xs,H2,I2,r2,q2⟩=>⟨x::xs,H2,I2,.cons U r2,q2⟩
def zx(t:TA):TE:=fun σ H Q=>t σ H fun xs H1=>xs.length<=sizeLine/\∀ p,H1 p=none->Q (.ref p) (upd H1 p (.tup xs))
def oi(t:TA):TE:=fun σ H Q=>t σ H fun xs H1=>xs.length<=sizeLine/\∀ p,H1 p=none->Q (.ref p) (upd H1 p (.lst xs))
theorem g8{x1}(h:PA X es t):PE X (.Tuple es x1 pos) (zx t):=by
 intro pins s σ H Q I U
 refine wpAny_Tuple_spliced (eJ (h pos pins s σ H _ I U) fun us s1 ⟨xs,H1,J,r,z,q⟩=>⟨by rw [<-r.length];exact z,?_⟩)
 have hf:H1 s1.heap.objs.size=none:=J.hok.fresh (Nat.le_refl _)
 refine⟨.ref s1.heap.objs.size,upd H1 s1.heap.objs.size (.tup xs),J.laid (t':=s1.toks) (fun b u e=>Heap.get?_push_of_some _ e) (Nat.le_refl _) ?_,rfl,q _ hf⟩
 exact⟨z,us,r,⟨_,Heap.get?_push_size _ rfl,rfl,_,rfl⟩⟩
theorem fJ(h:PA X es t):PE X (.List es pos) (oi t):=by
 intro pins s σ H Q I U
 refine wpAny_List_spliced (eJ (h pos pins s σ H _ I U) fun us s1 ⟨xs,H1,J,r,z,q⟩=>⟨by rw [<-r.length];exact z,?_⟩)
 have hf:H1 s1.heap.objs.size=none:=J.hok.fresh (Nat.le_refl _)
 refine⟨.ref s1.heap.objs.size,upd H1 s1.heap.objs.size (.lst xs),J.laid (t':=s1.toks) (fun b u e=>Heap.get?_push_of_some _ e) (Nat.le_refl _) ?_,rfl,q _ hf⟩
 exact⟨z,us,0,r,Heap.get?_push_size _ rfl⟩
end
abbrev Sp:=List V->Hp->VK->XK->Prop
abbrev iY:=List Env->Hp->Shared->XK->Value->Shared->Prop
structure mq (P : Program) (w : World) (K : W.Frag) (mg : Str -> Option Value) (base : Heap) (A : Around) (outer : List Env) (s : Shared) (H : Hp) : Prop where
 frames : A.frames = some outer
 mod : Mod K mg base
 bs : ∀ b o, base.get? b = some o -> s.heap.get? b = some o /\ H b = none
 bsz : base.objs.size <= s.heap.objs.size
 funs : s.heap.FunFrames base outer
 frf : ∀ b ∈ fT outer, H b = none
 hok : gi P w H s.heap
 bare : AllBare s.gens
def CE(outer:List Env)(P:Program)(w:World)(H:Hp)(s:Shared)(Q:VK)(u:Value)(s':Shared):Prop:=
 ∃ v H',s'.os=s.os/\AllBare s'.gens/\Un (fT outer) [] H H' s.heap s'.heap/\gi P w H' s'.heap/\RelV v u/\Q v H'
def CR(CX:iY)(outer:List Env)(P:Program)(w:World)(H:Hp)(s:Shared)(Q:VK)(E:XK)(r:Result)(s':Shared):Prop:=
 match r with
 | .ok (.ret u)=>CE outer P w H s Q u s'
 | .ok _=>False
 | .error e=>CX outer H s E e s'
structure d8 (P : Program) (w : World) (K : W.Frag) (mg : Str -> Option Value) (base : Heap) (CX : iY) (k : Nat) (f : Addr) (fd : FuncData) (ps : List Str) (sp : Sp) : Prop where
 len : ∀ vs H Q E, sp vs H Q E -> vs.length = ps.length
 run : ∀ (A : Around) (outer : List Env) (s : Shared) (H : Hp) (args : Args) (us : List Value) (vs : List V) (Q : VK) (E : XK), gn k A -> mq P w K mg base A outer s H -> BindsTo s fd args (ps.zip us) -> Vals vs us -> sp vs H Q E ->
  codeAny (model P w) A (.call (.ref f) args) (CR CX outer P w H s Q E) s
theorem d8.mono {P:Program}{w:World}{K:W.Frag}{mg:Str->Option Value}{base:Heap}{CX:iY}{j k:Nat}{f:Addr}{fd:FuncData}{ps:List Str}{sp:Sp}(F:d8 P w K mg base CX j f fd ps sp)(h:j<=k):
  d8 P w K mg base CX k f fd ps sp:=⟨F.len,fun A outer s H args us vs Q E I=>F.run A outer s H args us vs Q E (I.mono h)⟩
theorem mq.make {P:Program}{w:World}{K:W.Frag}{mg:Str->Option Value}{base:Heap}{A:Around}{outer:List Env}{s:Shared}{H:Hp}(e:mq P w K mg base A outer s H)(C:Addr)(us:List Value)(kw:List (Str×Value)):
  mq P w K mg base (A.under (.builtin "type.__call__" ⟨.ref C::us,kw⟩)) outer s H:=⟨by first | exact e.frames | (simpa [Around.under,Code.envs,Code.isFrame,pushEnvs] using e.frames),e.mod,e.bs,e.bsz,e.funs,e.frf,e.hok,e.bare⟩
section
variable {X : Cx} {pins : List (Addr × Obj)} {σ : St} {H : Hp} {s s' : Shared}
theorem Inv.env0 (I:Inv X pins σ H s):mq X.prog X.w X.K X.mg X.base X.A X.stack s H:=
 ⟨I.ok.frames,I.ok.mod,I.bs,Nat.le_trans I.ok.bsz I.sz,I.stack,I.stkFree,I.hok,I.bare⟩
theorem Inv.after {Q:VK}{u:Value}(I:Inv X pins σ H s)(h:CE X.stack X.prog X.w H s Q u s'):EP X pins σ Q u s':=by
 obtain⟨v,H',os,bare,un,hok,r,q⟩:=h
 obtain⟨U,g,d,t,J⟩:=s'
 obtain rfl:J=s.os:=os
 exact⟨v,H',I.call (h':=U) (g':=g) (d':=d) (t':=t) (ch:=[]) un hok bare (fun b z=>absurd z (by simp)),r,q⟩
end
def EC(sp:Sp)(dvs:List V)(E:XK)(t:TA):TE:=fun σ H Q=>t σ H fun vs H1=>sp (vs++dvs) H1 Q E
def xU(C:Addr)(m:Str)(sp:Sp)(dvs:List V)(E:XK)(ta:TE)(t:TA):TE:=fun σ H Q=>ta σ H fun x H1=>∃ a dx fs,x= .ref a/\H1 a=some (.ins C dx fs)/\fs.lookup m=none/\
 t σ H1 fun vs H2=>sp (x::(vs++dvs)) H2 Q E
def C7(C:Addr)(sp:Sp)(dvs:List V)(E:XK)(t:TA):TE:=fun σ H Q=>t σ H fun vs H1=>∀ x dx,H1 x=none->H1 dx=none->dx≠x->
 sp (.ref x::(vs++dvs)) (upd (upd H1 dx (.own x)) x (.ins C dx [])) (fun v H2=>v= .non/\Q (.ref x) H2) E
def Binds(K:W.Frag)(fd:FuncData)(ps:List Str)(ds:List Value):Prop:=
 ∀(s:Shared) (us:List Value),K.In s.heap->(us++ds).length=ps.length->BindsTo s fd ⟨us,[]⟩ (ps.zip (us++ds))
theorem Binds.all {K:W.Frag}{fd:FuncData}{ps:List Str}(h:∀ us:List Value,us.length=ps.length->bindArgs fd ⟨us,[]⟩=pure (ps.zip us)):Binds K fd ps []:=fun s us _ I=>by
 rw [List.append_nil] at I ⊢
 exact .of_eq (h us I)
def Passes(CX:iY)(X:Cx)(E:XK):Prop:=∀(pins:List (Addr×Obj)) (σ:St) (H:Hp) (s:Shared) (e:Value) (s':Shared),Inv X pins σ H s->CX X.stack H s E e s'->X.xe e s'
section
variable {X : Cx} {CX : iY} {k : Nat} {f C : Addr} {fd : FuncData} {ps : List Str} {sp : Sp} {dvs : List V} {ds : List Value} {E : XK} {x m : Str} {p pos apos : Pos} {e o : Expr} {es : List Expr} {ta : TE} {t : TA}
theorem sR{pins:List (Addr×Obj)}{σ:St}{H:Hp}{s:Shared}{Q:VK}{us:List Value}{vs:List V}(F:d8 X.prog X.w X.K X.mg X.base CX k f fd ps sp)(hr:gn k X.A)(hb:Binds X.K fd ps ds)(hd:Vals dvs ds)(hx:Passes CX X E)
  (I:Inv X pins σ H s)(r:Vals vs us)(h:sp (vs++dvs) H Q E):wpAny (model X.prog X.w) X.A (call (.ref f) us) (EP X pins σ Q) X.xe s:=by
 have U:Vals (vs++dvs) (us++ds):=r.append hd
 have hl:(us++ds).length=ps.length:=by rw [<-U.length];exact F.len _ _ _ _ h
 refine wpAny_call (codeAny_mono (F.run X.A X.stack s H ⟨us,[]⟩ (us++ds) (vs++dvs) Q E hr I.env0 (hb s us I.kIn hl) U h) fun r s' J=>?_)
 cases r with
 | error e=>exact hx pins σ H s e s' I J
 | ok fl=>
  cases fl with
  | ret u=>exact I.after J
  | next=>exact False.elim J
  | brk=>exact False.elim J
  | cont=>exact False.elim J
theorem eI(F:d8 X.prog X.w X.K X.mg X.base CX k f fd ps sp)(hr:gn k X.A)(hg:Gl X x)(hm:X.mg x=some (.ref f))(hk:W.keepIn X.K (.ref f)=true)(hb:Binds X.K fd ps ds)(hd:Vals dvs ds)(hx:Passes CX X E)
  (ha:PA X (e::es) t)(hdb:(x == ("__debug__":Str))=false:=by decide)(he:starEach (e::es) X.env=(false,eval e X.env)::starEach es X.env:=by rfl)(hpl:(backTo pos (starEach es X.env)).any (·.1)=false:=by rfl):
  PE X (.Call (.Name x p) (e::es) [] pos) (EC sp dvs E t):=by
 intro pins s σ H Q I h
 refine wpAny_Call_Name_kw (rq I hg hm ?_ hdb)
 refine W.callWith_K (h₀:=X.base) I.ok.mod.kin hk (eJ (ha pos pins s σ H _ I h) fun us s1 ⟨vs,H1,J,r,q⟩=>⟨J.kIn,?_⟩) he hpl
 exact sR F hr hb hd hx J r q
theorem iO{pl:Sem Bool}(he:PE X o ta)(c:jt X.K C)(hm:Meth X.K C m f)(F:d8 X.prog X.w X.K X.mg X.base CX k f fd ps sp)(hr:gn k X.A)(hb:Binds X.K fd ps ds)(hd:Vals dvs ds)(hx:Passes CX X E)(ha:PA X (e::es) t)
  (hst:starEach (e::es) X.env=(false,eval e X.env)::starEach es X.env:=by rfl)(hpl:(backTo pos (starEach es X.env)).any (·.1)=false:=by rfl)
  (ht:eval (.Call (.Attribute o m apos) (e::es) [] pos) X.env=(do
   let ov<-eval o X.env
   standAt apos.atName
   let (f,first)<-holding [ov] (getMethod ov m pl)
   callWith pos f first (backTo pos (starEach (e::es) X.env)) (backToKw pos (keywordEach [] X.env))):=by rfl):
  PE X (.Call (.Attribute o m apos) (e::es) [] pos) (xU C m sp dvs E ta t):=by
 intro pins s σ H Q I h
 refine W.methodCall_KW (pl:=pl) (eJ (he pins s σ H _ I h) fun u s1 ⟨x,H1,J,rx,a,dx,fs,ex,ea,l,q⟩=>?_) ht
 subst ex
 obtain rfl:u=Value.ref a:=rx
 refine yo J ea c hm l ?_
 refine W.callWith_K (first:=[.ref a]) (h₀:=X.base) I.ok.mod.kin hm.kp (eJ (ha pos pins s1 σ H1 _ J q) fun us s2 ⟨vs,H2,U,r,q2⟩=>⟨U.kIn,?_⟩) hst hpl
 exact sR (us:= .ref a::us) (vs:= .ref a::vs) F hr hb hd hx U (.cons rfl r) q2
theorem kW{pl:Sem Bool}(he:PE X o ta)(c:jt X.K C)(hm:Meth X.K C m f)(F:d8 X.prog X.w X.K X.mg X.base CX k f fd ps sp)(hr:gn k X.A)(hb:Binds X.K fd ps ds)(hd:Vals dvs ds)(hx:Passes CX X E)
  (ht:eval (.Call (.Attribute o m apos) [] [] pos) X.env=(do
   let ov<-eval o X.env
   standAt apos.atName
   let (f,first)<-holding [ov] (getMethod ov m pl)
   callWith pos f first (backTo pos (starEach [] X.env)) (backToKw pos (keywordEach [] X.env))):=by rfl):
  PE X (.Call (.Attribute o m apos) [] [] pos) (xU C m sp dvs E ta jU):=by
 intro pins s σ H Q I h
 refine W.methodCall_KW (pl:=pl) (eJ (he pins s σ H _ I h) fun u s1 ⟨x,H1,J,U,a,dx,fs,ex,ea,l,q⟩=>?_) ht
 subst ex
 obtain rfl:u=Value.ref a:=U
 refine yo J ea c hm l ?_
 exact W.callWith_K0 (first:=[.ref a]) J.kIn hm.kp (sR (us:=[.ref a]) (vs:=[.ref a]) F hr hb hd hx J (.cons rfl .nil) q)
structure Mk (K : W.Frag) (C f : Addr) : Prop where
 makes : W.makesIn K C = true
 init : W.findIn K (.ref C) "__init__" = some (some (.ref f))
 fn : W.isFn K (.ref f) = true
 kp : W.keepIn K (.ref C) = true
theorem Hk{pins:List (Addr×Obj)}{σ:St}{H:Hp}{s:Shared}{Q:VK}{us:List Value}{vs:List V}(M:Mk X.K C f)(F:d8 X.prog X.w X.K X.mg X.base CX k f fd ps sp)(hr:gn (k + 1) X.A)(hb:Binds X.K fd ps ds)(hd:Vals dvs ds)
  (hx:Passes CX X E)(I:Inv X pins σ H s)(r:Vals vs us)
  (h:∀ x dx,H x=none->H dx=none->dx≠x->sp (.ref x::(vs++dvs)) (upd (upd H dx (.own x)) x (.ins C dx [])) (fun v H2=>v= .non/\Q (.ref x) H2) E):
  wpAny (model X.prog X.w) X.A (call (.ref C) us) (EP X pins σ Q) X.xe s:=by
 have hq:=h (s.heap.objs.size + 1) s.heap.objs.size (I.hok.fresh (Nat.le_succ _)) (I.hok.fresh (Nat.le_refl _)) (Nat.ne_of_lt (Nat.lt_succ_self _))
 have U:=Inv.made (C:=C) I
 have r2:Vals (V.ref (s.heap.objs.size + 1)::(vs++dvs)) (Value.ref (s.heap.objs.size + 1)::(us++ds)):= .cons rfl (r.append hd)
 have hl:(Value.ref (s.heap.objs.size + 1)::us++ds).length=ps.length:=by
  have e:=r2.length
  rw [F.len _ _ _ _ hq] at e
  exact e.symm
 refine wpAny_call (Bl (f:=f) I.kIn M.makes M.init (beq_iff_eq.mp M.fn) (codeAny_mono (F.run _ X.stack _ _ ⟨Value.ref (s.heap.objs.size + 1)::us,[]⟩ (Value.ref (s.heap.objs.size + 1)::(us++ds)) _ _ E (hr.make C us [])
  (U.env0.make C us []) (hb _ (Value.ref (s.heap.objs.size + 1)::us) U.kIn hl) r2 hq) fun r s' J=>?_))
 cases r with
 | error e=>exact hx pins σ _ _ e s' U J
 | ok fl=>
  cases fl with
  | ret u=>
   obtain⟨v,H',I3,rv,ev,q3⟩:=U.after J
   subst ev
   exact⟨rv,⟨V.ref (s.heap.objs.size + 1),H',I3,rfl,q3⟩⟩
  | next=>exact False.elim J
  | brk=>exact False.elim J
  | cont=>exact False.elim J
theorem uU(M:Mk X.K C f)(F:d8 X.prog X.w X.K X.mg X.base CX k f fd ps sp)(hr:gn (k + 1) X.A)(hg:Gl X x)(hm:X.mg x=some (.ref C))(hb:Binds X.K fd ps ds)(hd:Vals dvs ds)(hx:Passes CX X E)
  (ha:PA X (e::es) t)(hdb:(x == ("__debug__":Str))=false:=by decide)(he:starEach (e::es) X.env=(false,eval e X.env)::starEach es X.env:=by rfl)(hpl:(backTo pos (starEach es X.env)).any (·.1)=false:=by rfl):
  PE X (.Call (.Name x p) (e::es) [] pos) (C7 C sp dvs E t):=by
 intro pins s σ H Q I h
 refine wpAny_Call_Name_kw (rq I hg hm ?_ hdb)
 refine W.callWith_K (h₀:=X.base) I.ok.mod.kin M.kp (eJ (ha pos pins s σ H _ I h) fun us s1 ⟨vs,H1,J,r,q⟩=>⟨J.kIn,?_⟩) he hpl
 exact Hk M F hr hb hd hx J r q
end
section
variable {X : Cx} {CX : iY} {k : Nat} {f C : Addr} {fd : FuncData} {ps ks : List Str} {sp : Sp} {E : XK} {x m : Str} {p pos apos kpos : Pos} {e o : Expr} {es : List Expr} {kws : List Keyword} {te ta : TE} {t tk : TA} {nm : Option Str}
variable {g : List Value -> List Value -> List Value} {gV : List V -> List V -> List V}
end
structure eX (N P : List Str) (sc : Scope) : Prop where
 kind : sc.kind = .function
 co : sc.isCoroutine = false
 gen : sc.isGenerator = false
 nd : N.Nodup
 pre : N.take P.length = P
 par : ∀ x ∈ P, sc.names.lookup x = some .local \/ sc.names.lookup x = some .cell
 nofree : ∀ y ∈ sc.names, y.2 ≠ .free
theorem wy{kindOf:Str->Option NameKind}{x:Str}:∀{binds:List (Str×Value)} {m:Str->Option Value},(∀ v,(x,v)∉binds)->bindL kindOf binds m x=m x
 | [],_,_=>rfl
 | (n,v)::r,m,h=>by
  unfold bindL
  rw [wy fun w hw=>h w (List.mem_cons_of_mem _ hw)]
  split
  ·have:x≠n:=by rintro rfl;exact h v List.mem_cons_self
   simp [this]
  ·rfl
theorem wI{kindOf:Str->Option NameKind}{x:Str}:∀{binds:List (Str×Value)} {m:Str->Option Value},(∀ v,(x,v)∉binds)->bindC kindOf binds m x=m x
 | [],_,_=>rfl
 | (n,v)::r,m,h=>by
  unfold bindC
  rw [wI fun w hw=>h w (List.mem_cons_of_mem _ hw)]
  split
  ·rfl
  ·have:x≠n:=by rintro rfl;exact h v List.mem_cons_self
   simp [this]
theorem wQ{kindOf:Str->Option NameKind}{x:Str}{v:Value}:∀{P:List Str} {vs:List Value} {i:Nat} {m:Str->Option Value},P.Nodup->P[i]? =some x->vs[i]? =some v->kindOf x=some .local->
  bindL kindOf (P.zip vs) m x=some v
 | [],_,_,_,_,h,_,_=>by simp at h
 | _::_,[],_,_,_,_,h,_=>by simp at h
 | p::P,w::vs,0,m,nd,h1,h2,hk=>by
  simp at h1 h2;subst h1;subst h2
  show bindL kindOf ((p,w)::P.zip vs) m p=_
  unfold bindL
  rw [wy fun v I=>(List.nodup_cons.mp nd).1 (List.of_mem_zip I).1,if_pos hk]
  simp
 | p::P,w::vs,i + 1,m,nd,h1,h2,hk=>by
  show bindL kindOf ((p,w)::P.zip vs) m x=_
  unfold bindL
  exact wQ (i:=i) (List.nodup_cons.mp nd).2 (by simpa using h1) (by simpa using h2) hk
theorem vb{kindOf:Str->Option NameKind}{x:Str}{v:Value}:∀{P:List Str} {vs:List Value} {i:Nat} {m:Str->Option Value},P.Nodup->P[i]? =some x->vs[i]? =some v->kindOf x≠some .local->
  bindC kindOf (P.zip vs) m x=some v
 | [],_,_,_,_,h,_,_=>by simp at h
 | _::_,[],_,_,_,_,h,_=>by simp at h
 | p::P,w::vs,0,m,nd,h1,h2,hk=>by
  simp at h1 h2;subst h1;subst h2
  show bindC kindOf ((p,w)::P.zip vs) m p=_
  unfold bindC
  rw [wI fun v I=>(List.nodup_cons.mp nd).1 (List.of_mem_zip I).1,if_neg hk]
  simp
 | p::P,w::vs,i + 1,m,nd,h1,h2,hk=>by
  show bindC kindOf ((p,w)::P.zip vs) m x=_
  unfold bindC
  exact vb (i:=i) (List.nodup_cons.mp nd).2 (by simpa using h1) (by simpa using h2) hk
def start(N:List Str)(vs:List V):St:=vs.map some++List.replicate (N.length - vs.length) none
def gO(CX:iY)(P:Program)(w:World)(K:W.Frag)(mg:Str->Option Value)(base:Heap)(N:List Str)(qual:Str)(scope:Scope)(f:Addr)(cd:Value)(A:Around)(outer:List Env)(s:Shared)(H:Hp)(E:XK):Cx where
 prog:=P
 w:=w
 K:=K
 mg:=mg
 base:=base
 A:=A.deeper (envOfC qual scope s.heap.objs.size f cd)
 N:=N
 s₀:=s
 H₀:=H
 env:=envOfC qual scope s.heap.objs.size f cd
 outer:=outer
 stack:=envOfC qual scope s.heap.objs.size f cd::outer
 ex:=[]
 calm:=true
 fn:=fun _=>true
 pn:=[]
 xe:=fun e s'=>wpAny (model P w) (A.deeper (envOfC qual scope s.heap.objs.size f cd)) (leaving (envOfC qual scope s.heap.objs.size f cd) e) (fun _ I=>CX outer H s E e I) (fun J I=>CX outer H s E J I) s'
theorem wY{sc:Scope}{n:Nat}{x:Str}(h:sc.names.lookup x=some .cell):∃ c,(cellsFrom n sc.names []).lookup x=some c:=by
 have q:=W.cellsFrom_some sc.names n [] (.inl h)
 exact Option.isSome_iff_exists.mp q
theorem B2{CX:iY}{P:Program}{w:World}{K:W.Frag}{mg:Str->Option Value}{base:Heap}{N ps:List Str}{qual:Str}{scope:Scope}{f:Addr}{cd:Value}{A:Around}{outer:List Env}{s s1:Shared}{H:Hp}{E:XK}{us:List Value}{vs:List V}
  (S:eX N ps scope)(hd:A.handled=none)(e0:mq P w K mg base A outer s H)(hl:vs.length=ps.length)(r:Vals vs us)
  (x:InCallC s s.heap.objs.size (bindL (envOfC qual scope s.heap.objs.size f cd).kindOf (ps.zip us) fun _=>none) (cellsFrom (s.heap.objs.size + 1) scope.names []) (bindC (envOfC qual scope s.heap.objs.size f cd).kindOf (ps.zip us) fun _=>none) s1):
  Inv (gO CX P w K mg base N qual scope f cd A outer s H E) [] (start N vs) H s1:=by
 have aa:ps.length<=N.length:=by have:=congrArg List.length S.pre;rw [List.length_take] at this;omega
 obtain⟨h1,tk,rfl,hk⟩:=x.done
 have I:∀ b:Addr,b∉(gO CX P w K mg base N qual scope f cd A outer s H E).ex:=fun b z=>absurd (show b∈([]:List Addr) from z) (by simp)
 refine⟨⟨e0.mod,S.kind,rfl,rfl,Nat.le_refl _,fun y z c h1 h2=>?_,fun y hy=>?_,fun y c _ h=>?_,fun _=>hd,Around.frames_deeper e0.frames,.inr ⟨rfl,rfl⟩,fun b z=>absurd z (I b),e0.bs,e0.bsz,fun b _ _=>I b,fun b z=>absurd z (I b),e0.funs,e0.frf⟩,
  rfl,e0.bare,Un.kept hk,⟨_,x.toInCall.ns,fun i y v h1 h2 h3=>?_⟩,fun y c h=>⟨_,x.cell y c h⟩,e0.hok.fresh (Nat.le_refl _),fun y c h=>?_,fun p J=>absurd (show p∈([]:List (Addr×Obj)) from J) (by simp),e0.hok.kept hk,?_⟩
 ·exact name_of_addr x.apart (PySem.mem_of_lookup h1) (PySem.mem_of_lookup h2)
 ·have hy:scope.names.lookup y=some .cell\/scope.names.lookup y=some .free:=hy
  rcases hy with hy | hy
  ·exact wY hy
  ·exact absurd rfl (S.nofree _ (PySem.mem_of_lookup hy))
 ·exact Nat.le_of_lt (x.above y c (PySem.mem_of_lookup h))
 ·have hi:i < vs.length:=by
   unfold start at h2
   by_cases hi:i < vs.length
   ·exact hi
   ·rw [List.getElem?_append_right (by simpa using hi)] at h2
    rw [List.getElem?_replicate] at h2
    split at h2<;>cases h2
  have ha:vs[i]? =some v:=by
   unfold start at h2
   rw [List.getElem?_append_left (by simpa using hi),List.getElem?_map] at h2
   cases e:vs[i]? with
   | none=>rw [e] at h2;cases h2
   | some a=>rw [e] at h2;cases h2;rfl
  obtain⟨u,hu,rv⟩:=r.get ha
  have J:ps[i]? =some y:=by
   rw [<-S.pre,List.getElem?_take_of_lt (by omega)];exact h1
  have U:ps.Nodup:=by rw [<-S.pre];exact S.nd.sublist (List.take_sublist _ _)
  refine⟨u,rv,?_⟩
  rcases S.par y (List.mem_of_getElem? J) with k | k
  ·exact .inl ⟨k,wQ U J hu k⟩
  ·obtain⟨c,e⟩:=wY (n:=s.heap.objs.size + 1) k
   refine .inr ⟨.inl k,c,e,?_⟩
   have q:=x.cell y c e
   rw [vb U J hu (by show scope.names.lookup y≠_;rw [k];decide)] at q
   exact q
 ·exact e0.hok.fresh (Nat.le_of_lt (x.above y c (PySem.mem_of_lookup h)))
 ·unfold start
  show _=N.length
  rw [List.length_append,List.length_map,List.length_replicate]
  omega
theorem qg{CX:iY}{P:Program}{w:World}{K:W.Frag}{mg:Str->Option Value}{base:Heap}{k:Nat}{f:Addr}{name qual:Str}{params:Arguments}{body:List Stmt}{scope:Scope}{dV kV doc pm cdv ct oc:Value}{an od:Option Addr}
  {osl:Array (Option Value)}{N ps:List Str}{sp:Sp}(lk:K.lookup f=some ⟨oc,od,.func (W.fnOf name qual params body scope dV kV doc pm an cdv ct),osl⟩)(hcd:W.codeIn K cdv qual=true)(S:eX N ps scope)
  (len:∀ vs H Q E,sp vs H Q E->vs.length=ps.length)
  (hbody:∀(A:Around) (outer:List Env) (s:Shared) (H:Hp) (vs:List V) (Q:VK) (E:XK),gn k (A.deeper (envOfC qual scope s.heap.objs.size f cdv))->sp vs H Q E->
   ∃ t,eK (gO CX P w K mg base N qual scope f cdv A outer s H E) body t/\t {nx:=fun _ H'=>Q .non H',rt:=Q} (start N vs) H):
  d8 P w K mg base CX (k + 1) f (W.fnOf name qual params body scope dV kV doc pm an cdv ct) ps sp:=by
 refine⟨len,fun A outer s H args us vs Q E hr e0 hb r ab=>?_⟩
 have hl:=len _ _ _ _ ab
 have KX:K.In s.heap:=e0.mod.kin.keeps fun b o e=>(e0.bs b o e).1
 have lim:s.heap.NoLimit:=e0.mod.nolimit.keeps fun b o e=>(e0.bs b o e).1
 have aa:∀ y∈ps.zip us,scope.names.lookup y.1=some .local\/(scope.names.lookup y.1=some .cell/\((cellsFrom (s.heap.objs.size + 1) scope.names []).lookup y.1).isSome=true):=fun⟨n,v⟩ hy=>by
  rcases S.par n (List.of_mem_zip hy).1 with q | q
  ·exact .inl q
  ·exact .inr ⟨q,W.cellsFrom_some _ _ _ (.inl q)⟩
 refine codeAny_call_function hr.depth (KX _ _ lk) rfl S.co S.gen rfl (W.codeRec_of KX hcd) (hb _ _ _ _ ?_)
 refine wpAny_newFunctionEnv_cells S.kind aa fun env he s1 x=>?_
 subst he
 refine⟨lim.keeps x.toInCall.keep,codeAny_func ?_⟩
 obtain⟨t,ht,hq⟩:=hbody A outer s H vs Q E (hr.deeper _) ab
 have I:Inv (gO CX P w K mg base N qual scope f cdv A outer s H E) [] (start N vs) H s1:=B2 S hr.hd e0 hl r x
 refine wpAny_mono (ht [] s1 (start N vs) H _ I hq) (fun fl s' hs=>?_) fun e s' hs=>hs
 have fin:∀{U:St} {H':Hp} {v:V} {u:Value},Inv (gO CX P w K mg base N qual scope f cdv A outer s H E) [] U H' s'->RelV v u->Q v H'->CE outer P w H s Q u s':=
  fun{U H' v u} J rv q=>⟨v,H',J.os,J.bare,J.base,J.hok,rv,q⟩
 cases fl with
 | ret u=>
  obtain⟨v,U,H',J,rv,q⟩:=hs
  exact fin J rv q
 | next=>
  obtain⟨U,H',J,q⟩:=hs
  exact fin (v:=V.non) (u:=Value.none) J rfl q
 | brk=>
  obtain⟨_,_,_,q⟩:=hs
  exact False.elim q
 | cont=>
  obtain⟨_,_,_,q⟩:=hs
  exact False.elim q
section
variable {X : Cx} {x : Str} {p pos : Pos} {e : Expr} {es : List Expr} {t : TA} {id T : String} {r : List V -> Hp -> VK -> Prop}
def sO(r:List V->Hp->VK->Prop)(t:TA):TE:=fun σ H Q=>t σ H fun vs H1=>r vs H1 Q
theorem fG(hc:iB X (.builtin id) r)(hg:Gl X x)(hm:X.mg x=none)(hv:bootBuiltins x=some (.builtin id))(ha:PA X (e::es) t)(hn:x≠"__name__":=by decide)(hdb:(x == ("__debug__":Str))=false:=by decide)
  (he:starEach (e::es) X.env=(false,eval e X.env)::starEach es X.env:=by rfl)(hpl:(backTo pos (starEach es X.env)).any (·.1)=false:=by rfl):PE X (.Call (.Name x p) (e::es) [] pos) (sO r t):=by
 intro pins s σ H Q I h
 refine wpAny_Call_Name_kw (nc I hg hm hv ?_ hn hdb)
 exact PyProof.Rows.callWith_builtin1 (eJ (ha pos pins s σ H _ I h) fun us s1 ⟨vs,H1,J,U,q1⟩=>hc pins s1 σ H1 vs us Q J U q1) he hpl
theorem jA(hc:iB X (.type T) r)(hg:Gl X x)(hm:X.mg x=none)(hv:bootBuiltins x=some (.type T))(ha:PA X (e::es) t)(hn:x≠"__name__":=by decide)(hdb:(x == ("__debug__":Str))=false:=by decide)
  (he:starEach (e::es) X.env=(false,eval e X.env)::starEach es X.env:=by rfl)(hpl:(backTo pos (starEach es X.env)).any (·.1)=false:=by rfl):PE X (.Call (.Name x p) (e::es) [] pos) (sO r t):=by
 intro pins s σ H Q I h
 refine wpAny_Call_Name_kw (nc I hg hm hv ?_ hn hdb)
 exact PyProof.Rows.callWith_type1 (eJ (ha pos pins s σ H _ I h) fun us s1 ⟨vs,H1,J,U,q1⟩=>hc pins s1 σ H1 vs us Q J U q1) he hpl
end
end L2
namespace HT
open PySem PyProof.Rows
section
open PySem.SeqAt
open PySem.AutoSeq1 (wpAny_loadPart')
open PySem.MeetsSeq PySem.MeetsSeq2 PySem.MeetsSeq3
end
section
variable {prog : Program} {w : World} {A : Around} {E : Value -> Shared -> Prop} {s : Shared}
def ix(n d:Nat):Option Int->Nat
 | none=>d
 | some v=>if v < 0 then (v + (n:Int)).toNat else min v.toNat n
theorem yd(n d:Nat):ix n d none=d:=rfl
theorem qu(n d k:Nat):ix n d (some (k:Int))=min k n:=by
 show(if (k:Int) < 0 then ((k:Int) + (n:Int)).toNat else min (k:Int).toNat n)=min k n
 rw [if_neg (by omega),Int.toNat_natCast]
end
end HT
namespace L2
open PySem PySem.Spec PyProof.Rows
abbrev TO:=St->Hp->(Option Int->Hp->Prop)->Prop
def PO(X:Cx)(e:Option Expr)(t:TO):Prop:=
 ∀(pins:List (Addr×Obj)) (s:Shared) (σ:St) (H:Hp) (Q:Option Int->Hp->Prop),Inv X pins σ H s->t σ H Q->
  wpAny (model X.prog X.w) X.A (evalPart e X.env) (fun u s'=>∃ o H',Inv X pins σ H' s'/\IsPart u o/\Q o H') X.xe s
def Ay:TO:=fun _ H Q=>Q none H
def CJ(t:TE):TO:=fun σ H Q=>t σ H fun x H1=>∃ i,x= .int i/\Q (some i) H1
section
variable {X : Cx} {e : Expr} {te : TE} {lo hi : Option Expr} {tl th : TO} {pos p2 : Pos}
theorem iq:PO X none Ay:=by
 intro pins s σ H Q I h
 rw [evalPart_none]
 exact wpAny_pure ⟨none,H,I,.none,h⟩
theorem gR(h:PE X e te):PO X (some e) (CJ te):=by
 intro pins s σ H Q I hw
 rw [evalPart_some]
 refine eJ (h pins s σ H _ I hw) fun u s1 ⟨x,H1,J,U,q1⟩=>?_
 obtain⟨i,rfl,q⟩:=q1
 obtain⟨t,rfl⟩:=U
 exact⟨some i,H1,J,.int i t,q⟩
def uC(X:Cx)(r:V->Option Int->Option Int->Hp->VK->Prop):Prop:=
 ∀(pins:List (Addr×Obj)) (s:Shared) (σ:St) (H:Hp) (x:V) (v I J:Value) (lo hi:Option Int) (sl:Addr) (Q:VK),Inv X pins σ H s->RelV x v->s.heap.IsSliceOf sl I J .none->IsPart I lo->IsPart J hi->r x lo hi H Q->
  ∃ T id,typeLookup (.type T) "__getitem__"=pure (some (.builtin id))/\s.TypeIs v T/\wpAny (model X.prog X.w) X.A (getItem v (.ref sl)) (EP X pins σ Q) X.xe s
def Dg(r:V->Option Int->Option Int->Hp->VK->Prop)(te:TE)(tl th:TO):TE:=fun σ H Q=>te σ H fun x H1=>tl σ H1 fun l H2=>th σ H2 fun u I=>r x l u I Q
theorem g7{r:V->Option Int->Option Int->Hp->VK->Prop}(hr:uC X r)(he:PE X e te)(hl:PO X lo tl)(hu:PO X hi th):PE X (.Subscript e (.Slice lo hi none p2) pos) (Dg r te tl th):=by
 intro pins s σ H Q I h
 refine Subscript_ (eJ (he pins s σ H _ I h) fun v s1 ⟨x,H1,I1,r1,q1⟩=>?_)
 refine wpAny_Slice (eJ (hl pins s1 σ H1 _ I1 q1) fun J s2 ⟨l,H2,I2,pl,q2⟩=>eJ (hu pins s2 σ H2 _ I2 q2) fun U s3 ⟨u,H3,I3,pu,q3⟩=>?_)
 rw [evalPart_none]
 refine wpAny_pure ?_
 have I4:Inv X pins σ H3 {s3 with heap:=s3.heap.push {cls:= .type "slice",data:= .fields #[J,U,.none]}}:=I3.kept (t':=s3.toks) fun b ob q=>Heap.get?_push_of_some _ q
 obtain⟨T,id,hT,ht,hg⟩:=hr pins {s3 with heap:=s3.heap.push {cls:= .type "slice",data:= .fields #[J,U,.none]}} σ H3 x v J U l u s3.heap.objs.size Q I4 r1 (Heap.IsSliceOf.new ..) pl pu q3
 show wpAny (model X.prog X.w) X.A (subscriptTail e (.Slice lo hi none p2) v (.ref s3.heap.objs.size)) (EP X pins σ Q) X.xe {s3 with heap:=s3.heap.push {cls:= .type "slice",data:= .fields #[J,U,.none]}}
 exact tail_any (ops:=[.ref s3.heap.objs.size,v]) ht hT hg (by with_unfolding_all rfl)
def iU(xs:List V)(lo hi:Option Int):List V:=(xs.drop (HT.ix xs.length 0 lo)).take (HT.ix xs.length xs.length hi - HT.ix xs.length 0 lo)
theorem Cf(xs:List V)(lo hi:Option Int):(iU xs lo hi).length<=xs.length:=by
 unfold iU
 rw [List.length_take,List.length_drop]
 omega
end
def jL(n:Nat)(i:Int):Option Nat:=if 0<=i then (if i < n then some i.toNat else none) else if -(n:Int)<=i then some (i + n).toNat else none
def jr{α:Type}(xs:List α)(i:Int):Option α:=(jL xs.length i).bind fun j=>xs[j]?
theorem y4{n:Nat}{i:Int}{j:Nat}(h:jL n i=some j):seqIndex? i n=some j/\j < n/\ -(n:Int)<=i/\i < n:=by
 unfold jL at h
 by_cases h0:0<=i
 ·rw [if_pos h0] at h
  by_cases h1:i < n
  ·rw [if_pos h1] at h
   have e:i.toNat=j:=Option.some.inj h
   exact⟨by rw [seqIndex_of h0 h1,e],by omega,by omega,h1⟩
  ·rw [if_neg h1] at h;cases h
 ·rw [if_neg h0] at h
  by_cases h1: -(n:Int)<=i
  ·rw [if_pos h1] at h
   have e:(i + n).toNat=j:=Option.some.inj h
   exact⟨by rw [seqIndex_neg (by omega) h1,e],by omega,h1,by omega⟩
  ·rw [if_neg h1] at h;cases h
theorem uO{α:Type}{xs:List α}{i:Int}{v:α}(h:jr xs i=some v):∃ j,seqIndex? i xs.length=some j/\xs[j]? =some v/\j < xs.length/\ -(xs.length:Int)<=i/\i < xs.length:=by
 unfold jr at h
 cases e:jL xs.length i with
 | none=>rw [e] at h;cases h
 | some j=>
  rw [e] at h
  obtain⟨h1,h2,I,J⟩:=y4 e
  exact⟨j,h1,h,h2,I,J⟩
theorem fC{α:Type}{xs:List α}{j:Nat}{v:α}(h:xs[j]? =some v):jr xs (j:Int)=some v:=by
 have I:j < xs.length:=(List.getElem?_eq_some_iff.mp h).1
 have e:jL xs.length (j:Int)=some j:=by
  unfold jL
  rw [if_pos (by omega),if_pos (by omega)];simp
 unfold jr;rw [e];exact h
theorem Ib{α:Type}(xs:List α)(v:α):jr (xs++[v]) (-1)=some v:=by
 have I:(xs++[v]).length=xs.length + 1:=by simp
 have e:jL (xs++[v]).length (-1)=some xs.length:=by
  unfold jL
  rw [I,if_neg (by decide),if_pos (by omega)]
  congr 1
  omega
 unfold jr
 rw [e]
 show(xs++[v])[xs.length]? =some v
 simp
def FD(b:Expr):Prop:=∀ o i,subscripted b false o i=operate [o,i] (getItem o i)
def mY(X:Cx)(r:R2):Prop:=
 ∀(value slice:Expr) (pins:List (Addr×Obj)) (s:Shared) (σ:St) (H:Hp) (x y:V) (v u:Value) (Q:VK),Inv X pins σ H s->RelV x v->RelV y u->r x y H Q->
  subscripted slice false v u=operate [v,u] (getItem v u)->wpAny (model X.prog X.w) X.A (subscriptTail value slice v u) (EP X pins σ Q) X.xe s
def j6(X:Cx)(id:String)(r:V->List V->Hp->VK->Prop):Prop:=
 ∀(pins:List (Addr×Obj)) (s:Shared) (σ:St) (H:Hp) (x:V) (xs:List V) (v:Value) (us:List Value) (Q:VK),Inv X pins σ H s->RelV x v->Vals xs us->r x xs H Q->
  wpAny (model X.prog X.w) X.A (call (.builtin id) (v::us)) (EP X pins σ Q) X.xe s
section
variable {X : Cx} {a b : Expr} {ta tb : TE} {pos : Pos}
theorem fb{r:R2}(hr:mY X r)(ha:PE X a ta)(hb:PE X b tb)(hs:FD b):PE X (.Subscript a b pos) (iQ r ta tb):=by
 intro pins s σ H Q I h
 exact Subscript_ (sH ha hb I h fun v u s2 x y H2 J U ry q=>hr a b pins s2 σ H2 x y v u Q J U ry q (hs _ _))
def rk(K:W.Frag):R2:=fun x y H Q=>∃ p xs i v,x= .ref p/\y= .int i/\d4 K H p xs/\jr xs i=some v/\Q v H
def pX(K:W.Frag):R2:=fun x y H Q=>∃ p xs i v,x= .ref p/\y= .int i/\eW K H p xs/\jr xs i=some v/\Q v H
def Gw:R2:=fun x y H Q=>∃ z i c,x= .str z/\y= .int i/\z.length<=sizeLine/\jr z.cps.toList i=some c/\Q (.str ⟨#[c]⟩) H
theorem fS:mY X (rk X.K):=by
 intro value slice pins s σ H x y v u Q I rx ry h hs
 obtain⟨p,xs,i,z,rfl,rfl,hq,he,q⟩:=h
 cases rx
 obtain⟨t,rfl⟩:=ry
 obtain⟨J,r,pl,hz⟩:=I.list hq
 obtain⟨j,h1,h2,h3,h4,h5⟩:=uO he
 obtain⟨w,ew,U⟩:=r.get h2
 have hl:=r.length
 have hn:=m6
 have fin:EP X pins σ Q w s:=⟨z,H,I,U,q⟩
 by_cases h0:0<=i
 ·have hj:i.toNat=j:=by
   rw [seqIndex_of h0 h5] at h1
   exact Option.some.inj h1
  exact item_listR pl.isList h0 (by omega) (by rw [hj];simpa using ew) fin hs
 ·have hj:(i + (J.toArray.size:Int)).toNat=j:=by
   rw [seqIndex_neg (by omega) h4] at h1
   rw [List.size_toArray,<-hl]
   exact Option.some.inj h1
  exact subscriptTail_builtinR (x:=w) pl.isList.typeIs slot_list_getitem.lookup
   (wpAny_getItem_list_neg (Q:=fun r s'=>r=w/\EP X pins σ Q r s') pl.isList (by omega) (by rw [List.size_toArray]<;>omega) (by omega) (by rw [hj];simpa using ew) ⟨rfl,fin⟩) hs
theorem iu:mY X (pX X.K):=by
 intro value slice pins s σ H x y v u Q I U ry h hs
 obtain⟨p,xs,i,z,rfl,rfl,hq,he,q⟩:=h
 cases U
 obtain⟨t,rfl⟩:=ry
 obtain⟨aa,r,pl,hz⟩:=I.tuple hq
 obtain⟨j,h1,h2,h3,h4,h5⟩:=uO he
 obtain⟨w,ew,J⟩:=r.get h2
 have hl:=r.length
 have hn:=m6
 have fin:EP X pins σ Q w s:=⟨z,H,I,J,q⟩
 exact subscriptTail_builtinR (x:=w) pl.typeIs slot_tuple_getitem.lookup
  (getItem_tuple (j:=j) (Q:=fun r s'=>r=w/\EP X pins σ Q r s') pl (by omega) (by omega) (by rw [List.size_toArray,<-hl];exact h1) (by simpa using ew) ⟨rfl,fin⟩) hs
theorem oM:mY X Gw:=by
 intro value slice pins s σ H x y v u Q I J U h hs
 obtain⟨z,i,c,rfl,rfl,hz,he,q⟩:=h
 obtain⟨t,rfl⟩:=J
 obtain⟨t',rfl⟩:=U
 obtain⟨j,h1,h2,h3,h4,h5⟩:=uO he
 have hl:z.cps.toList.length=z.length:=by simp [Str.length]
 rw [hl] at h1 h4 h5
 have hn:=m6
 exact tail_any (typeIs_str s z t) slot_str_getitem.lookup (getItem_str (c:=c) (by
  have e1:decide (i < -(2 ^ 63:Int))=false:=decide_eq_false (by omega)
  have e2:decide (i ≥ 2 ^ 63)=false:=decide_eq_false (by omega)
  rw [e1,e2,Bool.or_false]) (by rw [h1];simpa using h2) ⟨.str ⟨#[c]⟩,H,I.tok _,⟨_,rfl⟩,q⟩) hs
theorem GQ(its:List Value)(n j:Nat)(u:Value):Obj.mapSeq (·.setIfInBounds j u) {cls:= .type "list",data:= .seq its.toArray n}={cls:= .type "list",data:= .seq (its.set j u).toArray n}:=by
 simp [Obj.mapSeq]
theorem Inv.lst {pins:List (Addr×Obj)}{σ:St}{H:Hp}{s:Shared}{p:Addr}{xs:List V}(I:Inv X pins σ H s)(h:H p=some (.lst xs)):
  ∃(its:List Value) (n:Nat),Vals xs its/\s.heap.get? p=some {cls:= .type "list",data:= .seq its.toArray n}/\xs.length<=sizeLine:=by
 obtain⟨z,its,n,r,e⟩:=I.hok p _ h
 exact⟨its,n,r,e,z⟩
theorem Inv.lstUpd {pins:List (Addr×Obj)}{σ:St}{H:Hp}{s:Shared}{p:Addr}{xs ys:List V}{its its':List Value}{n n':Nat}{f:Obj->Obj}(I:Inv X pins σ H s)(h:H p=some (.lst xs))
  (ho:s.heap.get? p=some {cls:= .type "list",data:= .seq its.toArray n})(hf:f {cls:= .type "list",data:= .seq its.toArray n}={cls:= .type "list",data:= .seq its'.toArray n'})(r:Vals ys its')(hz:ys.length<=sizeLine)(t:Nat):
  Inv X pins σ (upd H p (.lst ys)) {s with heap:=s.heap.update p f,toks:=t}:=by
 have e:(s.heap.update p f).get? p=some {cls:= .type "list",data:= .seq its'.toArray n'}:=by
  rw [Heap.get?_update_self f ho (by rw [hf]<;>rfl),hf]
 refine I.write (x:=p) (e:=p) (by rw [h];trivial) (.inl rfl) (fun b u hb q=>(Heap.get?_update_other _ _ (Ne.symm hb)).trans q) ⟨_,e⟩ ?_
 exact⟨hz,its',n',r,e⟩
def Dp:V->V->V->Hp->(Hp->Prop)->Prop:=fun o i v H Q=>∃ p xs k j,o= .ref p/\i= .int k/\H p=some (.lst xs)/\jL xs.length k=some j/\Q (upd H p (.lst (xs.set j v)))
theorem set_list:xH X Dp:=by
 intro pins s σ H o i v ov iv u Q I ro ri rv h
 obtain⟨p,xs,k,j,rfl,rfl,hp,hj,q⟩:=h
 cases ro
 obtain⟨t,rfl⟩:=ri
 obtain⟨J,n,r,U,hz⟩:=I.lst hp
 obtain⟨h1,h2,h3,h4⟩:=y4 hj
 have hl:=r.length
 have hn:=m6
 have I':Inv X pins σ (upd H p (.lst (xs.set j v))) {s with heap:=s.heap.update p (Obj.mapSeq (·.setIfInBounds j u))}:=
  I.lstUpd hp U (GQ J n j u) (r.set rv j) (by rw [List.length_set];exact hz) s.toks
 by_cases h0:0<=k
 ·have hk:k.toNat=j:=by
   rw [seqIndex_of h0 h4] at h1
   exact Option.some.inj h1
  exact W.ki_setAt U h0 (by omega) (by rw [List.size_toArray,<-hl];exact h4) (by rw [hk];exact⟨_,I',q⟩)
 ·have hk:(k + (J.toArray.size:Int)).toNat=j:=by
   rw [seqIndex_neg (by omega) h3] at h1
   rw [List.size_toArray,<-hl]
   exact Option.some.inj h1
  exact W.ki_setBack U (by omega) (by rw [List.size_toArray,<-hl];exact h3) (by omega) (by rw [hk];exact⟨_,I',q⟩)
theorem A5(lo hi:Option Int)(n:Nat):(sliceBounds lo hi none n).1=((HT.ix n 0 lo:Nat):Int)/\(sliceBounds lo hi none n).2.1=((HT.ix n n hi:Nat):Int)/\(sliceBounds lo hi none n).2.2=1:=by
 refine⟨?_,?_,rfl⟩
 ·cases lo with
  | none=>simp [sliceBounds,HT.ix]
  | some i=>
   simp only [sliceBounds,HT.ix,Option.getD_none,show(1:Int) > 0 by decide,if_true]
   by_cases h:i < 0
   ·simp only [h,if_true]<;>omega
   ·simp only [h,if_false]<;>omega
 ·cases hi with
  | none=>simp [sliceBounds,HT.ix]
  | some i=>
   simp only [sliceBounds,HT.ix,Option.getD_none,show(1:Int) > 0 by decide,if_true]
   by_cases h:i < 0
   ·simp only [h,if_true]<;>omega
   ·simp only [h,if_false]<;>omega
theorem z7(its:List Value)(lo hi:Option Int):slicePick its.toArray lo hi none=((its.drop (HT.ix its.length 0 lo)).take (HT.ix its.length its.length hi - HT.ix its.length 0 lo)).toArray:=by
 obtain⟨h1,h2,I⟩:=A5 lo hi its.toArray.size
 unfold slicePick
 rw [h1,h2,I]
 simp only [sliceRange_one,pick_run,List.size_toArray]<;>rfl
def Ed(K:W.Frag):V->Option Int->Option Int->Hp->VK->Prop:=fun x lo hi H Q=>∃ a xs,x= .ref a/\d4 K H a xs/\∀ p,H p=none->Q (.ref p) (upd H p (.lst (iU xs lo hi)))
theorem kB:uC X (Ed X.K):=by
 intro pins s σ H x v vl vu lo hi sl Q I J U pl pu h
 obtain⟨a,xs,rfl,hx,q⟩:=h
 cases J
 obtain⟨aa,r,ht,hz⟩:=I.list hx
 have hlen:=r.length
 refine⟨"list",_,slot_list_getitem.lookup,ht.isList.typeIs,?_⟩
 refine wpAny_getItem_list_slice ht.isList U pl pu .none (by simp) ?_ (by rw [List.size_toArray]<;>omega)
 rw [z7,<-hlen]
 refine⟨.ref s.heap.objs.size,_,I.laid (t':=s.toks) (o:= .lst (iU xs lo hi)) (fun b ob q=>Heap.get?_push_of_some _ q) (Nat.le_refl _) ?_,rfl,q _ (I.hok.fresh (Nat.le_refl _))⟩
 exact⟨Nat.le_trans (Cf xs lo hi) hz,_,0,(r.drop (HT.ix xs.length 0 lo)).take (HT.ix xs.length xs.length hi - HT.ix xs.length 0 lo),Heap.get?_push_size _ rfl⟩
def kX:V->Bool
 | .non=>true
 | .bl _=>true
 | .int _=>true
 | .str _=>true
 | _=>false
def kP:V->V->Bool
 | .non,.non=>true
 | .bl a,.bl b=>a == b
 | .bl a,.int b=>(if a then 1 else 0) == b
 | .int a,.bl b=>a == (if b then 1 else 0)
 | .int a,.int b=>a == b
 | .str a,.str b=>a == b
 | _,_=>false
theorem Cc{A:Around}{s:Shared}{y x:V}{u v:Value}(ry:RelV y u)(rx:RelV x v)(fy:kX y=true)(fx:kX x=true):SeqAt.EqAt A s u v (kP y x):=by
 cases y with
 | non=>
  cases ry
  cases x with
  | non=>cases rx;exact SeqAt.EqAt.same _
  | bl b=>cases rx;exact SeqAt.EqAt.none_bool b
  | int b=>obtain⟨t,rfl⟩:=rx;exact SeqAt.EqAt.none_int b t
  | str b=>obtain⟨t,rfl⟩:=rx;exact SeqAt.EqAt.none_str b t
  | _=>exact absurd (show false=true from fx) Bool.false_ne_true
 | bl a=>
  cases ry
  cases x with
  | non=>cases rx;exact SeqAt.EqAt.bool_none a
  | bl b=>cases rx;exact SeqAt.EqAt.bool_bool a b
  | int b=>obtain⟨t,rfl⟩:=rx;exact SeqAt.EqAt.bool_int a b t
  | str b=>obtain⟨t,rfl⟩:=rx;exact SeqAt.EqAt.bool_str a b t
  | _=>exact absurd (show false=true from fx) Bool.false_ne_true
 | int a=>
  obtain⟨t',rfl⟩:=ry
  cases x with
  | non=>cases rx;exact SeqAt.EqAt.int_none a t'
  | bl b=>cases rx;exact SeqAt.EqAt.int_bool a t' b
  | int b=>obtain⟨t,rfl⟩:=rx;exact SeqAt.EqAt.int_int a t' b t
  | str b=>obtain⟨t,rfl⟩:=rx;exact SeqAt.EqAt.int_str a t' b t
  | _=>exact absurd (show false=true from fx) Bool.false_ne_true
 | str a=>
  obtain⟨t',rfl⟩:=ry
  cases x with
  | non=>cases rx;exact SeqAt.EqAt.str_none a t'
  | bl b=>cases rx;exact SeqAt.EqAt.str_bool a t' b
  | int b=>obtain⟨t,rfl⟩:=rx;exact SeqAt.EqAt.str_int a t' b t
  | str b=>obtain⟨t,rfl⟩:=rx;exact SeqAt.EqAt.str_str a t' b t
  | _=>exact absurd (show false=true from fx) Bool.false_ne_true
 | _=>exact absurd (show false=true from fy) Bool.false_ne_true
def kj(x:V)(u:Value):Bool:=match u with
 | .none=>kP .non x
 | .bool b=>kP (.bl b) x
 | .int i _=>kP (.int i) x
 | .str z _=>kP (.str z) x
 | _=>false
theorem wR{x y:V}{u:Value}(r:RelV y u)(f:kX y=true):kj x u=kP y x:=by
 cases y with
 | non=>cases r;rfl
 | bl b=>cases r;rfl
 | int i=>obtain⟨t,rfl⟩:=r;rfl
 | str z=>obtain⟨t,rfl⟩:=r;rfl
 | _=>exact absurd (show false=true from f) Bool.false_ne_true
theorem sv{x:V}:∀{xs:List V} {us:List Value},Vals xs us->xs.all kX=true->us.any (kj x)=xs.any fun y=>kP y x
 | _,_,.nil,_=>rfl
 | y::xs,u::us,.cons r t,f=>by
  rw [List.all_cons,Bool.and_eq_true] at f
  rw [List.any_cons,List.any_cons,wR r f.1,sv t f.2]
theorem tS{A:Around}{s:Shared}{x:V}{v:Value}(rx:RelV x v)(fx:kX x=true):∀{xs:List V} {us:List Value},Vals xs us->xs.all kX=true->∀ u∈us,SeqAt.EqAt A s u v (kj x u)
 | _,_,.nil,_=>fun u hu=>by cases hu
 | y::xs,u::us,.cons r t,f=>fun I hu=>by
  rw [List.all_cons,Bool.and_eq_true] at f
  rcases List.mem_cons.mp hu with rfl | hu
  ·rw [wR r f.1];exact Cc r rx f.1 fx
  ·exact tS rx fx t f.2 I hu
def qK(x:V)(xs:List V):Bool:=xs.any fun y=>kP y x
def vh(K:W.Frag)(neg:Bool):R2:=fun x y H Q=>∃ p xs,y= .ref p/\(d4 K H p xs\/eW K H p xs)/\kX x=true/\xs.all kX=true/\Q (.bl (if neg then !qK x xs else qK x xs)) H
theorem CH:gz X (compareOp .In) (vh X.K false):=by
 intro pins s σ H x y v u Q I U ry h
 obtain⟨p,xs,rfl,hq,fx,fs,q⟩:=h
 cases ry
 rcases hq with hq | hq
 ·obtain⟨J,r,pl,hz⟩:=I.list hq
  refine SeqAt.in_listAt (kj x) pl.isList (fun w hw=>tS U fx r fs w (by simpa using hw)) ⟨.bl _,H,I,rfl,?_⟩
  rw [show J.toArray.any (kj x)=J.any (kj x) by simp,sv r fs]
  exact q
 ·obtain⟨J,r,pl,hz⟩:=I.tuple hq
  refine SeqAt.in_tupleAt (kj x) pl (fun w hw=>tS U fx r fs w (by simpa using hw)) ⟨.bl _,H,I,rfl,?_⟩
  rw [show J.toArray.any (kj x)=J.any (kj x) by simp,sv r fs]
  exact q
theorem Fm:gz X (compareOp .NotIn) (fun x y H Q=>∃ i j,x= .str i/\y= .str j/\Q (.bl (!(!(Builtin.Str.occurrences j i 0 j.length 1).isEmpty))) H):=by
 intro pins s σ H x y v u Q I J U h
 obtain⟨i,j,rfl,rfl,q⟩:=h
 obtain⟨t,rfl⟩:=J
 obtain⟨t',rfl⟩:=U
 exact notIn_str ⟨.bl _,H,I,rfl,q⟩
theorem gQ:iB X (.builtin "len") (fun xs H Q=>∃ p ys,xs=[.ref p]/\(d4 X.K H p ys\/eW X.K H p ys)/\Q (.int ys.length) H):=by
 intro pins s σ H xs us Q I r h
 obtain⟨p,ys,rfl,hq,q⟩:=h
 obtain⟨u,rfl,rx⟩:=vals1 r
 cases rx
 have hn:=m6
 rcases hq with hq | hq
 ·obtain⟨J,U,pl,hz⟩:=I.list hq
  have hlen:=U.length
  exact Calls.call_len_list pl.isList (by simp only [List.size_toArray]<;>omega) ⟨.int ys.length,H,I.tok _,⟨s.toks + 1,by rw [List.size_toArray,hlen]⟩,q⟩
 ·obtain⟨J,U,pl,hz⟩:=I.tuple hq
  have hlen:=U.length
  exact len_tuple pl (by simp only [List.size_toArray]<;>omega) ⟨.int ys.length,H,I.tok _,⟨s.toks + 1,by rw [List.size_toArray,hlen]⟩,q⟩
theorem ko:iB X (.builtin "len") (fun xs H Q=>∃ z,xs=[.str z]/\z.length<=sizeLine/\Q (.int z.length) H):=by
 intro pins s σ H xs us Q I r h
 obtain⟨z,rfl,J,q⟩:=h
 obtain⟨u,rfl,t,rfl⟩:=vals1 r
 have hn:=m6
 exact len_str (by omega) ⟨.int z.length,H,I.tok _,⟨_,rfl⟩,q⟩
theorem nq:iB X (.type "list") (fun xs H Q=>∃ p ys,xs=[.ref p]/\(d4 X.K H p ys\/eW X.K H p ys)/\∀ l,H l=none->Q (.ref l) (upd H l (.lst ys))):=by
 intro pins s σ H xs us Q I r h
 obtain⟨p,ys,rfl,hq,q⟩:=h
 obtain⟨u,rfl,rx⟩:=vals1 r
 cases rx
 have fin:∀(J:List Value),Vals ys J->ys.length<=sizeLine->∀(h':Heap) (U:Nat),(∀ b o',s.heap.get? b=some o'->h'.get? b=some o')->
   h'.get? s.heap.objs.size=some {cls:= .type "list",dict:=none,data:= .seq J.toArray U,slots:=#[]}->EP X pins σ Q (.ref s.heap.objs.size) {s with heap:=h'}:=fun J r' hz h' U kp e=>
  ⟨.ref s.heap.objs.size,_,I.laid (t':=s.toks) kp (Nat.le_refl _) (show gk X.prog X.w _ h' _ (.lst ys) from⟨hz,J,U,r',e⟩),rfl,q _ (I.hok.fresh (Nat.le_refl _))⟩
 rcases hq with hq | hq
 ·obtain⟨J,r',pl,hz⟩:=I.list hq
  have hlen:=r'.length
  obtain⟨o,ho,hc,n,hd⟩:=pl.isList
  exact call_list_seq p (.inl rfl) ho hc hd (fun h' U kp e=>fin J r' hz h' U kp e) (by simp only [List.size_toArray]<;>omega)
 ·obtain⟨J,r',pl,hz⟩:=I.tuple hq
  have hlen:=r'.length
  obtain⟨o,ho,hc,n,hd⟩:=pl
  exact call_list_seq p (.inr rfl) ho hc hd (fun h' U kp e=>fin J r' hz h' U kp e) (by simp only [List.size_toArray]<;>omega)
theorem tN:iB X (.type "tuple") (fun xs H Q=>∃ p ys,xs=[.ref p]/\((d4 X.K H p ys/\∀ l,H l=none->Q (.ref l) (upd H l (.tup ys)))\/(eW X.K H p ys/\Q (.ref p) H))):=by
 intro pins s σ H xs us Q I r h
 obtain⟨p,ys,rfl,h⟩:=h
 obtain⟨u,rfl,rx⟩:=vals1 r
 cases rx
 rcases h with ⟨U,q⟩ | ⟨U,q⟩
 ·obtain⟨J,r',pl,hz⟩:=I.list U
  have hlen:=r'.length
  refine call_tuple_list pl.isList (fun h' kp=>?_) (by simp only [List.size_toArray]<;>omega)
  have I1:Inv X pins σ H {s with heap:=h'}:=I.kept (t':=s.toks) kp
  have I2:Inv X pins σ (upd H h'.objs.size (.tup ys)) {s with heap:=h'.push {cls:= .type "tuple",data:= .seq J.toArray}}:=
   I1.laid (t':=s.toks) (fun b o e=>Heap.get?_push_of_some _ e) (Nat.le_refl _) (show gk X.prog X.w _ _ _ (.tup ys) from⟨hz,J,r',IsTup.new _ _⟩)
  exact⟨.ref h'.objs.size,_,I2,rfl,q _ (I1.hok.fresh (Nat.le_refl _))⟩
 ·obtain⟨J,r',pl,hz⟩:=I.tuple U
  exact call_tuple_same pl ⟨.ref p,H,I,rfl,q⟩
def rC(K:W.Frag)(T:String)(x:V)(H:Hp):Prop:=match x with
 | .str _=>T="str"
 | .int _=>T="int"
 | .ref p=>(T="list"/\∃ xs,d4 K H p xs)\/(T="tuple"/\∃ o,K.lookup p=some o/\o.cls= .type "tuple"/\o.dict=none)\/
   (T="dict"/\((∃ kvs,H p=some (.dK kvs))\/∃ kvs,H p=some (.dT kvs)))\/(T="set"/\∃ S n,H p=some (.set S n))
 | _=>False
theorem zf{pins:List (Addr×Obj)}{σ:St}{H:Hp}{s:Shared}{T:String}{x:V}{v:Value}(I:Inv X pins σ H s)(r:RelV x v)(ty:rC X.K T x H):
  s.TypeIs v T/\∀ a,v= .ref a->∃ ob,s.heap.get? a=some ob/\ob.dict=none:=by
 cases x with
 | str z=>
  obtain⟨t,rfl⟩:=r
  cases (show T="str" from ty)
  exact⟨typeIs_str s z t,fun _ e=>nomatch e⟩
 | int i=>
  obtain⟨t,rfl⟩:=r
  cases (show T="int" from ty)
  exact⟨typeIs_int s i t,fun _ e=>nomatch e⟩
 | ref p=>
  cases r
  rcases ty with ⟨rfl,xs,U⟩ | ⟨rfl,o,hk,hc,hd⟩ | ⟨rfl,hk⟩ | ⟨rfl,S,n,hk⟩
  ·obtain⟨aa,_,pl,_⟩:=I.list U
   refine⟨pl.isList.typeIs,fun a e=>?_⟩
   cases e
   obtain⟨o,n,e,c,hd,_⟩:=pl
   exact⟨o,e,hd⟩
  ·refine⟨⟨o,I.kIn p o hk,hc⟩,fun a e=>?_⟩
   cases e
   exact⟨o,I.kIn _ o hk,hd⟩
  ·have z:∃ o,s.heap.get? p=some o/\o.ExactDict:=by
    rcases hk with ⟨kvs,hk⟩ | ⟨kvs,hk⟩
    ·obtain⟨_,_,_,_,o,_,_,e,ex,_⟩:=I.hok p _ hk
     exact⟨o,e,ex⟩
    ·obtain⟨_,_,_,_,o,_,_,e,ex,_⟩:=I.hok p _ hk
     exact⟨o,e,ex⟩
   obtain⟨o,e,ex⟩:=z
   refine⟨⟨o,e,ex.1⟩,fun a J=>?_⟩
   cases J
   exact⟨o,e,ex.2.1⟩
  ·obtain⟨o,_,_,_,e,ex,_⟩:=I.hok p _ hk
   refine⟨⟨o,e,ex.1⟩,fun a J=>?_⟩
   cases J
   exact⟨o,e,ex.2.1⟩
 | _=>exact False.elim ty
def Ew(K:W.Frag)(T:String)(r:V->List V->Hp->VK->Prop)(to:TE):TE:=fun σ H Q=>to σ H fun x H1=>rC K T x H1/\r x [] H1 Q
def qp(K:W.Frag)(T:String)(r:V->List V->Hp->VK->Prop)(to:TE)(t:TA):TE:=fun σ H Q=>to σ H fun x H1=>rC K T x H1/\t σ H1 fun xs H2=>r x xs H2 Q
variable {o e : Expr} {es : List Expr} {to : TE} {t : TA} {name : Str} {apos cpos : Pos} {T id : String} {r : V -> List V -> Hp -> VK -> Prop}
theorem nE(pa:PlainAttrs T)(slot:Slot T name id)(hty:typeOf (.builtin id)=pure (.type "method_descriptor"))(hm:j6 X id r)(ho:PE X o to)
  (hbase:attributeBase o name X.env (eval o X.env)=eval o X.env:=by rfl)(hline:(apos.endLine == cpos.line)=true:=by rfl):PE X (.Call (.Attribute o name apos) [] [] cpos) (Ew X.K T r to):=by
 intro pins s σ H Q I h
 refine wpAny_Call_method0_late hbase hline (eJ (ho pins s σ H _ I h) fun v s1 ⟨x,H1,J,U,ty,q1⟩=>?_)
 obtain⟨h1,h2⟩:=zf J U ty
 exact⟨T,id,pa,slot,hty,h1,h2,Calls.callWith_builtin rfl (PySem.evalArgs_none (hm pins s1 σ H1 x [] v [] Q J U .nil q1))⟩
theorem gj(pa:PlainAttrs T)(slot:Slot T name id)(hty:typeOf (.builtin id)=pure (.type "method_descriptor"))(hm:j6 X id r)(ho:PE X o to)(ha:PA X (e::es) t)
  (hbase:attributeBase o name X.env (eval o X.env)=eval o X.env:=by rfl)
  (hfew:((backTo cpos (starEach (e::es) X.env)).all (fun x=> !x.1) && (backToKw cpos (keywordEach [] X.env)).all (fun x=>x.1.isSome)
   && decide ((e::es).length + ([]:List Keyword).length + (if ([]:List Keyword).isEmpty then 0 else 1) < 30))=true:=by rfl)
  (hline:(apos.endLine == cpos.line)=true:=by rfl)(hs:starEach (e::es) X.env=(false,eval e X.env)::starEach es X.env:=by rfl)(hplain:(backTo cpos (starEach es X.env)).any (·.1)=false:=by rfl):
  PE X (.Call (.Attribute o name apos) (e::es) [] cpos) (qp X.K T r to t):=by
 intro pins s σ H Q I h
 refine wpAny_Call_method_late hbase hfew hline rfl (eJ (ho pins s σ H _ I h) fun v s1 ⟨x,H1,J,U,ty,q1⟩=>?_)
 obtain⟨h1,h2⟩:=zf J U ty
 refine⟨T,id,pa,slot,hty,h1,h2,?_⟩
 have hA:=ha cpos pins s1 σ H1 _ J q1
 rw [hs] at hA ⊢
 refine Calls.callWith_builtin (by show(false || (backTo cpos (starEach es X.env)).any (·.1))=false;rw [hplain]<;>rfl) (Calls.evalArgs_plain ?_)
 exact eJ hA fun us s2 ⟨vs,H2,I2,r2,q2⟩=>hm pins s2 σ H2 x vs v us Q I2 U r2 q2
end
def nO(X:Cx)(id:String)(r:V->List V->Hp->VK->Prop):Prop:=
 ∀(pins:List (Addr×Obj)) (s:Shared) (σ:St) (H:Hp) (x:V) (xs:List V) (v:Value) (us:List Value) (Q:VK),Inv X pins σ H s->RelV x v->Vals xs us->r x xs H Q->
  wpAny (model X.prog X.w) X.A (call (.builtin id) (v::us)) (EP X pins σ Q) X.xe s
theorem Vals.one:∀{x:V} {us:List Value},Vals [x] us->∃ u,us=[u]/\RelV x u
 | _,_,.cons r .nil=>⟨_,rfl,r⟩
theorem Vals.two:∀{x y:V} {us:List Value},Vals [x,y] us->∃ u v,us=[u,v]/\RelV x u/\RelV y v
 | _,_,_,.cons r (.cons q .nil)=>⟨_,_,rfl,r,q⟩
theorem Vals.zero:∀{us:List Value},Vals [] us->us=[]
 | _,.nil=>rfl
theorem Vals.reverse {xs:List V}{us:List Value}(h:Vals xs us):Vals xs.reverse us.reverse:=by
 induction h with
 | nil=>exact .nil
 | cons r t I=>rw [List.reverse_cons,List.reverse_cons];exact Vals.append I (.cons r .nil)
theorem Vals.rep {xs:List V}{us:List Value}(h:Vals xs us):∀ k:Nat,Vals (List.replicate k xs).flatten (List.replicate k us).flatten
 | 0=> .nil
 | k + 1=>by
  rw [List.replicate_succ,List.replicate_succ,List.flatten_cons,List.flatten_cons]
  exact Vals.append h (Vals.rep h k)
theorem foldl_rep(its:List Value):∀(k:Nat) (acc:List Value),
  List.foldl (fun x1 x2=>x1++x2) acc.toArray (List.replicate k its.toArray)=(acc++(List.replicate k its).flatten).toArray
 | 0,acc=>by simp
 | k + 1,acc=>by
  have e:acc.toArray++its.toArray=(acc++its).toArray:=by simp
  have I:(acc++its)++(List.replicate k its).flatten=acc++(List.replicate (k + 1) its).flatten:=by
   rw [List.replicate_succ,List.flatten_cons,List.append_assoc]
  rw [<-I,<-foldl_rep its k (acc++its),<-e,List.replicate_succ,List.foldl_cons]
section
variable {X : Cx} {pins : List (Addr × Obj)} {σ : St} {H : Hp} {s : Shared} {l b : Addr} {xs ys zs : List V}
theorem Inv.lset {its its':List Value}{n:Nat}{f:Array Value->Array Value}{t':Nat}(I:Inv X pins σ H s)(hH:H l=some (.lst xs))
  (e:s.heap.get? l=some {cls:= .type "list",data:= .seq its.toArray n})(hf:f its.toArray=its'.toArray)(hv:Vals ys its')(hz:ys.length<=sizeLine):
  Inv X pins σ (upd H l (.lst ys)) {s with heap:=s.heap.update l (Obj.mapSeq f),toks:=t'}:=by
 have q:=PySem.IsL.update e f
 rw [hf] at q
 refine I.write (x:=l) (e:=l) (by rw [hH];exact trivial) (.inl rfl) (fun U u hb J=>(Heap.get?_update_other s.heap (Obj.mapSeq f) (Ne.symm hb)).trans J) ⟨_,q⟩ ?_
 exact⟨hz,its',_,hv,q⟩
theorem Inv.lnew {its:List Value}{t':Nat}(I:Inv X pins σ H s)(hv:Vals ys its)(hz:ys.length<=sizeLine):
  Inv X pins σ (upd H s.heap.objs.size (.lst ys)) {s with heap:=s.heap.push {cls:= .type "list",data:= .seq its.toArray},toks:=t'}:=
 I.laid (fun _ _ q=>Heap.get?_push_of_some _ q) (Nat.le_refl _) ⟨hz,its,0,hv,Heap.get?_push_size _ rfl⟩
theorem Inv.fresh (I:Inv X pins σ H s):H s.heap.objs.size=none:=I.hok.fresh (Nat.le_refl _)
theorem Inv.lstM (I:Inv X pins σ H s)(hH:H l=some (.lst xs)):xs.length<=sizeLine/\∃(its:List Value) (n:Nat),Vals xs its/\xs.length=its.length/\s.heap.get? l=some {cls:= .type "list",data:= .seq its.toArray n}:=by
 obtain⟨z,its,n,r,e⟩:=I.hok l _ hH
 exact⟨z,its,n,r,r.length,e⟩
theorem xY{n:Nat}(h:n<=sizeLine):Builtin.List.listTooLong n=false:=by
 unfold Builtin.List.listTooLong
 exact decide_eq_false (by omega)
end
section
variable {X : Cx}
def Ea:V->List V->Hp->VK->Prop:=fun x vs H Q=>∃ l xs y,x= .ref l/\vs=[y]/\H l=some (.lst xs)/\xs.length < sizeLine/\Q .non (upd H l (.lst (xs++[y])))
theorem gT:nO X "list.append" Ea:=by
 intro pins s σ H x vs v us Q I rx rv h
 obtain⟨l,xs,y,rfl,rfl,U,hz,q⟩:=h
 cases rx
 obtain⟨u,rfl,ru⟩:=rv.one
 obtain⟨z,J,n,r,hl,e⟩:=I.lstM U
 refine call_meets F.slot_list_append ⟨_,e,rfl⟩ F.entry_list_append (F.args_list_append_2 _ _) (PySem.list_append l J.toArray n u (by rw [List.size_toArray];omega)) ⟨e,?_⟩
 refine⟨.non,_,I.lset (its':=J++[u]) U e (by simp) (r.append (.cons ru .nil)) ?_,rfl,q⟩
 rw [List.length_append,List.length_singleton]
 omega
def GD:V->List V->Hp->VK->Prop:=fun x vs H Q=>∃ l b xs zs,x= .ref l/\vs=[.ref b]/\H l=some (.lst xs)/\H b=some (.lst zs)/\xs.length + zs.length<=sizeLine/\Q .non (upd H l (.lst (xs++zs)))
theorem sZ:nO X "list.extend" GD:=by
 intro pins s σ H x vs v us Q I rx rv h
 obtain⟨l,b,xs,zs,rfl,rfl,hH,hB,hz,q⟩:=h
 cases rx
 obtain⟨u,rfl,ru⟩:=rv.one
 cases ru
 obtain⟨z,U,n,r,hl,e⟩:=I.lstM hH
 obtain⟨z2,J,n2,r2,ab,e2⟩:=I.lstM hB
 have hsz:U.toArray.size + J.toArray.size<=sizeLine:=by rw [List.size_toArray,List.size_toArray];omega
 have aa:¬ (!U.toArray.isEmpty && Builtin.List.listTooLong (U.toArray.size + J.toArray.size))=true:=by
  rw [xY hsz,Bool.and_false]
  exact Bool.false_ne_true
 refine call_meets F.slot_list_extend ⟨_,e,rfl⟩ F.entry_list_extend (F.args_list_extend_2 _ _)
  (AutoSeq1.list_extend_list_list_0 l U.toArray n b J.toArray n2 aa (by rw [List.size_toArray];omega) (by omega)) ⟨e,e2,?_⟩
 refine⟨.non,_,I.lset (its':=U++J) hH e (by simp) (r.append r2) ?_,rfl,q⟩
 rw [List.length_append]
 omega
def C6:V->List V->Hp->VK->Prop:=fun x vs H Q=>∃ l xs,x= .ref l/\vs=[]/\H l=some (.lst xs)/\Q .non (upd H l (.lst xs.reverse))
theorem Ci:nO X "list.reverse" C6:=by
 intro pins s σ H x vs v us Q I rx rv h
 obtain⟨l,xs,rfl,rfl,hH,q⟩:=h
 cases rx
 have U:=rv.zero
 subst U
 obtain⟨z,J,n,r,hl,e⟩:=I.lstM hH
 refine call_meets F.slot_list_reverse ⟨_,e,rfl⟩ F.entry_list_reverse (F.args_list_reverse_1 _) (AutoSeq1.list_reverse_list_0 l J.toArray n (by rw [List.size_toArray];omega)) ⟨e,?_⟩
 refine⟨.non,_,I.lset (its':=J.reverse) hH e (by simp) r.reverse ?_,rfl,q⟩
 rw [List.length_reverse]
 omega
def Bo:V->List V->Hp->VK->Prop:=fun x vs H Q=>∃ l xs,x= .ref l/\vs=[]/\H l=some (.lst xs)/\Q .non (upd H l (.lst []))
theorem BQ:nO X "list.clear" Bo:=by
 intro pins s σ H x vs v us Q I rx rv h
 obtain⟨l,xs,rfl,rfl,hH,q⟩:=h
 cases rx
 have J:=rv.zero
 subst J
 obtain⟨z,U,n,r,hl,e⟩:=I.lstM hH
 refine call_meets F.slot_list_clear ⟨_,e,rfl⟩ F.entry_list_clear (F.args_list_clear_1 _) (AutoSeq1.list_clear_list_0 l U.toArray n (by rw [List.size_toArray];omega)) ⟨e,?_⟩
 exact⟨.non,_,I.lset (its':=[]) (ys:=[]) hH e rfl .nil (Nat.zero_le _),rfl,q⟩
def x6:R2:=fun x y H Q=>∃ l b xs zs,x= .ref l/\y= .ref b/\H l=some (.lst xs)/\H b=some (.lst zs)/\xs.length + zs.length<=sizeLine/\∀ p,H p=none->Q (.ref p) (upd H p (.lst (xs++zs)))
theorem jK:gz X (binaryOp .Add) x6:=by
 intro pins s σ H x y v u Q I rx ry h
 obtain⟨l,b,xs,zs,rfl,rfl,hH,hB,hz,q⟩:=h
 cases rx
 cases ry
 obtain⟨z,U,n,r,hl,e⟩:=I.lstM hH
 obtain⟨z2,J,n2,r2,aa,e2⟩:=I.lstM hB
 refine PySem.P.add_list e e2 ?_ (by rw [List.size_toArray,List.size_toArray];omega)
 have ea:U.toArray++J.toArray=(U++J).toArray:=by simp
 rw [ea]
 exact⟨.ref _,_,I.lnew (t':=s.toks) (r.append r2) (by rw [List.length_append];omega),rfl,q _ I.fresh⟩
def xK:R2:=fun x y H Q=>∃ l k xs,x= .ref l/\y= .int k/\H l=some (.lst xs)/\ -(2 ^ 63)<=k/\k < 2 ^ 63/\xs.length * k.toNat<=sizeLine/\
 ∀ p,H p=none->Q (.ref p) (upd H p (.lst (List.replicate k.toNat xs).flatten))
theorem len_rep{α:Type}(xs:List α)(k:Nat):(List.replicate k xs).flatten.length=k * xs.length:=by
 induction k with
 | zero=>simp
 | succ k I=>rw [List.replicate_succ,List.flatten_cons,List.length_append,I,Nat.succ_mul,Nat.add_comm]
theorem zt:gz X (binaryOp .Mult) xK:=by
 intro pins s σ H x y v u Q I rx ry h
 obtain⟨l,k,xs,rfl,rfl,hH,h1,h2,hz,q⟩:=h
 cases rx
 obtain⟨t,rfl⟩:=ry
 obtain⟨z,J,n,r,hl,e⟩:=I.lstM hH
 have hlen:J.toArray.size * k.toNat<=sizeLine:=by rw [List.size_toArray,<-hl];exact hz
 have ab:¬ J.toArray.size * k.toNat > (2 ^ 63 - 1) / 8:=by
  have:(sizeLine:Nat)<=(2 ^ 63 - 1) / 8:=by decide
  omega
 have ae:¬ (!Builtin.List.listFitsIndex k)=true:=by
  rw [fitsIndex_both h1 h2]
  exact Bool.false_ne_true
 have aa:¬ Builtin.List.listTooLong (J.toArray.size * k.toNat)=true:=by
  rw [xY hlen]
  exact Bool.false_ne_true
 have af:List.foldl (fun x1 x2=>x1++x2) #[] (List.replicate (if J.toArray.isEmpty=true then 0 else k.toNat) J.toArray)=(List.replicate k.toNat J).flatten.toArray:=by
  have f0:∀ m:Nat,List.foldl (fun x1 x2=>x1++x2) #[] (List.replicate m J.toArray)=(List.replicate m J).flatten.toArray:=fun m=>by
   have:=foldl_rep J m []
   rw [List.nil_append] at this
   exact this
  rw [f0]
  cases J with
  | nil=>simp
  | cons a r'=>rw [if_neg (by simp)]
 refine wpAny_binaryOp_repeat_ref (T:="list") (U:="int") (by decide) ⟨_,e,rfl⟩ (fun s'=>typeIs_int s' k t) noFill_list_mul F.fills_int_mul F.slot_int_rmul repeat_list F.slot_int_index.lookup
  (call_meets F.slot_int_rmul (typeIs_int s k t) F.entry_int_rmul (F.args_int_rmul_2 _ _) (int___rmul___int_list k t l J.toArray n)
   ⟨e,rfl,⟨_,e,rfl⟩,call_meets F.slot_list_mul ⟨_,e,rfl⟩ F.entry_list_mul (F.args_list_mul_2 _ _) (AutoListH.list___mul___list_int_3 l J.toArray n k t ae ab aa) ⟨e,?_⟩⟩)
 rw [af]
 exact⟨.ref _,_,I.lnew (t':=s.toks) (r.rep k.toNat) (by rw [len_rep,Nat.mul_comm];exact hz),rfl,q _ I.fresh⟩
end
section
variable {prog : Program} {w : World} {A : Around} {E : Value -> Shared -> Prop} {s : Shared}
end
section
variable {X : Cx}
end
end L2
namespace Att
open PySem PySem.W PySem.Calls PyProof.Rows
theorem BX{P:Params}{h:Heap}:∀(ns:List Int) (vs:List Value),WellAll P h vs (ns.map WData.int)->IntsAre vs ns:=by
 intro ns
 induction ns with
 | nil=>
  intro vs w
  rw [List.map_nil] at w
  cases w
  exact .nil
 | cons n ns I=>
  intro vs w
  rw [List.map_cons] at w
  cases w with
  | cons a b=>
   cases a
   exact .cons _ _ (I _ b)
theorem E7{l:OpenLaw}{n:Nat}(hn:l.most=some n){P:Params}{h:Heap}{args:List WData}{vals:List Value}
  (hpre:l.row.toRowW.claim.pre args=true)(hwl:WellAll P h vals args):
  ∃ a vs ns,vals=[Value.ref a]/\args=[WData.list (ns.map WData.int)]/\h.get? a=some {cls:= .type "list",data:= .seq vs.toArray}/\IntsAre vs ns/\ns.length<=n:=by
 have aa:WShape.hasAll [] args [.list .int]=true:=(pre_splitW hpre).1
 have hc:l.pre.holds [] {args:=args}=true:=(pre_splitW hpre).2
 obtain⟨d,r,rfl,h1,h2⟩:=hasAllW_cons aa
 obtain rfl:=hasAllW_nil h2
 obtain⟨xs,rfl,h3⟩:=hasW_list h1
 obtain⟨ns,rfl⟩:=items_int h3
 have hlen:ns.length<=n:=by
  unfold OpenLaw.pre at hc
  have J:(WTm.not (.lt (.lit (.int (n:Int))) (.len (.arg 0)))).holds [] {args:=[.list (ns.map .int)]}=true:=by
   have J:=(holds_andW hc).1
   rw [hn] at J
   exact J
  have U:=condW_of J (w_not (w_lt w_lit (w_len_list (w_arg rfl))))
  rw [List.length_map] at U
  refine Nat.le_of_not_lt fun q=>?_
  have q':(n:Int) < ((ns.length:Nat):Int):=by omega
  first
   | (rw [decide_eq_true q'] at U;exact absurd U (by decide))
   | (simp at U;omega)
 cases hwl with
 | cons w1 w2=>
  cases w2
  cases w1 with
  | list ho I=>exact⟨_,_,ns,rfl,rfl,ho,BX ns _ I,hlen⟩
theorem A4(l:OpenLaw)(args:List WData):l.row.toRowW.claim.post args (.bool true) args=true:=
 postW_of (r:=l.row.toRowW) (X:=(true == true))
  (show WShape.has [] (.bool true) .bool=true by first | rfl | decide | simp [WShape.has,WShape.arms,WShape.armsAll])
  (show(WTm.eq .res (.lit (.bool true))).value [] {args:=args,res:=some (.bool true),after:=args}=some (.bool (true == true)) from w_eq_bool (w_res rfl) w_lit) rfl
section
variable {prog : Program} {w : World} {A : Around} {E : Value -> Shared -> Prop} {s : Shared} {K : Frag}
end
end Att
namespace L2
open PySem PySem.Spec PyProof.Rows
theorem wq:∀{vs:List Value} {ns:List Int},IntsAre vs ns->Vals (ns.map V.int) vs
 | _,_,.nil=> .nil
 | _,_,.cons n t h=> .cons ⟨t,rfl⟩ (wq h)
def y2(H:Hp):Prop:=∀ b,H b=none\/∃ o xs,H b=some (.frz o (.lst xs))
theorem By{P:Program}{w:World}{K:W.Frag}{mg mb:Str->Option Value}{CX:iY}{k:Nat}{fa a:Addr}{fd:FuncData}{x:Str}{sp:Sp}{s₁:Shared}{vs:List Value}{ns:List Int}
  (KX:K.In s₁.heap)(hns:s₁.heap.Ns mainGlobals mg)(hb:s₁.heap.Ns builtinsNs mb)(hbb:∀ x:Str,x≠"__name__"->mb x=bootBuiltins x)(hlim:s₁.heap.NoLimit)(hg:s₁.gens=#[])
  (ha:s₁.heap.get? a=some {cls:= .type "list",data:= .seq vs.toArray})(hi:IntsAre vs ns)(hl:ns.length<=sizeLine)(hr:gn k callerA)
  (F:∀ base:Heap,K.In base->base.Ns mainGlobals mg->d8 P w K mg base CX k fa fd [x] sp)(hbind:∀(s:Shared) (u:Value),BindsTo s fd ⟨[u],[]⟩ [(x,u)])
  (hsp:∀ H:Hp,y2 H->d4 K H a (ns.map V.int)->sp [.ref a] H (fun v _=>v= .bl true) fun _ _ _=>False)
  (hCX:∀ H e s',CX [] H s₁ (fun _ _ _=>False) e s'->False):
  codeAny (model P w) callerA (.call (.ref fa) ⟨[.ref a],[]⟩) (fun r s'=>r= .ok (.ret (.bool true))/\OldK s₁.heap s'.heap/\s'.os=s₁.os/\AllBare s'.gens) s₁:=by
 have rv:=wq hi
 have U:=hi.length
 have core:∀ H:Hp,y2 H->d4 K H a (ns.map V.int)->gi P w H s₁.heap->(∀ b,H b≠none->b=a)->(H a≠none->K.lookup a=none)->
   codeAny (model P w) callerA (.call (.ref fa) ⟨[.ref a],[]⟩) (fun r s'=>r= .ok (.ret (.bool true))/\OldK s₁.heap s'.heap/\s'.os=s₁.os/\AllBare s'.gens) s₁:=by
  intro H hO hS hok hA hK
  have I:∀{b:Addr} {o:Obj},s₁.heap.get? b=some o->H b=none->(j5 s₁.heap H).get? b=some o:=fun e n=>GB e n
  have ae:∀{b:Addr} {o:Obj} {es:Array DictEntry} {ep:Nat},s₁.heap.get? b=some o->o.data= .dict es ep->H b=none:=fun{b o es ep} e d=>by
   cases q:H b with
   | none=>rfl
   | some u=>
    have e':b=a:=hA b (by rw [q];simp)
    subst e'
    rw [ha] at e;cases e
    have d':Data.seq vs.toArray _=Data.dict es ep:=d
    cases d'
  have J:∀{b:Addr} {m:Str->Option Value},s₁.heap.Ns b m->(j5 s₁.heap H).Ns b m:=fun{b m} ⟨o,es,ep,e,d,r⟩=>⟨o,es,ep,I e (ae e d),d,r⟩
  have aa:K.In (j5 s₁.heap H):=fun b o e=>I (KX b o e) (by
   cases q:H b with
   | none=>rfl
   | some u=>
    have e':b=a:=hA b (by rw [q];simp)
    subst e'
    rw [hK (by rw [q];simp)] at e;cases e)
  have hM:Mod K mg (j5 s₁.heap H):=⟨aa,J hns,⟨mb,J hb,hbb⟩,let ⟨mc,h1,h2⟩:=hlim;⟨mc,J h1,h2⟩⟩
  have e0:mq P w K mg (j5 s₁.heap H) callerA [] s₁ H:=⟨rfl,hM,fun b o e=>DD e,Nat.le_of_eq (HE _ _),trivial,fun b hb=>absurd (show b∈([]:List Addr) from hb) (by simp),hok,.of_eq hg⟩
  refine codeAny_mono ((F _ aa (J hns)).run callerA [] s₁ H ⟨[.ref a],[]⟩ [.ref a] [.ref a] _ _ hr e0 (hbind s₁ (.ref a)) (.cons rfl .nil) (hsp H hO hS)) fun r s' h=>?_
  cases r with
  | error e=>exact(hCX H e s' h).elim
  | ok fl=>
   cases fl with
   | next=>exact False.elim h
   | brk=>exact False.elim h
   | cont=>exact False.elim h
   | ret u=>
    obtain⟨v,H',os,bare,un,ab,r',q⟩:=h
    have q':v= .bl true:=q
    subst q'
    obtain rfl:u=Value.bool true:=r'
    refine⟨rfl,OldK.of_keep fun b o e=>?_,os,bare⟩
    cases q:H b with
    | none=>exact un.keep b o e q (by intro z;exact absurd (show b∈([]:List Addr) from z) (by simp)) (by simp)
    | some u=>
     rcases hO b with z | ⟨ob,xs,z⟩
     ·rw [q] at z;cases z
     ·have z2:=un.frzs b ob _ z
      obtain⟨e1,_⟩:=hok b _ z
      obtain⟨e2,_⟩:=ab b _ z2
      rw [e] at e1;cases e1
      exact e2
 cases hk:K.lookup a with
 | some o=>
  have e:=KX a o hk
  rw [ha] at e
  cases e
  refine core (fun _=>none) (fun _=> .inl rfl) (.inr ⟨_,vs.toArray,_,hk,rfl,rfl,rfl,by rw [List.size_toArray,U];exact hl,by simpa using rv⟩) (fun b u z=>by have z':(none:Option HO)=some u:=z;cases z') (fun b z=>absurd rfl z) fun z=>absurd rfl z
 | none=>
  refine core (fun b=>if b=a then some (.frz {cls:= .type "list",data:= .seq vs.toArray} (.lst (ns.map V.int))) else none) (fun b=>?_) (.inl (.inr ⟨{cls:= .type "list",data:= .seq vs.toArray},if_pos rfl⟩)) (fun b u z=>?_) (fun b z=>?_) fun _=>hk
  ·by_cases hb:b=a
   ·exact .inr ⟨_,_,if_pos hb⟩
   ·exact .inl (if_neg hb)
  ·by_cases hb:b=a
   ·have z':=(if_pos hb).symm.trans z
    cases z'
    subst hb
    exact⟨ha,by rw [List.length_map];exact hl,vs,_,rv,ha⟩
   ·have z':=(if_neg hb).symm.trans z
    cases z'
  ·by_cases hb:b=a
   ·exact hb
   ·exact absurd (if_neg hb) z
abbrev eF{K:W.Frag}{h:Heap}(_:K.In h):W.Frag:=K
def inClass(s:Stmt)(j:Nat):Stmt:=match s with
 | .ClassDef _ _ _ body _ _ _ _ _ _ _=>body.getD j (.Pass ⟨0,0,0,0⟩)
 | _=> .Pass ⟨0,0,0,0⟩
def gF(s:Stmt):Arguments:=match s with
 | .FunctionDef _ a _ _ _ _ _ _ _ _=>a
 | _=>{posonlyargs:=[],args:=[],vararg:=none,kwonlyargs:=[],kw_defaults:=[],kwarg:=none,defaults:=[]}
def gm(s:Stmt):List Stmt:=match s with
 | .FunctionDef _ _ b _ _ _ _ _ _ _=>b
 | _=>[]
def er(s:Stmt):Scope:=match s with
 | .FunctionDef _ _ _ _ _ _ sc _ _ _=>sc
 | _=>{kind:= .function,names:=[],isGenerator:=false,isCoroutine:=false}
abbrev eu:iY:=fun _ _ _ _ _ _=>False
abbrev E0:XK:=fun _ _ _=>False
theorem eM{X:Cx}:Passes eu X E0:=fun _ _ _ _ _ _ _ h=>h.elim
structure fD (K : W.Frag) (x qual : Str) (st : Stmt) (f : Addr) (fd : FuncData) : Prop where
 ex : ∃ (oc : Value) (od : Option Addr) (kV doc pm : Value) (an : Option Addr) (cdv ct : Value) (osl : Array (Option Value)),
  fd = W.fnOf x qual (gF st) (gm st) (er st) .none kV doc pm an cdv ct /\ K.lookup f = some ⟨oc, od, .func fd, osl⟩ /\ W.codeIn K cdv qual = true
 kp : W.keepIn K (.ref f) = true
section
variable {P : Program} {w : World} {K : PySem.W.Frag} {mg : Str -> Option Value} {base : Heap}
theorem fD.ok {x qual:Str}{st:Stmt}{f:Addr}{fd:FuncData}{N ps:List Str}{k:Nat}{sp:Sp}(F:fD K x qual st f fd)(S:eX N ps (er st))(len:∀ vs H Q E,sp vs H Q E->vs.length=ps.length)
  (hbody:∀(cdv:Value) (A:Around) (outer:List Env) (s:Shared) (H:Hp) (vs:List V) (Q:VK) (E:XK),gn k (A.deeper (envOfC qual (er st) s.heap.objs.size f cdv))->sp vs H Q E->
   ∃ t,eK (gO eu P w K mg base N qual (er st) f cdv A outer s H E).nox (gm st) t/\t {nx:=fun _ H'=>Q .non H',rt:=Q} (start N vs) H):d8 P w K mg base eu (k + 1) f fd ps sp:=by
 obtain⟨oc,od,kV,doc,pm,an,cdv,ct,U,rfl,lk,I⟩:=F.ex
 refine qg lk I S len fun A outer s H vs Q E hr J=>?_
 obtain⟨t,h,q⟩:=hbody cdv A outer s H vs Q E hr J
 exact⟨t,h.nox,q⟩
theorem fD.binds {x qual:Str}{st:Stmt}{f:Addr}{fd:FuncData}{ps:List Str}(F:fD K x qual st f fd)
  (h:∀(kV doc pm:Value) (an:Option Addr) (cdv ct:Value) (us:List Value),us.length=ps.length->bindArgs (W.fnOf x qual (gF st) (gm st) (er st) .none kV doc pm an cdv ct) ⟨us,[]⟩=pure (ps.zip us)):Binds K fd ps []:=by
 obtain⟨U,od,kV,doc,pm,an,cdv,ct,I,rfl,lk,J⟩:=F.ex
 exact .all (h kV doc pm an cdv ct)
theorem iM{x qual:Str}{st:Stmt}{f:Addr}{oc:Value}{od an:Option Addr}{osl:Array (Option Value)}{kV doc pm cdv ct:Value}(l:K.lookup f=some ⟨oc,od,.func (W.fnOf x qual (gF st) (gm st) (er st) .none kV doc pm an cdv ct),osl⟩)
  (c:W.codeIn K cdv qual=true)(k:W.keepIn K (.ref f)=true):fD K x qual st f (W.fnOf x qual (gF st) (gm st) (er st) .none kV doc pm an cdv ct):=⟨⟨oc,od,kV,doc,pm,an,cdv,ct,osl,rfl,l,c⟩,k⟩
end
theorem jZ{A:Around}{k:Nat}(hr:gn k A):A.units + 1 < cLine:=Nat.lt_of_le_of_lt (Nat.add_le_add_left (by decide:1<=64) _) hr.units
section
variable {X : Cx}
theorem pv(i:Nat){x:Str}{pos:Pos}(hN:X.N[i]? =some x:=by rfl)(hv:qq X.env.scope x:=by first | exact Or.inl rfl | exact Or.inr (Or.inl rfl) | exact Or.inr (Or.inr rfl))(hd:(x == ("__debug__":Str))=false:=by decide)
  (hcd:(x == ("__classdict__":Str))=false:=by decide):PE X (.Name x pos) (ie i):=HR hN hv hd hcd
end
theorem eD{A B:Prop}(h:B):if false=true then A else B:=by
 rw [if_neg Bool.false_ne_true]
 exact h
theorem eN{A B:Prop}(h:A):if true=true then A else B:=by
 rw [if_pos rfl]
 exact h
theorem rR{c A B:Prop} [Decidable c] (h1:c->A)(h2:¬ c->B):if c then A else B:=by
 by_cases h:c
 ·rw [if_pos h]
  exact h1 h
 ·rw [if_neg h]
  exact h2 h
def d3(H H':Hp):Prop:=∀ b o,H b=some o->H' b=some o
theorem d3.refl (H:Hp):d3 H H:=fun _ _ h=>h
theorem d3.trans {H H1 H2:Hp}(a:d3 H H1)(b:d3 H1 H2):d3 H H2:=fun c o h=>b c o (a c o h)
theorem d3.free {H H':Hp}(e:d3 H H'){l:Addr}(h:H' l=Option.none):H l=Option.none:=by
 cases q:H l with
 | none=>rfl
 | some o=>
  rw [e l o q] at h
  cases h
theorem d3.seq {K:W.Frag}{H H':Hp}{a:Addr}{xs:List V}(e:d3 H H')(h:d4 K H a xs):d4 K H' a xs:=by
 rcases h with (h | ⟨o,h⟩) | h
 ·exact .inl (.inl (e _ _ h))
 ·exact .inl (.inr ⟨o,e _ _ h⟩)
 ·exact .inr h
section
variable {κ : Type} [DecidableEq κ]
def fH(kvs:List (κ×V))(k:κ):Option V:=(kvs.find? fun I=>decide (I.1=k)).map (·.2)
def putK(kvs:List (κ×V))(k:κ)(v:V):List (κ×V):=
 if (kvs.any fun I=>decide (I.1=k))=true then kvs.map (fun I=>if I.1=k then (I.1,v) else I) else kvs++[(k,v)]
theorem jk{p:κ×V}{r:List (κ×V)}{k:κ}(e:p.1=k):fH (p::r) k=some p.2:=by simp [fH,List.find?_cons,e]
theorem jb{p:κ×V}{r:List (κ×V)}{k:κ}(e:¬ p.1=k):fH (p::r) k=fH r k:=by simp [fH,List.find?_cons,e]
theorem mB(k:κ):∀ kvs:List (κ×V),(kvs.any fun kv=>decide (kv.1=k))=(fH kvs k).isSome
 | []=>rfl
 | p::r=>by
  rw [List.any_cons]
  by_cases e:p.1=k
  ·simp only [jk e,decide_eq_true e,Bool.true_or,Option.isSome_some]
  ·rw [jb e,decide_eq_false e,Bool.false_or];exact mB k r
theorem w5(k j:κ)(y:V):∀ kvs:List (κ×V),fH (kvs.map fun kv=>if kv.1=k then (kv.1,y) else kv) j=(fH kvs j).map fun x=>if j=k then y else x
 | []=>rfl
 | p::r=>by
  have I:=w5 k j y r
  rw [List.map_cons]
  by_cases h:p.1=k
  ·rw [if_pos h]
   by_cases e:p.1=j
   ·rw [jk (p:=(p.1,y)) e,jk e,Option.map_some,if_pos (e.symm.trans h)]
   ·rw [jb (p:=(p.1,y)) e,jb e,I]
  ·rw [if_neg h]
   by_cases e:p.1=j
   ·rw [jk (p:=p) e,jk e,Option.map_some,if_neg (fun z=>h (e.trans z))]
   ·rw [jb (p:=p) e,jb e,I]
theorem yJ(k j:κ)(y:V):∀ kvs:List (κ×V),fH kvs k=none->fH (kvs++[(k,y)]) j=if j=k then some y else fH kvs j
 | [],_=>by
  by_cases e:k=j
  ·rw [if_pos e.symm];exact jk (p:=(k,y)) e
  ·rw [if_neg (fun z=>e z.symm)];exact jb (p:=(k,y)) e
 | p::r,hn=>by
  rw [List.cons_append]
  have hk:¬ p.1=k:=fun z=>by rw [jk z] at hn;cases hn
  rw [jb hk] at hn
  have I:=yJ k j y r hn
  by_cases e:p.1=j
  ·rw [jk e,jk e,if_neg (fun z=>hk (e.trans z))]
  ·rw [jb e,jb e,I]
theorem yU(kvs:List (κ×V))(k j:κ)(y:V):fH (putK kvs k y) j=if j=k then some y else fH kvs j:=by
 unfold putK
 by_cases a:(kvs.any fun I=>decide (I.1=k))=true
 ·rw [if_pos a,w5]
  rw [mB] at a
  by_cases e:j=k
  ·obtain⟨x,J⟩:=Option.isSome_iff_exists.mp a
   rw [if_pos e,e,J,Option.map_some,if_pos rfl]
  ·rw [if_neg e]
   cases fH kvs j with
   | none=>rfl
   | some x=>rw [Option.map_some,if_neg e]
 ·rw [if_neg a]
  refine yJ k j y kvs ?_
  rw [mB] at a
  cases q:fH kvs k with
  | none=>rfl
  | some x=>rw [q] at a;exact(a rfl).elim
theorem ph(kvs:List (κ×V))(k:κ)(v:V):(putK kvs k v).length<=kvs.length + 1:=by
 unfold putK
 split
 ·rw [List.length_map];omega
 ·rw [List.length_append,List.length_cons,List.length_nil];omega
theorem xO{kvs:List (κ×V)}{k:κ}(v:V)(h:fH kvs k=none):putK kvs k v=kvs++[(k,v)]:=by
 unfold putK
 rw [mB,h]
 exact if_neg (by decide)
theorem il.isSome_eq {o:Option V}{u:Option Value}(r:il o u):o.isSome=u.isSome:=by
 cases o with
 | none=>cases u with
  | none=>rfl
  | some _=>exact(show False from r).elim
 | some _=>cases u with
  | none=>exact(show False from r).elim
  | some _=>rfl
theorem il.getD {o:Option V}{u:Option Value}{d:V}{d':Value}(r:il o u)(rd:RelV d d'):RelV (o.getD d) (u.getD d'):=by
 cases o with
 | none=>cases u with
  | none=>exact rd
  | some _=>exact(show False from r).elim
 | some _=>cases u with
  | none=>exact(show False from r).elim
  | some _=>exact r
theorem KV.val {kvs:List (κ×V)}{vs:List (κ×Value)}(r:KV kvs vs)(k:κ):il (fH kvs k) (valueAt vs k):=by
 unfold KV at r
 induction r with
 | nil=>exact True.intro
 | @cons p q ps I h t U=>
  obtain⟨h1,h2⟩:=h
  by_cases e:p.1=k
  ·have J:q.1=k:=h1.symm.trans e
   have b:valueAt (q::I) k=some q.2:=by simp [valueAt,List.find?_cons,J]
   rw [jk e,b];exact h2
  ·have J:¬ q.1=k:=fun z=>e (h1.trans z)
   have b:valueAt (q::I) k=valueAt I k:=by simp [valueAt,List.find?_cons,J]
   rw [jb e,b];exact U
theorem KV.any {kvs:List (κ×V)}{vs:List (κ×Value)}(r:KV kvs vs)(k:κ):(kvs.any fun kv=>decide (kv.1=k))=vs.any fun kv=>decide (kv.1=k):=by
 unfold KV at r
 induction r with
 | nil=>rfl
 | cons h t I=>rw [List.any_cons,List.any_cons,I,h.1]
theorem KV.repl {kvs:List (κ×V)}{vs:List (κ×Value)}(r:KV kvs vs)(k:κ){y:V}{u:Value}(ry:RelV y u):
  KV (kvs.map fun kv=>if kv.1=k then (kv.1,y) else kv) (vs.map fun kv=>if kv.1=k then (kv.1,u) else kv):=by
 unfold KV at r ⊢
 induction r with
 | nil=>exact .nil
 | @cons p q ps J h t I=>
  rw [List.map_cons,List.map_cons]
  refine .cons ?_ I
  obtain⟨h1,h2⟩:=h
  by_cases e:p.1=k
  ·rw [if_pos e,if_pos (h1.symm.trans e)];exact⟨h1,ry⟩
  ·rw [if_neg e,if_neg (fun z=>e (h1.trans z))];exact⟨h1,h2⟩
theorem KV.put {kvs:List (κ×V)}{vs:List (κ×Value)}(r:KV kvs vs)(k:κ){y:V}{u:Value}(ry:RelV y u):KV (putK kvs k y) (stored vs k u):=by
 unfold putK stored
 rw [r.any k]
 by_cases e:(vs.any fun I=>decide (I.1=k))=true
 ·rw [if_pos e,if_pos e];exact r.repl k ry
 ·rw [if_neg e,if_neg e];exact Paired.snoc r ⟨rfl,ry⟩
theorem KV.keys {kvs:List (κ×V)}{vs:List (κ×Value)}(r:KV kvs vs):kvs.map (·.1)=vs.map (·.1):=by
 unfold KV at r
 induction r with
 | nil=>rfl
 | cons h t I=>rw [List.map_cons,List.map_cons,I,h.1]
theorem KV.length {kvs:List (κ×V)}{vs:List (κ×Value)}(r:KV kvs vs):kvs.length=vs.length:=Paired.length r
end
theorem mD{P:Program}{w:World}{k:Key}{u:Value}(r:RelV (kV k) u):(g6 P w).is k u=true:=by
 cases k with
 | inl i=>obtain⟨t,e⟩:=(show ∃ t,u=Value.int i t from r);subst e;exact z3 P w i t
 | inr x=>obtain⟨t,e⟩:=(show ∃ t,u=Value.str x t from r);subst e;exact CY P w x t
theorem zu{P:Program}{w:World}:∀{ks:List Key} {us:List Value},Vals (ks.map kV) us->ItemsAre (g6 P w) ks us
 | [],_,r=>by rw [List.map_nil] at r;cases r;exact .nil
 | k::ks,_,r=>by
  rw [List.map_cons] at r
  cases r with
  | cons h t=>exact .cons (mD h) (zu t)
abbrev KT(H:Hp):List (List Key×V)->List (List Key×Addr×Value)->Prop:=Paired fun p q=>p.1=q.1/\H q.2.1=some (.tup (p.1.map kV))/\RelV p.2 q.2.2
theorem KT.val {H:Hp}{kvs:List (List Key×V)}{xs:List (List Key×Addr×Value)}(r:KT H kvs xs)(k:List Key):il (fH kvs k) ((atKey xs k).map (·.2)):=by
 induction r with
 | nil=>exact True.intro
 | @cons p q ps I h t U=>
  obtain⟨h1,_,h2⟩:=h
  by_cases e:p.1=k
  ·have J:q.1=k:=h1.symm.trans e
   have b:atKey (q::I) k=some q.2:=by simp [atKey,List.find?_cons,J]
   rw [jk e,b];exact h2
  ·have J:¬ q.1=k:=fun z=>e (h1.trans z)
   have b:atKey (q::I) k=atKey I k:=by simp [atKey,List.find?_cons,J]
   rw [jb e,b];exact U
theorem KT.repl {H:Hp}{kvs:List (List Key×V)}{xs:List (List Key×Addr×Value)}(r:KT H kvs xs)(k:List Key){y:V}{u:Value}(ry:RelV y u):
  KT H (kvs.map fun kv=>if kv.1=k then (kv.1,y) else kv) (xs.map (putAt k u)):=by
 induction r with
 | nil=>exact .nil
 | @cons p q ps U h t I=>
  rw [List.map_cons,List.map_cons]
  refine .cons ?_ I
  obtain⟨h1,h2,J⟩:=h
  unfold putAt
  by_cases e:p.1=k
  ·rw [if_pos e,if_pos (h1.symm.trans e)];exact⟨h1,h2,ry⟩
  ·rw [if_neg e,if_neg (fun z=>e (h1.trans z))];exact⟨h1,h2,J⟩
theorem KT.put {H:Hp}{kvs:List (List Key×V)}{xs:List (List Key×Addr×Value)}(r:KT H kvs xs)(k:List Key){b:Addr}{y:V}{u:Value}(hb:H b=some (.tup (k.map kV)))(ry:RelV y u):
  KT H (putK kvs k y) (storedH xs k b u):=by
 have e:(kvs.any fun I=>decide (I.1=k))=(atKey xs k).isSome:=by
  rw [mB,(r.val k).isSome_eq,Option.isSome_map]
 unfold putK storedH
 rw [e]
 by_cases q:(atKey xs k).isSome=true
 ·rw [if_pos q,if_pos q];exact r.repl k ry
 ·rw [if_neg q,if_neg q];exact Paired.snoc r ⟨rfl,hb,ry⟩
theorem KT.keeps {H H':Hp}{kvs:List (List Key×V)}{xs:List (List Key×Addr×Value)}(r:KT H kvs xs)(ht:∀ b ys,H b=some (.tup ys)->H' b=some (.tup ys)):KT H' kvs xs:=
 Paired.mapP r fun _ _ z=>⟨z.1,ht _ _ z.2.1,z.2.2⟩
section
variable {P : Program} {w : World} {H : Hp} {h : Heap} {a : Addr}
theorem vM{u:HO}(ok:gi P w H h)(e:Rd H a u):gk P w H h a u:=e.ok ok
theorem kF{kvs:List (Key×V)}(ok:gi P w H h)(e:Rd H a (.dK kvs)):kvs.length<=sizeLine/\(a == sysModules)=false/\∃ vs,KV kvs vs/\h.DictOf (g6 P w) a vs:=
 show gk P w H h a (.dK kvs) from vM ok e
theorem sh{kvs:List (Key×V)}(ok:gi P w H h)(e:H a=some (.dK kvs)):kvs.length<=sizeLine/\(a == sysModules)=false/\∃ vs,KV kvs vs/\h.DictOf (g6 P w) a vs:=kF ok (.inl e)
theorem nU{ks:List Key}(ok:gi P w H h)(e:H a=some (.tup (ks.map kV))):(tupleKind (g6 P w)).is h ks a:=by
 obtain⟨_,I,r,o,h1,h2,n,J⟩:=(show gk P w H h a (.tup (ks.map kV)) from ok a _ e)
 exact⟨o,I.toArray,n,h1,h2,J,by simpa using zu r⟩
theorem nk{kvs:List (List Key×V)}(ok:gi P w H h)(e:Rd H a (.dT kvs)):kvs.length<=sizeLine/\(a == sysModules)=false/\
  ∃ xs,KT H kvs xs/\h.DictOfH (tupleKind (g6 P w)) a xs:=by
 obtain⟨z,y,xs,r,o,es,ep,h1,h2,J,U,h5⟩:=(show gk P w H h a (.dT kvs) from vM ok e)
 refine⟨z,y,xs,r,o,es,ep,h1,h2,J,U,fun x hx=>?_,h5⟩
 have all:∀{l:List (List Key×V)} {m:List (List Key×Addr×Value)},KT H l m->∀ x∈m,(tupleKind (g6 P w)).is h x.1 x.2.1:=by
  intro l m q
  induction q with
  | nil=>intro x hx;exact nomatch hx
  | @cons p q ps qs I t ih=>
   intro x hx
   rcases List.mem_cons.mp hx with e | hx
   ·subst e
    exact nU ok (by rw [<-I.1];exact I.2.1)
   ·exact ih x hx
 exact all r x hx
theorem Ct{kvs:List (List Key×V)}(ok:gi P w H h)(e:H a=some (.dT kvs)):kvs.length<=sizeLine/\(a == sysModules)=false/\
  ∃ xs,KT H kvs xs/\h.DictOfH (tupleKind (g6 P w)) a xs:=nk ok (.inl e)
end
def ic(H:Hp)(a:Addr)(y:V)(r:Option V):Prop:=
 (∃ kvs k,Rd H a (.dK kvs)/\y=kV k/\r=fH kvs k)\/∃ kvs k b,Rd H a (.dT kvs)/\y= .ref b/\H b=some (.tup (k.map kV))/\r=fH kvs k
def jG(H:Hp)(a:Addr)(y v:V)(H':Hp):Prop:=
 (∃ kvs k,H a=some (.dK kvs)/\y=kV k/\kvs.length < sizeLine/\H'=upd H a (.dK (putK kvs k v)))\/
 ∃ kvs k b,H a=some (.dT kvs)/\y= .ref b/\H b=some (.tup (k.map kV))/\kvs.length < sizeLine/\H'=upd H a (.dT (putK kvs k v))
theorem ic.k {H:Hp}{a:Addr}{kvs:List (Key×V)}{k:Key}(e:H a=some (.dK kvs)):ic H a (kV k) (fH kvs k):= .inl ⟨kvs,k,.inl e,rfl,rfl⟩
theorem ic.t {H:Hp}{a b:Addr}{kvs:List (List Key×V)}{k:List Key}(e:H a=some (.dT kvs))(eb:H b=some (.tup (k.map kV))):ic H a (.ref b) (fH kvs k):= .inr ⟨kvs,k,b,.inl e,rfl,eb,rfl⟩
theorem jG.k {H:Hp}{a:Addr}{kvs:List (Key×V)}{k:Key}{v:V}(e:H a=some (.dK kvs))(hl:kvs.length < sizeLine):jG H a (kV k) v (upd H a (.dK (putK kvs k v))):= .inl ⟨kvs,k,e,rfl,hl,rfl⟩
theorem jG.t {H:Hp}{a b:Addr}{kvs:List (List Key×V)}{k:List Key}{v:V}(e:H a=some (.dT kvs))(eb:H b=some (.tup (k.map kV)))(hl:kvs.length < sizeLine):
  jG H a (.ref b) v (upd H a (.dT (putK kvs k v))):= .inr ⟨kvs,k,b,e,rfl,eb,hl,rfl⟩
section
variable {X : Cx} {pins : List (Addr × Obj)} {σ : St} {H : Hp} {s : Shared} {a : Addr} {y v : V} {u r : Value} {o : Option V} {A : Around} {E : Value -> Shared -> Prop}
theorem Inv.big (I:Inv X pins σ H s):sysModules < s.heap.objs.size:=by
 have h:mainGlobals < s.heap.objs.size:=(I.mod.glob.keeps I.bk).lt
 exact Nat.lt_trans (by decide) h
theorem DF{Q:Value->Shared->Prop}(hu:A.units + 1 < cLine)(I:Inv X pins σ H s)(g:ic H a y (some v))(ry:RelV y u)(h:∀ w' s',Inv X pins σ H s'->RelV v w'->Q w' s'):
  wpAny (model X.prog X.w) A (getItem (.ref a) u) Q E s:=by
 rcases g with ⟨kvs,k,e,U,l⟩ | ⟨kvs,k,b,e,U,eb,l⟩
 ·subst U
  obtain⟨z,hd,vs,rel,dd⟩:=kF I.hok e
  obtain⟨w',hw,J⟩:=il.some_of (v:=v) (o:=valueAt vs k) (by rw [l];exact rel.val k)
  exact wpAny_getItem_of (mD ry) dd.mapOf hw (h w' _ (I.tok _) J)
 ·subst U
  cases (show u=Value.ref b from ry)
  obtain⟨z,hd,xs,rel,dd⟩:=nk I.hok e
  obtain⟨w',hw,J⟩:=il.some_of (v:=v) (o:=(atKey xs k).map (·.2)) (by rw [l];exact rel.val k)
  obtain⟨p,hp,aa⟩:=Option.map_eq_some_iff.mp hw
  refine wpAny_getItem_heap (tupleKind_room_in1 hu) (nU I.hok eb) dd hp ?_
  rw [aa]
  exact h w' _ (I.tok _) J
theorem Ei{Q:Value->Shared->Prop}(hu:A.units + 1 < cLine)(I:Inv X pins σ H s)(g:ic H a y o)(ry:RelV y u)(h:∀ s',Inv X pins σ H s'->Q (.bool o.isSome) s'):
  wpAny (model X.prog X.w) A (compareOp .In u (.ref a)) Q E s:=by
 rcases g with ⟨kvs,k,e,J,l⟩ | ⟨kvs,k,b,e,J,U,l⟩
 ·subst J
  obtain⟨z,hd,vs,rel,dd⟩:=kF I.hok e
  refine wpAny_in_of (mD ry) hd dd.mapOf ?_
  rw [<-(rel.val k).isSome_eq,<-l]
  exact h _ (I.tok _)
 ·subst J
  cases (show u=Value.ref b from ry)
  obtain⟨z,hd,xs,rel,dd⟩:=nk I.hok e
  refine wpAny_in_heap (tupleKind_room_in1 hu) (nU I.hok U) hd dd ?_
  have q:=(rel.val k).isSome_eq
  rw [Option.isSome_map] at q
  rw [<-q,<-l]
  exact h _ (I.tok _)
theorem Gq{Q:Value->Shared->Prop}(hu:A.units + 1 < cLine)(I:Inv X pins σ H s)(g:ic H a y o)(ry:RelV y u)(h:∀ s',Inv X pins σ H s'->Q (.bool (!o.isSome)) s'):
  wpAny (model X.prog X.w) A (compareOp .NotIn u (.ref a)) Q E s:=by
 rcases g with ⟨kvs,k,e,J,l⟩ | ⟨kvs,k,b,e,J,U,l⟩
 ·subst J
  obtain⟨z,hd,vs,rel,dd⟩:=kF I.hok e
  refine wpAny_notIn_of (mD ry) hd dd.mapOf ?_
  rw [<-(rel.val k).isSome_eq,<-l]
  exact h _ (I.tok _)
 ·subst J
  cases (show u=Value.ref b from ry)
  obtain⟨z,hd,xs,rel,dd⟩:=nk I.hok e
  refine wpAny_notIn_heap (tupleKind_room_in1 hu) (nU I.hok U) hd dd ?_
  have q:=(rel.val k).isSome_eq
  rw [Option.isSome_map] at q
  rw [<-q,<-l]
  exact h _ (I.tok _)
theorem uL{h':Heap}{t':Nat}{ob:HO}(I:Inv X pins σ H s)(mu:oW (H a))(hs:Heap.SameBut a s.heap h')(he:∃ q,h'.get? a=some q)(new:gk X.prog X.w (upd H a ob) h' a ob):
  Inv X pins σ (upd H a ob) {s with heap:=h',toks:=t'}:=
 I.write (x:=a) (e:=a) mu (.inl rfl) (fun b q hb z=>(hs.2 b hb).trans z) he new
theorem zM{P:Program}{w:World}{H':Hp}{h':Heap}{kvs:List (Key×V)}{vs:List (Key×Value)}(z:kvs.length<=sizeLine)(hd:(a == sysModules)=false)(rel:KV kvs vs)(dd:h'.DictOf (g6 P w) a vs):
  gk P w H' h' a (.dK kvs):=⟨z,hd,vs,rel,dd⟩
theorem Cn{H':Hp}{Q:Unit->Shared->Prop}(hu:A.units + 1 < cLine)(I:Inv X pins σ H s)(g:jG H a y v H')(ry:RelV y u)(rv:RelV v r)(h:∀ s',Inv X pins σ H' s'->Q () s'):
  wpAny (model X.prog X.w) A (setItem (.ref a) u r) Q E s:=by
 rcases g with ⟨kvs,k,e,ey,l,eH⟩ | ⟨kvs,k,b,e,ey,eb,l,eH⟩
 ·subst ey eH
  obtain⟨z,hd,vs,rel,dd⟩:=sh I.hok e
  have hz:vs.length<=sizeLine:=by rw [<-rel.length];exact z
  have hl:(putK kvs k v).length<=sizeLine:=by have:=ph kvs k v;omega
  refine wpAny_setItem_pairs (hsz:=hz) (mD ry) dd fun h' J hs=>h _ ?_
  have he:∃ q,h'.get? a=some q:=let ⟨q,_,_,U,_⟩:=J;⟨q,U⟩
  exact uL I (by rw [e];exact True.intro) hs he (zM hl hd (rel.put k rv) J)
 ·subst ey eH
  cases (show u=Value.ref b from ry)
  obtain⟨z,hd,xs,rel,dd⟩:=Ct I.hok e
  have hz:xs.length<=sizeLine:=by rw [<-Paired.length rel];exact z
  have hl:(putK kvs k v).length<=sizeLine:=by have:=ph kvs k v;omega
  refine wpAny_setItem_heap (hsz:=hz) (tupleKind_room_in1 hu) (nU I.hok eb) dd fun h' J hs=>h _ ?_
  obtain⟨q,es,ep,U,h2,h3,h4,_,h5⟩:=J
  refine uL I (by rw [e];exact True.intro) hs ⟨q,U⟩ ⟨hl,hd,_,(rel.put k eb rv).keeps fun c ys ec=>?_,q,es,ep,U,h2,h3,h4,h5⟩
  rw [eC (De ec e (fun z=>nomatch z))]
  exact ec
end
section
variable {X : Cx} {pins : List (Addr × Obj)} {σ : St} {H : Hp} {s : Shared} {a : Addr} {kvs : List (Key × V)} {k : Key} {u : Value} {A : Around} {E : Value -> Shared -> Prop}
theorem zU{Q:Value->Shared->Prop}(I:Inv X pins σ H s)(e:Rd H a (.dK kvs))(h:∀ t s',Inv X pins σ H s'->Q (.int kvs.length t) s'):wpAny (model X.prog X.w) A (call (.builtin "len") [.ref a]) Q E s:=by
 obtain⟨z,hd,vs,rel,dd⟩:=kF I.hok e
 refine call_len_dict hd dd (by rw [<-rel.length];rw [sizeLine_eq] at z;omega) ?_
 rw [<-rel.length]
 exact h _ _ (I.tok _)
end
def vk(i:Expr):Prop:=∀ I J,subscripted i false I J=operate [I,J] (getItem I J)
theorem EY{prog:Program}{w:World}{A:Around}{E:Value->Shared->Prop}{s:Shared}{env:Env}{value slice:Expr}{pos:Pos}{T id:String}{Q:Value->Shared->Prop}
  (hl:typeLookup (.type T) "__getitem__"=pure (some (.builtin id)))(hs:vk slice)
  (h:wpAny (model prog w) A (eval value env) (fun o s₁=>wpAny (model prog w) A (eval slice env) (fun i s₂=>s₂.TypeIs o T/\wpAny (model prog w) A (getItem o i) Q E s₂) E s₁) E s):
  wpAny (model prog w) A (eval (.Subscript value slice pos) env) Q E s:=by
 refine Subscript_ (wpAny_mono h (fun o s₁ U=>wpAny_mono U (fun i s₂ I=>?_) fun _ _ x=>x) fun _ _ x=>x)
 obtain⟨hT,I⟩:=I
 unfold subscriptTail
 refine wpAny_bind ?_
 rw [getitemInPython_of_ne hT.not_modules]
 refine wpAny_bind (wpAny_specialOf hT hl ?_)
 have fin:wpAny (model prog w) A (subscripted slice false o i) (fun r J=>wpAny (model prog w) A (letTemporaryGo value o r >>= fun _=>pure r) Q E J) E s₂:=by
  rw [hs o i]
  exact wpAny_operating (wpAny_mono I (fun r J aa=>wpAny_bind (wpAny_letTemporaryGo (wpAny_pure aa))) fun _ _ x=>x)
 first
  | exact wpAny_pure (wpAny_bind fin)
  | exact wpAny_bind (wpAny_pure (wpAny_bind fin))
  | exact wpAny_bind fin
theorem zR{X:Cx}{pins:List (Addr×Obj)}{σ:St}{H:Hp}{s:Shared}{a:Addr}{y:V}{o:Option V}(I:Inv X pins σ H s)(g:ic H a y o):s.TypeIs (.ref a) "dict":=by
 rcases g with ⟨kvs,k,e,_,_⟩ | ⟨kvs,k,b,e,_,_,_⟩
 ·obtain⟨_,_,vs,_,dd⟩:=kF I.hok e
  exact dd.typeIs
 ·obtain⟨_,_,xs,_,dd⟩:=nk I.hok e
  exact dd.typeIs
def FF(td ty:TE):TE:=fun σ H Q=>td σ H fun x H1=>ty σ H1 fun y H2=>∃ a v,x= .ref a/\ic H2 a y (some v)/\Q v H2
def An(ty td:TE):TE:=fun σ H Q=>ty σ H fun y H1=>td σ H1 fun x H2=>∃ a o,x= .ref a/\ic H2 a y o/\Q (.bl o.isSome) H2
def EN(ty td:TE):TE:=fun σ H Q=>ty σ H fun y H1=>td σ H1 fun x H2=>∃ a o,x= .ref a/\ic H2 a y o/\Q (.bl (!o.isSome)) H2
def zX(td ty tv:TE):TS:=fun D σ H=>tv σ H fun v H1=>td σ H1 fun x H2=>ty σ H2 fun y J=>∃ a I,x= .ref a/\jG J a y v I/\D.nx σ I
section
variable {X : Cx} {o i e value : Expr} {pos pos' tpos : Pos} {td ty tv : TE}
theorem oK(hu:X.A.units + 1 < cLine)(ho:PE X o td)(hi:PE X i ty)(hs:vk i):PE X (.Subscript o i pos) (FF td ty):=by
 intro pins s σ H Q I h
 refine EY F.slot_dict_getitem.lookup hs (eJ (ho pins s σ H _ I h) fun u s1 ⟨x,H1,I1,rx,q1⟩=>eJ (hi pins s1 σ H1 _ I1 q1) fun iv s2 ⟨y,H2,U,ry,a,v,ex,g,q2⟩=>?_)
 subst ex
 obtain rfl:u=Value.ref a:=rx
 exact⟨zR U g,DF hu U g ry fun w' s3 I3 J=>⟨v,H2,I3,J,q2⟩⟩
theorem yn(hu:X.A.units + 1 < cLine)(hi:PE X i ty)(ho:PE X o td):PC X .In i o (An ty td):=by
 intro pins s σ H Q I h
 refine eJ (hi pins s σ H _ I h) fun iv s1 ⟨y,H1,J,U,q1⟩=>eJ (ho pins s1 σ H1 _ J q1) fun u s2 ⟨x,H2,I2,rx,a,ov,ex,g,q2⟩=>?_
 subst ex
 obtain rfl:u=Value.ref a:=rx
 exact Ei hu I2 g U fun s3 I3=>⟨.bl ov.isSome,H2,I3,rfl,q2⟩
theorem zG(hu:X.A.units + 1 < cLine)(hi:PE X i ty)(ho:PE X o td):PC X .NotIn i o (EN ty td):=by
 intro pins s σ H Q I h
 refine eJ (hi pins s σ H _ I h) fun iv s1 ⟨y,H1,J,U,q1⟩=>eJ (ho pins s1 σ H1 _ J q1) fun u s2 ⟨x,H2,I2,rx,a,ov,ex,g,q2⟩=>?_
 subst ex
 obtain rfl:u=Value.ref a:=rx
 exact Gq hu I2 g U fun s3 I3=>⟨.bl (!ov.isSome),H2,I3,rfl,q2⟩
theorem oH(hu:X.A.units + 1 < cLine)(ho:PE X o td)(hi:PE X i ty)(hv:PE X value tv)(hs:swapsWith value (some (.Subscript o i pos')) pos.line X.env=pure false):
  PS X (.Assign [.Subscript o i pos'] value pos) (zX td ty tv):=by
 intro pins s σ H D I h
 refine wpAny_Assign_Subscript (eJ (hv pins s σ H _ I h) fun r s1 ⟨v,H1,J,U,q1⟩=>eJ (ho pins s1 σ H1 _ J q1) fun u s2 ⟨x,H2,I2,rx,q2⟩=>eJ (hi pins s2 σ H2 _ I2 q2) fun iv s3 ⟨y,H3,I3,ry,a,H4,ex,g,q3⟩=>?_) hs
 subst ex
 obtain rfl:u=Value.ref a:=rx
 exact Cn hu I3 g ry U fun s4 I4=>⟨σ,H4,I4,q3⟩
end
theorem AS{P:Program}{w:World}{H:Hp}(h:Heap)(hb:sysModules < h.objs.size):gk P w H (h.push {cls:= .type "dict",data:= .dict #[]}) h.objs.size (.dK []):=
 ⟨Nat.zero_le _,beq_eq_false_iff_ne.mpr (Ne.symm (Nat.ne_of_lt hb)),[],.nil,Heap.DictOf.new h⟩
theorem FG{P:Program}{w:World}{H:Hp}(h:Heap)(hb:sysModules < h.objs.size):gk P w H (h.push {cls:= .type "dict",data:= .dict #[]}) h.objs.size (.dT []):=
 ⟨Nat.zero_le _,beq_eq_false_iff_ne.mpr (Ne.symm (Nat.ne_of_lt hb)),[],.nil,_,#[],0,Heap.get?_push_size _ rfl,⟨rfl,rfl,rfl⟩,rfl,rfl,List.nodup_nil⟩
def Fe:TE:=fun _ H Q=>∀ p,H p=none->Q (.ref p) (upd H p (.dK []))
def Hg:TE:=fun _ H Q=>∀ p,H p=none->Q (.ref p) (upd H p (.dT []))
section
variable {X : Cx} {pos : Pos}
theorem kZ:PE X (.Dict [] [] pos) Fe:=fun pins s σ H Q I h=>
 wpAny_Dict_empty ⟨.ref s.heap.objs.size,_,I.laid (a:=s.heap.objs.size) (o:= .dK []) (t':=s.toks) (fun _ _ q=>Heap.get?_push_of_some _ q) (Nat.le_refl _) (AS s.heap I.big),rfl,h _ (I.hok.fresh (Nat.le_refl _))⟩
theorem Cr:PE X (.Dict [] [] pos) Hg:=fun pins s σ H Q I h=>
 wpAny_Dict_empty ⟨.ref s.heap.objs.size,_,I.laid (a:=s.heap.objs.size) (o:= .dT []) (t':=s.toks) (fun _ _ q=>Heap.get?_push_of_some _ q) (Nat.le_refl _) (FG s.heap I.big),rfl,h _ (I.hok.fresh (Nat.le_refl _))⟩
end
section
variable {X : Cx} {pins : List (Addr × Obj)} {σ : St} {H : Hp} {s : Shared} {a : Addr} {y d : V} {u r : Value} {o : Option V} {A : Around} {E : Value -> Shared -> Prop}
theorem Eo{Q:Value->Shared->Prop}(hu:A.units + 1 < cLine)(I:Inv X pins σ H s)(g:ic H a y o)(ry:RelV y u)(rd:RelV d r)(h:∀ w' s',Inv X pins σ H s'->RelV (o.getD d) w'->Q w' s'):
  wpAny (model X.prog X.w) A (call (.builtin "dict.get") [.ref a,u,r]) Q E s:=by
 rcases g with ⟨kvs,k,e,J,l⟩ | ⟨kvs,k,b,e,J,U,l⟩
 ·subst J
  obtain⟨z,hd,vs,rel,dd⟩:=kF I.hok e
  refine call_meetsIn F.slot_dict_get dd.typeIs F.entry_dict_get (F.args_dict_get_3 _ _ _) (meets_dict_get_default (g6 X.prog X.w) a (mD ry) hd r) ⟨_,dd.mapOf,h _ _ (I.tok _) ?_⟩
  rw [l]
  exact(rel.val k).getD rd
 ·subst J
  cases (show u=Value.ref b from ry)
  obtain⟨z,hd,xs,rel,dd⟩:=nk I.hok e
  refine call_meetsIn F.slot_dict_get dd.typeIs F.entry_dict_get (F.args_dict_get_3 _ _ _) (meetsH_dict_get_default (tupleKind (g6 X.prog X.w)) a b hd r) ⟨tupleKind_room_in1 hu,k,xs,nU I.hok U,dd,h _ _ (I.tok _) ?_⟩
  rw [l]
  exact(rel.val k).getD rd
end
section
variable {X : Cx} {o e f : Expr} {apos cpos : Pos} {td ty tx : TE}
end
section
variable {X : Cx} {pins : List (Addr × Obj)} {σ : St} {H : Hp} {s : Shared} {a : Addr} {kvs : List (Key × V)} {A : Around} {E : Value -> Shared -> Prop}
end
section
variable {X : Cx} {pins : List (Addr × Obj)} {σ : St} {H : Hp} {s : Shared} {a : Addr} {y : V} {u : Value} {A : Around} {E : Value -> Shared -> Prop}
end
section
variable {X : Cx}
theorem GA:iB X (.builtin "len") (fun xs H Q=>∃ a kvs,xs=[V.ref a]/\H a=some (.dK kvs)/\Q (.int kvs.length) H):=by
 intro pins s σ H xs us Q I r h
 obtain⟨a,kvs,rfl,ha,q⟩:=h
 obtain⟨u,rfl,J⟩:=vals1 r
 cases J
 exact zU I (.inl ha) fun t s' U=>⟨.int kvs.length,H,U,⟨t,rfl⟩,q⟩
end
section
variable {κ : Type} [DecidableEq κ]
theorem v9{kvs:List (κ×V)}{k:κ}(h:fH kvs k=none):¬ k∈kvs.map (·.1):=by
 intro m
 obtain⟨p,I,e⟩:=List.mem_map.mp m
 have q:(kvs.any fun J=>decide (J.1=k))=true:=List.any_eq_true.mpr ⟨p,I,decide_eq_true e⟩
 rw [mB,h] at q
 exact absurd q (by simp)
theorem Cw{kvs:List (κ×V)}{k:κ}{v:V}(h:fH kvs k=some v):k∈kvs.map (·.1):=by
 have q:(kvs.any fun I=>decide (I.1=k))=true:=by
  rw [mB,h]
  all_goals rfl
 obtain⟨p,J,e⟩:=List.any_eq_true.mp q
 exact List.mem_map.mpr ⟨p,J,of_decide_eq_true e⟩
end
end L2
set_option maxHeartbeats 4000000
namespace L2
open PySem PySem.Spec PyProof.Rows
section
variable {X : Cx}
theorem Dn:j6 X "str.lower" (fun x xs H Q=>∃ z,x= .str z/\xs=[]/\z.length<=5592405/\Q (.str (Txt.lower z)) H):=by
 intro pins s σ H x xs v us Q I J rs h
 obtain⟨z,rfl,rfl,U,q⟩:=h
 obtain⟨t,rfl⟩:=J
 cases rs
 exact SCL.lower U fun _=>⟨.str _,H,I.tok _,⟨_,rfl⟩,q⟩
theorem zi:j6 X "str.upper" (fun x xs H Q=>∃ z,x= .str z/\xs=[]/\z.length<=5592405/\Q (.str (Txt.upper z)) H):=by
 intro pins s σ H x xs v us Q I J rs h
 obtain⟨z,rfl,rfl,U,q⟩:=h
 obtain⟨t,rfl⟩:=J
 cases rs
 exact SCL.upper U fun _=>⟨.str _,H,I.tok _,⟨_,rfl⟩,q⟩
theorem CB:j6 X "str.strip" (fun x xs H Q=>∃ z,x= .str z/\xs=[]/\z.length<=sizeLine/\Q (.str (Txt.strip z)) H):=by
 intro pins s σ H x xs v us Q I J rs h
 obtain⟨z,rfl,rfl,U,q⟩:=h
 obtain⟨t,rfl⟩:=J
 cases rs
 exact SCL.strip (fun t' k _=>⟨.str _,H,I.tok _,⟨_,rfl⟩,q⟩) U
theorem CF(hc:X.calm=true):j6 X "str.index" (fun x xs H Q=>∃ z y,x= .str z/\xs=[.str y]/\(Builtin.Str.occurrences z y 0 z.length 1).isEmpty=false/\Q (.int (Txt.find z y)) H):=by
 intro pins s σ H x xs v us Q I J rs h
 obtain⟨z,y,rfl,rfl,U,q⟩:=h
 obtain⟨t,rfl⟩:=J
 obtain⟨u,rfl,t',rfl⟩:=vals1 rs
 refine index_or (I.ok.hd hc) (fun _ e=>?_) fun _ _=>⟨.int _,H,I.tok _,⟨_,rfl⟩,q⟩
 rw [U] at e
 cases e
theorem wL:∀{ys:List Str} {us:List Value},Vals (ys.map V.str) us->StrsAre us ys
 | [],_,.nil=> .nil
 | y::ys,_,.cons r t=>by
  obtain⟨k,e⟩:=(show ∃ k,_=Value.str y k from r)
  subst e
  exact .cons y k (wL t)
theorem Ad:j6 X "str.join" (fun x xs H Q=>∃ z p ys,x= .str z/\xs=[.ref p]/\d4 X.K H p (ys.map V.str)/\(ys.map (·.length)).sum + ys.length * z.length<=16777216/\Q (.str (Txt.join z ys)) H):=by
 intro pins s σ H x xs v us Q I J rs h
 obtain⟨z,p,ys,rfl,rfl,U,hz,q⟩:=h
 obtain⟨t,rfl⟩:=J
 obtain⟨u,rfl,r1⟩:=vals1 rs
 cases r1
 obtain⟨aa,r,pl,_⟩:=I.list U
 exact join_list pl.isList (by simpa using wL r) hz fun t' k=>⟨.str _,H,I.tok _,⟨_,rfl⟩,q⟩
def A8:V->Option Int->Option Int->Hp->VK->Prop:=fun x lo hi H Q=>∃ z,x= .str z/\z.length<=sizeLine/\Q (.str (Txt.slice z lo hi)) H
theorem jn:uC X A8:=by
 intro pins s σ H x v vl vu lo hi sl Q I rx J pl pu h
 obtain⟨z,rfl,U,q⟩:=h
 obtain⟨t,rfl⟩:=rx
 refine⟨"str",_,F.slot_str_getitem.lookup,typeIs_str _ _ _,?_⟩
 cases pl with
 | none=>
  cases pu with
  | none=>exact wpAny_getItem_str_slice (l:=none) (u:=none) (st:=none) J rfl (post_val_or_str ⟨Nat.le_trans (Txt.slice_le z _ _) U,fun t' k=>⟨.str (Txt.slice z none none),H,I.tok _,⟨_,rfl⟩,q⟩⟩)
  | int j tj=>exact wpAny_getItem_str_slice (l:=none) (u:=some (j,tj)) (st:=none) J rfl (post_val_or_str ⟨Nat.le_trans (Txt.slice_le z _ _) U,fun t' k=>⟨.str (Txt.slice z none (some j)),H,I.tok _,⟨_,rfl⟩,q⟩⟩)
 | int i ti=>
  cases pu with
  | none=>exact wpAny_getItem_str_slice (l:=some (i,ti)) (u:=none) (st:=none) J rfl (post_val_or_str ⟨Nat.le_trans (Txt.slice_le z _ _) U,fun t' k=>⟨.str (Txt.slice z (some i) none),H,I.tok _,⟨_,rfl⟩,q⟩⟩)
  | int j tj=>exact wpAny_getItem_str_slice (l:=some (i,ti)) (u:=some (j,tj)) (st:=none) J rfl (post_val_or_str ⟨Nat.le_trans (Txt.slice_le z _ _) U,fun t' k=>⟨.str (Txt.slice z (some i) (some j)),H,I.tok _,⟨_,rfl⟩,q⟩⟩)
theorem zT:gz X (binaryOp .Mult) (fun x y H Q=>∃ z n,x= .str z/\y= .int n/\MulOk z n/\Q (.str (Txt.mul z n)) H):=by
 intro pins s σ H x y v u Q I J U h
 obtain⟨z,n,rfl,rfl,hz,q⟩:=h
 obtain⟨t,rfl⟩:=J
 obtain⟨t',rfl⟩:=U
 exact SB.mul hz fun t' k=>⟨.str _,H,I.tok _,⟨_,rfl⟩,q⟩
theorem vy:gz X (compareOp .LtE) (fun x y H Q=>∃ i j,x= .str i/\y= .str j/\Q (.bl (!(decide (j.cps.toList < i.cps.toList)))) H):=by
 intro pins s σ H x y v u Q I J U h
 obtain⟨i,j,rfl,rfl,q⟩:=h
 obtain⟨t,rfl⟩:=J
 obtain⟨t',rfl⟩:=U
 exact PySem.P.le_str ⟨.bl _,H,I,rfl,q⟩
mutual
inductive ia (K : PySem.W.Frag) (H : Hp) : V -> PyData -> Prop
 | non : ia K H .non .none
 | bl (b : Bool) : ia K H (.bl b) (.bool b)
 | int (i : Int) : ia K H (.int i) (.int i)
 | str (x : Str) : ia K H (.str x) (.str x)
 | lst {a : Addr} {xs : List V} {ds : List PyData} : d4 K H a xs -> iT K H xs ds -> ia K H (.ref a) (.list ds)
 | tup {a : Addr} {xs : List V} {ds : List PyData} : eW K H a xs -> iT K H xs ds -> ia K H (.ref a) (.tuple ds)
inductive iT (K : PySem.W.Frag) (H : Hp) : List V -> List PyData -> Prop
 | nil : iT K H [] []
 | cons {x : V} {xs : List V} {d : PyData} {ds : List PyData} : ia K H x d -> iT K H xs ds -> iT K H (x :: xs) (d :: ds)
end
mutual
theorem ia.reads {pins : List (Addr × Obj)} {σ : St} {H : Hp} {s : Shared} (I : Inv X pins σ H s) : ∀ {x : V} {d : PyData} {u : Value}, ia X.K H x d -> RelV x u -> ∃ as, Reads s.heap u d as
 | _, _, _, .non, r => by cases r; exact ⟨_, .none⟩
 | _, _, _, .bl b, r => by cases r; exact ⟨_, .bool b⟩
 | _, _, _, .int i, r => by obtain ⟨t, rfl⟩ := r; exact ⟨_, .int i t⟩
 | _, _, _, .str x, r => by obtain ⟨t, rfl⟩ := r; exact ⟨_, .str x t⟩
 | _, _, _, .lst hq hs, r => by
  cases r
  obtain ⟨its, rv, ⟨o, n, e, c, _, d⟩, _⟩ := I.list hq
  obtain ⟨as, ra⟩ := iT.reads I hs rv
  exact ⟨_, .list e c d (by simpa using ra)⟩
 | _, _, _, .tup hq hs, r => by
  cases r
  obtain ⟨its, rv, ⟨o, e, c, n, d⟩, _⟩ := I.tuple hq
  obtain ⟨as, ra⟩ := iT.reads I hs rv
  exact ⟨_, .tuple e c d (by simpa using ra)⟩
theorem iT.reads {pins : List (Addr × Obj)} {σ : St} {H : Hp} {s : Shared} (I : Inv X pins σ H s) : ∀ {xs : List V} {ds : List PyData} {us : List Value}, iT X.K H xs ds -> Vals xs us -> ∃ as, ReadsAll s.heap us ds as
 | _, _, _, .nil, .nil => ⟨_, .nil⟩
 | _, _, _, .cons h hs, .cons r rs => by
  obtain ⟨as, ra⟩ := ia.reads I h r
  obtain ⟨bs, rb⟩ := iT.reads I hs rs
  exact ⟨_, .cons ra rb⟩
end
def Bt(X:Cx):R2:=fun x y H Q=>∃ dx I,ia X.K H x dx/\ia X.K H y I/\dx.canLay0=true/\I.canLay0=true/\min dx.depth I.depth<=100/\Q (.bl (PyData.eqv dx I)) H
def CI(X:Cx):R2:=fun x y H Q=>∃ dx I,ia X.K H x dx/\ia X.K H y I/\dx.canLay0=true/\I.canLay0=true/\min dx.depth I.depth<=100/\Q (.bl (!PyData.eqv dx I)) H
theorem lV(hu:X.A.units + 100 < cLine):gz X (compareOp .Eq) (Bt X):=by
 intro pins s σ H x y v u Q I rx ry h
 obtain⟨dx,dy,hx,hy,J,U,hd,q⟩:=h
 obtain⟨as,ra⟩:=hx.reads I rx
 obtain⟨bs,rb⟩:=hy.reads I ry
 exact SeqAt.compareEq_reads ra rb J U (by(clear U J;omega)) ⟨.bl _,H,I,rfl,q⟩
theorem rg(hu:X.A.units + 100 < cLine):gz X (compareOp .NotEq) (CI X):=by
 intro pins s σ H x y v u Q I rx ry h
 obtain⟨dx,dy,hx,hy,J,U,hd,q⟩:=h
 obtain⟨as,ra⟩:=hx.reads I rx
 obtain⟨bs,rb⟩:=hy.reads I ry
 exact SeqAt.compareNe_reads ra rb J U (by(clear U J;omega)) ⟨.bl _,H,I,rfl,q⟩
theorem sV:∀{bs:List Bool} {us:List Value},Vals (bs.map V.bl) us->∀(i:Nat) (v:Value),us[i]? =some v->∃ b,bs[i]? =some b/\v= .bool b
 | [],_,.nil,i,v,h=>by simp at h
 | b::bs,_,.cons r t,0,v,h=>by
  have I:_=Value.bool b:=r
  subst I
  simp at h
  exact⟨b,by simp,h.symm⟩
 | b::bs,_,.cons r t,i + 1,v,h=>by
  obtain⟨c,J,U⟩:=sV t i v (by simpa using h)
  exact⟨c,by simpa using J,U⟩
theorem uS(hc:X.calm=true):iB X (.builtin "all") (fun xs H Q=>∃(p:Addr) (bs:List Bool),xs=[.ref p]/\d4 X.K H p (bs.map V.bl)/\Q (.bl (bs.all id)) H):=by
 intro pins s σ H xs us Q I r h
 obtain⟨p,bs,rfl,hq,q⟩:=h
 obtain⟨u,rfl,rx⟩:=vals1 r
 cases rx
 obtain⟨J,rv,pl,hz⟩:=I.list hq
 have U:=pl.isList
 have hlen:=rv.length
 rw [List.length_map] at hlen
 have aa:p < s.heap.objs.size:=by obtain⟨_,e,_⟩:=U;exact Heap.lt_size e
 refine call_all_walk (wpAny_pyIter_list U ?_)
 refine⟨s.heap.objs.size,[s.heap.objs.size,p],[s.heap.objs.size],J.toArray.size,_,_,fun i=>(bs[i]?).getD true,rfl,Walks.list (A:=X.A.in1) (I.ok.hd hc) _ p (Nat.ne_of_lt aa) J.toArray,
  ⟨⟨_,Heap.get?_push_size _ rfl,rfl,rfl⟩,U.push _⟩,fun i v s' Q' E' hP hQ=>?_,fun h' tk hk=>?_⟩
 ·obtain⟨b,e,rfl⟩:=sV rv i v (by simpa using hP)
  simp only [e,Option.getD_some] at hQ
  exact wpAny_truthy_bool hQ
 ·have e:((List.range J.toArray.size).all fun i=>(bs[i]?).getD true)=bs.all id:=by
   rw [List.size_toArray,<-hlen];exact LSm.range_all bs
  rw [e]
  exact⟨.bl _,H,I.kept (LSm.kept_iter hk),rfl,q⟩
theorem jJ:iB X (.builtin "isinstance") (fun xs H Q=>∃ x c t b,xs=[x,c]/\gY X.K H x t/\
  ((∃ n,c= .ty n/\W.kitOne X.K t (.type n)=some b)\/(∃ C,c= .ref C/\W.kitOne X.K t (.ref C)=some b))/\Q (.bl b) H):=by
 intro pins s σ H xs us Q I r h
 obtain⟨x,c,t,b,rfl,ty,U,q⟩:=h
 obtain⟨u,w',rfl,J,rc⟩:=vals2 r
 rcases U with ⟨n,rfl,e⟩ | ⟨C,rfl,e⟩
 ·cases rc
  exact xu I J ty e fun tk=>⟨.bl b,H,I.tok tk,rfl,q⟩
 ·cases rc
  exact xu I J ty e fun tk=>⟨.bl b,H,I.tok tk,rfl,q⟩
end
section
variable {X : Cx} {pins : List (Addr × Obj)} {σ : St} {H H' : Hp} {s : Shared} {h' : Heap}
theorem Inv.track {a:Addr}{o:HO}(I:Inv X pins σ H s)(hs:X.s₀.heap.get? a=none\/a∈X.ex)(hn:H a=none)(hL:a≠X.env.locals)(hC:∀ x c,X.env.cells.lookup x=some c->c≠a)(hp:∀ p∈X.pn++pins,p.1≠a)
  (new:gk X.prog X.w (upd H a o) s.heap a o):Inv X pins σ (upd H a o) s:=by
 refine⟨I.ok,I.os,I.bare,⟨I.base.keep,I.base.slot,fun b ob e n U=>?_,I.base.there,fun b xs e=>?_,fun b ob u e=>?_,fun b ps e=>?_⟩,I.loc,I.cell,?_,fun x c e=>?_,fun p J=>?_,fun b u e=>?_,I.len⟩
 ·have hb:b≠a:=by
   rintro rfl
   rcases hs with z | z
   ·rw [z] at e;cases e
   ·exact U z
  rw [eC hb]
  exact I.base.free b ob e n U
 ·have q:=I.base.tups b xs e
  rw [eC (fv q hn)];exact q
 ·have q:=I.base.frzs b ob u e
  rw [eC (fv q hn)];exact q
 ·obtain⟨m,q⟩:=I.base.tbls b ps e
  exact⟨m,by rw [eC (fv q hn)];exact q⟩
 ·rw [eC (Ne.symm hL)];exact I.free
 ·rw [eC (hC x c e)];exact I.freeC x c e
 ·obtain⟨e,n,r⟩:=I.pin p J
  exact⟨e,by rw [eC (hp p J)];exact n,r⟩
 ·by_cases hb:b=a
  ·subst hb;rw [d7] at e;cases e;exact new
  ·rw [eC hb] at e
   exact(I.hok b u e).stay (fun c v _ q=>q) (fun c q=>by rw [eC (fv q hn)];exact q) fun c xs q=>by rw [eC (fv q hn)];exact q
theorem Inv.turnedL {t':Nat}{fp:List Addr}(I:Inv X pins σ H s)(k:∀ b o,b∉fp->s.heap.get? b=some o->h'.get? b=some o)(hf:∀ b∈fp,jY X pins H b):Inv X pins σ H {s with heap:=h',toks:=t'}:=by
 have U:∀ b u,H b=some u->b∉fp:=fun b u e z=>by rw [(hf b z).1] at e;cases e
 refine I.step (g':=s.gens) (d':=s.drawn) (ch:=fp) (fun b hb=>?_) (fun b o _ _ J e _=>k b o J e) (fun b o _ _ J e _=>⟨o.slots,k b o J e⟩) (fun _ _ _ _ n=>n)
  (fun b o J e=>⟨o,k b o J e⟩) (fun _ _ e=>e) (fun _ _ _ e=>e) (fun b ps e=>⟨#[],by rw [e];simp⟩) (fun m hm=>?_) (fun b u e=>?_) I.bare
 ·obtain⟨f0,f1,f2,f3,f4,f5⟩:=hf b hb
  exact⟨f3,f1,f4,f5⟩
 ·obtain⟨o,es,ep,ho,r⟩:=hm
  exact⟨o,es,ep,k _ o (fun z=>(hf _ z).2.1 rfl) ho,r⟩
 ·refine(I.hok b u e).stay (fun c v J q=>k c v ?_ q) (fun _ q=>q) fun _ _ q=>q
  rcases J with z | z
  ·rw [z];exact U b u e
  ·exact U c _ z
end
def uG(x:Str):It:=⟨fun i _=>i < x.cps.size,fun i H v H'=>H'=H/\∃ c,x.cps[i]? =some c/\v= .str ⟨#[c]⟩,fun i _=>i=x.cps.size⟩
theorem zP{P:Program}{w:World}{A:Around}(hh:A.handled=none)(I:Addr)(x:Str)(t:Tok):Walks P w A I [I] [I] x.cps.size (SignAt x) (fun i h=>h.IsStrIter I (strIterType x) x t i):=by
 unfold strIterType
 cases x.cps.all (· < 128)
 ·exact Walks.strWide hh I x t
 ·exact Walks.strAscii hh I x t
theorem D0{x:Str}:["enumerate","zip","dict_itemiterator","dict_reverseitemiterator","odict_iterator","itertools.zip_longest","itertools.pairwise"].contains (strIterType x)=false:=by
 unfold strIterType
 cases x.cps.all (· < 128)<;>decide
theorem FJ{P:Program}{w:World}{K:W.Frag}{tg:Expr}(x:Str)(t:Tok)(it:Addr):Turn P w K tg (uG x) [it] it (fun i h=>h.IsStrIter it (strIterType x) x t i) where
 mem:=by simp
 obj:=fun i h st b hb=>by
  have e:b=it:=by simpa using hb
  subst e
  obtain⟨o,e,c,d⟩:=st
  exact⟨o,e,fun v z=>by rw [d] at z;cases z⟩
 keep:=fun i h h' st k=>by
  obtain⟨o,e,r⟩:=st
  exact⟨o,k it (by simp) o e,r⟩
 item:=by
  intro X U hw hK hc i pins s σ H E I hf st hg
  subst U hw hK
  refine(zP (P:=X.prog) (w:=X.w) (I.ok.hd hc) it x t).item i s _ _ hg st fun v h' tk hv J kk=>?_
  obtain⟨c,u,aa,rfl⟩:=hv
  have I1:Inv X pins σ H {s with heap:=h',toks:=tk}:=I.turnedL kk hf
  obtain⟨o,e,c2,d⟩:=id J
  exact⟨_,rfl,pC (s:={s with heap:=h',toks:=tk}) e c2 d D0 ⟨.str ⟨#[c]⟩,H,I1,⟨u,rfl⟩,⟨rfl,c,aa,rfl⟩,J,fun b hb=>(hf b hb).1⟩⟩
 done:=by
  intro X U hw hK hc i pins s σ H E I hf st hg
  subst U hw hK
  have ab:i=x.cps.size:=hg
  subst ab
  exact(zP (P:=X.prog) (w:=X.w) (I.ok.hd hc) it x t).done s _ _ st fun h' tk kk=>⟨rfl,I.turnedL kk hf⟩
 self:=fun A i s Q E st h=>by
  revert st
  unfold strIterType
  cases x.cps.all (· < 128)
  ·exact fun st=>wpAny_pyIter_striter_wide st h
  ·exact fun st=>wpAny_pyIter_striter_ascii st h
def AM(tl:TE):TI:=fun σ H R=>tl σ H fun v H1=>∃ x,v= .str x/\R (uG x) H1
section
variable {X : Cx} {tg : Expr}
theorem za{l:Expr}{tl:TE}(hl:PE X l tl):PI X tg l (AM tl):=by
 intro pins s σ H R I h
 refine eJ (hl pins s σ H _ I h) fun v s1 ⟨y,H1,J,U,x,e,q⟩=>?_
 subst e
 obtain⟨t,rfl⟩:=U
 refine wpAny_pyIter_strU ?_
 refine⟨s1.heap.objs.size,[s1.heap.objs.size],_,_,H1,rfl,J.kept (t':=s1.toks) fun b o e=>Heap.get?_push_of_some _ e,FJ x t _,⟨_,Heap.get?_push_size _ rfl,rfl,rfl⟩,fun b hb=>?_,q⟩
 have e:b=s1.heap.objs.size:=by simpa using hb
 subst e
 exact J.fpOk (Nat.le_refl _) (J.hok.fresh (Nat.le_refl _))
end
theorem v8{P:Program}{w:World}{A:Around}(hh:A.handled=none)(it:Addr)(x:Str)(t:Tok):
  Draws P w A it [it] x.cps.size (fun i v=>∃ c u,x.cps[i]? =some c/\v= .str ⟨#[c]⟩ u) (fun i h=>h.IsStrIter it (strIterType x) x t i):=by
 unfold strIterType
 cases x.cps.all (· < 128)
 ·exact Draws.strWide hh it x t
 ·exact Draws.strAscii hh it x t
def ow(x:Str):It:=⟨fun i _=>i < x.cps.size,fun i H v H'=>∃ T c,H T=none/\x.cps[i]? =some c/\v= .ref T/\H'=upd H T (.tup [.int i,.str ⟨#[c]⟩]),fun i _=>i=x.cps.size⟩
theorem FZ{P:Program}{w:World}{K:PySem.W.Frag}{elts:List Expr}{k:Nat}{pos:Pos}(x:Str)(t:Tok)(e it:Addr)(hei:e≠it):
  Turn P w K (.Tuple elts k pos) (ow x) [e,it] e (fun i h=>(∃ old,IsEnum h e it i old)/\h.IsStrIter it (strIterType x) x t i) where
 mem:=by simp
 obj:=fun i h st b hb=>by
  obtain⟨⟨old,he⟩,o,ho,c,d⟩:=st
  rcases List.mem_cons.mp hb with rfl | hb
  ·exact⟨_,he,fun v z=>nomatch z⟩
  ·have e:b=it:=by simpa using hb
   subst e
   exact⟨o,ho,fun v z=>by rw [d] at z;cases z⟩
 keep:=fun i h h' st U=>by
  obtain⟨⟨old,he⟩,o,ho,r⟩:=st
  exact⟨⟨old,U e (by simp) _ he⟩,o,U it (by simp) o ho,r⟩
 item:=by
  intro X hP hw hK hc i pins s σ H E I hf st hg
  subst hP hw hK
  have W:=WalksT.enumerateD (v8 (P:=X.prog) (w:=X.w) (A:=X.A.in1) (I.ok.hd hc) it x t) e hei (by simpa using hei) (by simp)
  refine W.item i s _ _ hg st fun T vals h' tk hv hT ht mid U=>⟨_,rfl,?_⟩
  obtain⟨t',y,⟨c,u,hx,rfl⟩,rfl⟩:=hv
  refine W.go elts k pos i T _ _ _ mid fun J aa ab=>?_
  have keep:∀ b o,b∉[e,it]->s.heap.get? b=some o->J.get? b=some o:=fun b o hb q=>ab b o hb (U b o hb q)
  have I1:Inv X pins σ H {s with heap:=J,toks:=tk}:=I.turnedL keep hf
  have hn:H T=none:=I.hok.fresh hT
  have ae:T∉[e,it]:=W.apart i T h' mid
  obtain⟨ot,af,ag,n,ah⟩:=ht
  have I2:Inv X pins σ (upd H T (.tup [.int i,.str ⟨#[c]⟩])) {s with heap:=J,toks:=tk}:=by
   refine I1.track (.inl (Heap.get?_none_of_le (Nat.le_trans I.sz hT))) hn (Nat.ne_of_gt (Nat.lt_of_lt_of_le I.lt hT)) (fun y c' q z=>?_) (fun p hp z=>?_) ?_
   ·obtain⟨v,q'⟩:=I.cell y c' q
    exact absurd (Nat.lt_of_lt_of_le q'.lt (by rw [z];exact hT)) (Nat.lt_irrefl _)
   ·exact absurd (Nat.lt_of_lt_of_le (Heap.lt_size (I.pin p hp).1) (by rw [z];exact hT)) (Nat.lt_irrefl _)
   ·exact⟨by show 2<=sizeLine;decide,[.int i t',.str ⟨#[c]⟩ u],.cons ⟨_,rfl⟩ (.cons ⟨_,rfl⟩ .nil),ot,ab T ot ae af,ag,n,ah⟩
  refine⟨.ref T,_,I2,rfl,⟨T,c,hn,hx,rfl,rfl⟩,aa,fun b hb=>?_⟩
  have ai:b≠T:=fun z=>ae (z ▸ hb)
  rw [eC ai]
  exact(hf b hb).1
 done:=by
  intro X hP hw hK hc i pins s σ H E I hf st hg
  subst hP hw hK
  have aj:i=x.cps.size:=hg
  subst aj
  have W:=WalksT.enumerateD (v8 (P:=X.prog) (w:=X.w) (A:=X.A.in1) (I.ok.hd hc) it x t) e hei (by simpa using hei) (by simp)
  exact W.done s _ _ st fun h' tk U=>⟨rfl,I.turnedL U hf⟩
 self:=fun A i s Q E st h=>by
  obtain⟨⟨old,he⟩,_⟩:=st
  exact wpAny_pyIter_enum he h
def Ff(ta:TA):TI:=fun σ H R=>ta σ H fun vs H1=>∃ x,vs=[.str x]/\R (ow x) H1
section
variable {X : Cx}
theorem HH{elts:List Expr}{k:Nat}{tpos p pos:Pos}{a:Expr}{ta:TA}(hg:Gl X "enumerate")(hm:X.mg "enumerate"=none)(ha:PA X [a] ta)(hs:starEach [a] X.env=[(false,eval a X.env)]:=by rfl):
  PI X (.Tuple elts k tpos) (.Call (.Name "enumerate" p) [a] [] pos) (Ff ta):=by
 intro pins s σ H R I h
 refine Call_ (nc I hg hm boot_enumerate (PyProof.Rows.callWith_type1 (eJ (ha pos pins s σ H _ I h) fun us s1 ⟨vs,H1,J,U,q1⟩=>?_) hs rfl))
 obtain⟨x,e,q⟩:=q1
 subst e
 obtain⟨u,rfl,t,rfl⟩:=vals1 U
 refine call_enumerate_str fun h' he hit hsz hk=>?_
 refine wpAny_pyIter_enum he ?_
 refine⟨s1.heap.objs.size + 1,[s1.heap.objs.size + 1,s1.heap.objs.size],_,_,H1,rfl,J.kept (t':=s1.toks) hk,FZ x t _ _ (Nat.succ_ne_self _),⟨⟨_,he⟩,hit⟩,fun b hb=>?_,q⟩
 rcases List.mem_cons.mp hb with rfl | hb
 ·exact J.fpOk (Nat.le_succ _) (J.hok.fresh (Nat.le_succ _))
 ·have e:b=s1.heap.objs.size:=by simpa using hb
  subst e
  exact J.fpOk (Nat.le_refl _) (J.hok.fresh (Nat.le_refl _))
end
theorem Bc{x:Str}{g:TG}{tb:TS}{D:Ends}{σ:St}{H:Hp}(Pv:Nat->St->Hp->Prop)(h0:Pv 0 σ H)
  (hs:∀ i c σ H T,x.cps[i]? =some c->Pv i σ H->H T=none->g (.ref T) σ (upd H T (.tup [.int i,.str ⟨#[c]⟩])) fun σ2 H2=>tb {D with nx:=Pv (i + 1),ct:=Pv (i + 1),bk:=D.nx} σ2 H2)(hd:∀ σ H,Pv x.cps.size σ H->D.nx σ H):
  ∃ W:Nat->Nat->St->Hp->Prop,(∃ m,W 0 m σ H)/\∀ i m σ H,W i m σ H->
   ((ow x).stop i H/\D.nx σ H)\/((ow x).go i H/\∃ N:St->Hp->Prop,(∀ σ' H',N σ' H'->∃ m',m' < m/\W (i + 1) m' σ' H')/\∀ y H',(ow x).yld i H y H'->g y σ H' fun σ2 H2=>tb {D with nx:=N,ct:=N,bk:=D.nx} σ2 H2):=by
 refine⟨fun i m σ H=>m=x.cps.size - i/\i<=x.cps.size/\Pv i σ H,⟨x.cps.size,by simp,Nat.zero_le _,h0⟩,?_⟩
 rintro i m σ H ⟨rfl,hi,p⟩
 by_cases I:i < x.cps.size
 ·refine .inr ⟨I,Pv (i + 1),fun σ' H' J=>⟨x.cps.size - (i + 1),by(clear hi;omega),rfl,I,J⟩,fun y H' q=>?_⟩
  obtain⟨T,c,U,hc,e,e2⟩:=q
  subst e e2
  exact hs i c σ _ T hc p U
 ·have e:i=x.cps.size:=by omega
  subst e
  exact .inl ⟨rfl,hd σ H p⟩
open PySem
def jC(env:Env):List (Str×NameKind)->List (Str×Addr)->List (Str×Addr)
 | [],cs=>cs
 | (n,k)::r,cs=>jC env r (if (k == NameKind.free)=true then (n,(env.cells.lookup n).getD 0)::cs else cs)
theorem Hf{scope:Scope}{env:Env}(h:∀ x∈scope.names,x.2= .free->∃ c,env.cells.lookup x.1=some c):closureFor scope env=pure (jC env scope.names []):=by
 unfold closureFor
 have go:∀(names:List (Str×NameKind)) (cs:List (Str×Addr)),(∀ x∈names,x.2= .free->∃ c,env.cells.lookup x.1=some c)->
   (forIn names cs fun(x:Str×NameKind) (r:List (Str×Addr))=>(match x with
    | (name,kind)=>if (kind == NameKind.free)=true then do let a<-cellOf env name;pure (ForInStep.yield ((name,a)::r)) else pure (ForInStep.yield r):Sem (ForInStep (List (Str×Addr)))))=pure (jC env names cs):=by
  intro names
  induction names with
  | nil=>intro cs _;rfl
  | cons x r I=>
   intro cs h
   obtain⟨n,k⟩:=x
   rw [List.forIn_cons]
   have J:=fun y hy=>h y (List.mem_cons_of_mem _ hy)
   cases hk:(k == NameKind.free) with
   | false=>
    simp only [hk,Bool.false_eq_true,if_false]
    show(pure (ForInStep.yield cs) >>= _:Sem _)=_
    simp only [pure_bind]
    rw [I cs J]
    simp only [jC,hk,Bool.false_eq_true,if_false]
   | true=>
    obtain⟨c,U⟩:=h (n,k) List.mem_cons_self (by simpa using hk)
    have e:cellOf env n=pure c:=by unfold cellOf;rw [show env.cells.lookup n=some c from U]
    simp only [hk,if_true,e,pure_bind]
    rw [I _ J]
    simp only [jC,hk,if_true]
    rw [show env.cells.lookup n=some c from U]
    rfl
 exact congrArg (fun m:Sem (List (Str×Addr))=>m >>= fun r=>pure r) (go scope.names [] h)
theorem wM{env:Env}{x:Str}{c:Addr}:∀{names:List (Str×NameKind)} {cs:List (Str×Addr)},(jC env names cs).lookup x=some c->cs.lookup x=some c\/((x,NameKind.free)∈names/\c=(env.cells.lookup x).getD 0)
 | [],_,h=> .inl h
 | (n,k)::r,cs,h=>by
  rcases wM (names:=r) h with q | ⟨q,e⟩
  ·cases hk:(k == NameKind.free) with
   | false=>rw [hk] at q;exact .inl q
   | true=>
    rw [hk,if_pos rfl] at q
    have I:k=NameKind.free:=by simpa using hk
    subst I
    cases hx:x == n with
    | true=>
     rw [List.lookup_cons,hx] at q
     have e:x=n:=by simpa using hx
     subst e
     exact .inr ⟨List.mem_cons_self,(Option.some.inj q).symm⟩
    | false=>
     rw [List.lookup_cons,hx] at q
     exact .inl q
  ·exact .inr ⟨List.mem_cons_of_mem _ q,e⟩
theorem qe{env:Env}{x:Str}:∀{names:List (Str×NameKind)} {cs:List (Str×Addr)},(x,NameKind.free)∈names\/(∃ c,cs.lookup x=some c)->∃ c,(jC env names cs).lookup x=some c
 | [],_,h=>by
  rcases h with h | h
  ·cases h
  ·exact h
 | (n,k)::r,cs,h=>by
  refine qe (names:=r) ?_
  rcases h with h | ⟨c,h⟩
  ·rcases List.mem_cons.mp h with e | e
   ·cases e
    refine .inr ⟨(env.cells.lookup x).getD 0,?_⟩
    rw [if_pos (by rfl),List.lookup_cons]
    simp
   ·exact .inl e
  ·refine .inr ?_
   cases hk:(k == NameKind.free) with
   | false=>exact⟨c,h⟩
   | true=>
    rw [if_pos rfl,List.lookup_cons]
    cases hx:x == n with
    | true=>exact⟨_,rfl⟩
    | false=>exact⟨c,h⟩
theorem xX{env:Env}(hf:env.scope.kind= .function):∀{names:List (Str×NameKind)} {x:Str},names.lookup x=some .free->env.kindOf x=some .cell->
  (names.map fun(n,k)=>if (k == NameKind.free && env.scope.kind == .function && env.kindOf n == some .cell) then (n,NameKind.cell) else (n,k)).lookup x=some .cell
 | [],_,h,_=>by simp at h
 | (n,k)::r,x,h,J=>by
  have U:=@xX env hf r x
  show List.lookup x ((if (k == NameKind.free && env.scope.kind == .function && env.kindOf n == some .cell)=true then (n,NameKind.cell) else (n,k))::_)=_
  cases hx:x == n with
  | true=>
   have e:x=n:=by simpa using hx
   subst e
   simp only [List.lookup_cons,hx] at h
   cases h
   rw [if_pos (by rw [hf,J];rfl)]
   simp [List.lookup_cons]
  | false=>
   simp only [List.lookup_cons,hx] at h
   by_cases I:(k == NameKind.free && env.scope.kind == .function && env.kindOf n == some .cell)=true
   ·rw [if_pos I];simp only [List.lookup_cons,hx];exact U h J
   ·rw [if_neg I];simp only [List.lookup_cons,hx];exact U h J
theorem tR{env:Env}:∀{names:List (Str×NameKind)} {x:Str} {k':NameKind},(∀ y∈names,y.2≠ .cell)->(k'= .cell\/k'= .free)->
  (names.map fun(n,k)=>if (k == NameKind.free && env.scope.kind == .function && env.kindOf n == some .cell) then (n,NameKind.cell) else (n,k)).lookup x=some k'->(x,NameKind.free)∈names
 | [],_,_,_,_,h=>by simp at h
 | (n,k)::r,x,k',hn,hk,h=>by
  have ih:=@tR env r x k' (fun y hy=>hn y (List.mem_cons_of_mem _ hy)) hk
  have h':List.lookup x ((if (k == NameKind.free && env.scope.kind == .function && env.kindOf n == some .cell)=true then (n,NameKind.cell) else (n,k))::r.map fun(n,k)=>if (k == NameKind.free && env.scope.kind == .function && env.kindOf n == some .cell) then (n,NameKind.cell) else (n,k))=some k':=h
  have J:k≠ .cell:=hn (n,k) List.mem_cons_self
  by_cases I:(k == NameKind.free && env.scope.kind == .function && env.kindOf n == some .cell)=true
  ·rw [if_pos I,List.lookup_cons] at h'
   have U:k= .free:=by
    rw [Bool.and_eq_true,Bool.and_eq_true] at I
    simpa using I.1.1
   cases hx:x == n with
   | true=>
    have e:x=n:=by simpa using hx
    subst e
    rw [U]
    exact List.mem_cons_self
   | false=>rw [hx] at h';exact List.mem_cons_of_mem _ (ih h')
  ·rw [if_neg I,List.lookup_cons] at h'
   cases hx:x == n with
   | true=>
    rw [hx] at h'
    have e:x=n:=by simpa using hx
    subst e
    have e2:k=k':=Option.some.inj h'
    subst e2
    rcases hk with z | z
    ·exact absurd z J
    ·rw [z];exact List.mem_cons_self
   | false=>rw [hx] at h';exact List.mem_cons_of_mem _ (ih h')
section
variable {prog : Program} {w : World} {A : Around} {R : Result -> Shared -> Prop} {s : Shared}
theorem BR{elt target iter:Expr}{ifs:List Expr}{scope:Scope}{pos:Pos}{it acc:Value}{env:Env}(I:Nat->Shared->Prop)
  (turn:∀ n s,I n s->wpAny (model prog w) A (pyNext it) (fun r s₁=>match r with
   | none=>R (.ok .next) s₁
   | some v=>wpAny (model prog w) A (letOwnedTupleGo target it v) (fun _ s₀=>wpAny (model prog w) A (assign target env v) (fun _ s₂=>
     wpAny (model prog w) A (forIn ifs true fun c r=>if r=true then do let ok<-isTrue c env (eval c env);pure (ForInStep.yield ok) else pure (ForInStep.yield r)) (fun ok s₃=>
      if ok=true then wpAny (model prog w) A (eval elt env) (fun x s₄=>
       wpAny (model prog w) A (call (.builtin "list.append") [acc,x]) (fun _ s₅=>∃ m,m < n/\I m s₅) (fun _ _=>False) s₄) (fun _ _=>False) s₃
      else ∃ m,m < n/\I m s₃) (fun _ _=>False) s₂) (fun _ _=>False) s₀) (fun _ _=>False) s₁) (fun _ _=>False) s)
  (n:Nat)(h:I n s):
  codeAny (model prog w) A (.compLoop (.ListComp elt [⟨target,iter,ifs,0⟩] scope pos) 0 it acc env) R s:=by
 refine codeAny_loop rfl I (fun n s hI=>?_) n h
 show wpAny _ A ((compTurn (.ListComp elt [⟨target,iter,ifs,0⟩] scope pos) 0 it acc env).onRaise (fun x=>do noteFrame x env;theTreesLotGoes x)) _ _ s
 refine wpAny_noted ?_
 rw [compTurn_list]
 refine wpAny_bind (wpAny_standAt (wpAny_bind (wpAny_mono (turn n s hI) (fun r s₁ J=>?_) fun _ _ h'=>h'.elim)))
 cases r with
 | none=>exact wpAny_pure J
 | some v=>
  refine wpAny_bind (wpAny_mono J (fun _ s₀ h₀=>?_) fun _ _ h'=>h'.elim)
  refine wpAny_bind (wpAny_mono h₀ (fun _ s₂ aa=>wpAny_bind (wpAny_mono aa (fun ok s₃ U=>?_) fun _ _ h'=>h'.elim)) fun _ _ h'=>h'.elim)
  cases ok with
  | false=>exact wpAny_pure ⟨rfl,U⟩
  | true=>
   exact wpAny_bind (wpAny_bind (wpAny_mono U (fun x s₄ ab=>wpAny_bind (wpAny_mono ab (fun _ s₅ ae=>wpAny_pure (wpAny_pure ⟨rfl,ae⟩)) fun _ _ h'=>h'.elim)) fun _ _ h'=>h'.elim))
end
def gS(X:Cx)(scope:Scope)(N:List Str)(s₀:Shared)(H₀:Hp)(ex:List Addr):Cx:=
 {X with N:=N,s₀:=s₀,H₀:=H₀,env:=compEnvC scope (jC X.env scope.names []) s₀.heap.objs.size X.env,outer:=X.stack,ex:=ex,fn:=fun _=>false,pn:=[],xe:=fun _ _=>False}
section
variable {X : Cx} {c : Expr} {t : TT}
def eQ(X:Cx)(ifs:List Expr)(t:TT):Prop:=∀(pins:List (Addr×Obj)) (s:Shared) (σ:St) (H:Hp) (Q:Bool->Hp->Prop),Inv X pins σ H s->t σ H Q->
 wpAny (model X.prog X.w) X.A (forIn ifs true fun c r=>if r=true then do let ok<-isTrue c X.env (eval c X.env);pure (ForInStep.yield ok) else pure (ForInStep.yield r)) (TP X pins σ Q) X.xe s
def uH:TT:=fun _ H Q=>Q true H
theorem iG:eQ X [] uH:=fun _ _ _ H _ I h=>wpAny_tests_nil ⟨H,I,h⟩
theorem lX(h:PT X c t):eQ X [c] t:=fun pins s σ H Q I J=>wpAny_tests_one (h pins s σ H Q I J)
end
def nF(own:Nat)(g:TG):Prop:=∀ x σ H Q J,g x σ H Q->(∀ I H',Q I H'->I.length=σ.length->(∀ j v,own<=j->σ[j]? =some (some v)->I[j]? =some (some v))->J I H')->g x σ H J
def qB(own:Nat)(g:jQ):Prop:=∀ xs σ H Q J,g xs σ H Q->(∀ I H',Q I H'->I.length=σ.length->(∀ j v,own<=j->σ[j]? =some (some v)->I[j]? =some (some v))->J I H')->g xs σ H J
theorem gD{own i:Nat}(hi:i < own):nF own (jT i):=fun x σ H Q I h k=>k _ H h (by simp) fun j v J e=>by rw [List.getElem?_set_ne (by(clear e;omega))];exact e
theorem pD{own:Nat}:qB own yB:=fun xs σ H Q I ⟨e,h⟩ k=>⟨e,k σ H h rfl fun _ _ _ e=>e⟩
theorem jD{own:Nat}{t:TG}{u:jQ}(h1:nF own t)(h2:qB own u):qB own (vH t u):=fun xs σ H Q Q' ⟨v,r,e,h⟩ k=>
 ⟨v,r,e,h1 v σ H _ _ h fun J H' q l1 k1=>h2 r J H' _ _ q fun I U q2 l2 k2=>k I U q2 (l2.trans l1) fun j w hj e=>k2 j w hj (k1 j w hj e)⟩
theorem oV{own n:Nat}{K:W.Frag}{t:jQ}(h:qB own t):nF own (zK K n t):=fun x σ H Q I ⟨a,xs,e,J,U,q⟩ k=>⟨a,xs,e,J,U,h xs σ H Q I q k⟩
def kh(own:Nat)(caps:List Nat)(σ:St):St:=List.replicate own none++caps.map fun j=>(σ[j]?).join
def nK(J:It)(g:TG)(tc:TT)(te:TE)(σ0:St)(Q:VK)(H:Hp):Prop:=
  ∃ W:Nat->Nat->List V->Hp->Prop,(∃ m,W 0 m [] H)/\∀ i m ys H,W i m ys H->
   (J.stop i H/\ys.length<=sizeLine/\∀ p,H p=none->Q (.ref p) (upd H p (.lst ys)))\/
   (J.go i H/\ys.length < sizeLine/\∀ x H',J.yld i H x H'->g x σ0 H' fun I H2=>tc I H2 fun b H3=>
    if b=true then te I H3 fun y H4=>∃ U,U < m/\W (i + 1) U (ys++[y]) H4 else ∃ U,U < m/\W (i + 1) U ys H3)
def sY(own:Nat)(caps:List Nat)(wi:TI)(g:TG)(tc:TT)(te:TE):TE:=fun σ H Q=>wi σ H fun J H1=>nK J g tc te (kh own caps σ) Q H1
theorem xi{a:Addr}{o:Obj}:∀ p∈[(a,o)],p.1=a:=fun p I=>by rw [List.mem_singleton.mp I]
section
variable {X : Cx}
theorem BJ{scope:Scope}{N:List Str}{pins:List (Addr×Obj)}{σ σ':St}{H2 He:Hp}{s2 s1:Shared}{hp h':Heap}{fp:List Addr}{ys:List V}{its:List Value}{na:Nat}{lo:Obj}
  (I2:Inv X pins σ H2 s2)(f2:∀ b∈fp,jY X pins H2 b)(ehp:hp=s2.heap.push lo)
  (J:Inv (gS X scope N {s2 with heap:=hp} H2 (s2.heap.objs.size::fp)) [(s2.heap.objs.size,{cls:= .type "list",data:= .seq its.toArray na})] σ' He s1)
  (hsb:Heap.SameBut hp.objs.size s1.heap h')(hv:Vals ys its)(hz:ys.length<=sizeLine):
  Inv X pins σ (upd He s2.heap.objs.size (.lst ys)) {s1 with heap:=h'}:=by
 have hC:hp.objs.size=s2.heap.objs.size + 1:=by rw [ehp,Heap.size_push]
 have below:∀{b:Addr} {o:Obj},s2.heap.get? b=some o->b≠hp.objs.size/\b≠s2.heap.objs.size:=fun{b o} e=>by
  have q:=Heap.lt_size e
  exact⟨by rw [hC];exact Nat.ne_of_lt (Nat.lt_succ_of_lt q),Nat.ne_of_lt q⟩
 have up:∀{b:Addr} {o:Obj},s2.heap.get? b=some o->hp.get? b=some o:=fun e=>by rw [ehp];exact Heap.get?_push_of_some _ e
 have un:Un (fT X.stack) (s2.heap.objs.size::fp) H2 He hp s1.heap:=J.base
 have nD:∀{b:Addr} {o:Obj},s2.heap.get? b=some o->b∉fp->b∉s2.heap.objs.size::fp:=fun e U z=>(List.mem_cons.mp z).elim (below e).2 U
 have I:He hp.objs.size=none:=J.free
 have u2:Un (fT X.stack) fp H2 He s2.heap h':=by
  refine⟨fun b o e n hb U=>?_,fun b o e n hb U=>?_,fun b o e n U=>?_,fun b o e U=>?_,un.tups,un.frzs,un.tbls⟩
  ·exact(hsb.2 b (below e).1).trans (un.keep b o (up e) n hb (nD e U))
  ·obtain⟨sl,q⟩:=un.slot b o (up e) n hb (nD e U)
   exact⟨sl,(hsb.2 b (below e).1).trans q⟩
  ·exact un.free b o (up e) n (nD e U)
  ·obtain⟨o',q⟩:=un.there b o (up e) (nD e U)
   exact⟨o',(hsb.2 b (below e).1).trans q⟩
 have hok:gi X.prog X.w He h':=fun b u e=>by
  refine(J.hok b u e).stay (fun c v hc q=>(hsb.2 c ?_).trans q) (fun _ q=>q) fun _ _ q=>q
  rintro rfl
  rcases hc with z | z
  ·rw [<-z,I] at e;cases e
  ·rw [I] at z;cases z
 have I3:Inv X pins σ He {s1 with heap:=h'}:=I2.call' (s':={s1 with heap:=h'}) (ch:=fp) J.os u2 hok J.bare fun b hb=>by
  obtain⟨f0,f1,f3,f4,f5,f6⟩:=f2 b hb
  exact⟨f4,f1,f5,f6⟩
 obtain⟨pe,pn,_⟩:=J.pin _ (List.mem_append_right _ List.mem_cons_self)
 refine I3.track (.inl (Heap.get?_none_of_le I2.sz)) pn (Nat.ne_of_gt I2.lt) (fun y c' q z=>?_) (fun p aa z=>?_) ?_
 ·obtain⟨v,q'⟩:=I2.cell y c' q
  exact absurd q'.lt (by rw [z];exact Nat.lt_irrefl _)
 ·exact absurd (Heap.lt_size (I2.pin p aa).1) (by rw [z];exact Nat.lt_irrefl _)
 ·exact⟨hz,its,na,hv,(hsb.2 _ (by rw [hC];exact Nat.ne_of_lt (Nat.lt_succ_self _))).trans pe⟩
theorem xQ{elt target iter:Expr}{ifs:List Expr}{scope sc0:Scope}{pos:Pos}{N N0:List Str}{own:Nat}{caps:List Nat}{wi:TI}{g:TG}{tc:TT}{te:TE}
  (hcalm:X.calm=true)(hi:PI X target iter wi)
  (hg:∀ s₀ H₀ ex,PG (gS X scope N s₀ H₀ ex) target g)(hc:∀ s₀ H₀ ex,eQ (gS X scope N s₀ H₀ ex) ifs tc)(he:∀ s₀ H₀ ex,PE (gS X scope N s₀ H₀ ex) elt te)(hk:nF own g)
  (hX:X.N=N0)(hsc:X.env.scope=sc0)
  (hcell:∀ y∈scope.names,y.2≠ .cell)(hkind:scope.kind= .function)(hnames:∀ y∈scope.names,y.2= .local->scope.names.lookup y.1=some .local)
  (hfree:∀ y∈scope.names,y.2= .free->sc0.names.lookup y.1=some .cell)(hN:N.length=own + caps.length)
  (hcap:∀ p∈caps.zip (N.drop own),N0[p.1]? =some p.2/\scope.names.lookup p.2=some .free)
  (hs:∀ x,foldedSetIterable iter X.env x=pure x)
  {use:Option (Value->Sem Unit)}{Qf:Value->Shared->Prop}{pins:List (Addr×Obj)}{s:Shared}{σ:St}{H:Hp}{Q:VK}{cpos:Pos}(I:Inv X pins σ H s)(h:sY own caps wi g tc te σ H Q)
  (hR:∀(D C:Addr) (s':Shared) (He:Hp) (ys:List V) (m:Str->Option Value) (f:Flow),s'.heap.Ns C m->(∀ h',Heap.SameBut C s'.heap h'->Inv X pins σ (upd He D (.lst ys)) {s' with heap:=h'})->
   jY X pins (upd He D (.lst ys)) C->Q (.ref D) (upd He D (.lst ys))->compPost (model X.prog X.w) X.A X.xe use Qf (.ref D) C (.ok f) s'):
  wpAny (model X.prog X.w) X.A (comprehension (.ListComp elt [⟨target,iter,ifs,0⟩] scope pos) scope X.env cpos (newList []) false (eval iter X.env) use) Qf X.xe s:=by
 have ab:∀ y∈scope.names,y.2= .free->X.env.kindOf y.1=some .cell:=fun y hy e=>by
  show X.env.scope.names.lookup y.1=some .cell
  rw [hsc];exact hfree y hy e
 refine wpAny_comprehension_free (use:=use) rfl hs (Hf fun y hy e=>I.ok.has y.1 (.inl (ab y hy e))) hkind hnames ?_
 refine eJ (hi pins s σ H _ I h) fun v s1 h1=>eJ h1 fun aY s2 h2=>?_
 obtain⟨it,fp,tn,J,H2,e,I2,T,aC,f2,W,⟨m0,w0⟩,turn⟩:=h2
 subst e
 refine wpAny_newObj_type (wpAny_newFunctionEnv hcell (by intro y hy;simp at hy) (fun ak af ag=>?_) hkind)
 dsimp only at af ag ⊢
 generalize ah:s2.heap.push {cls:= .type "list",dict:=none,data:= .seq ([]:List Value).toArray}=hp at af ag ⊢
 have hC:hp.objs.size=s2.heap.objs.size + 1:=by rw [<-ah,Heap.size_push]
 have ai:s2.heap.objs.size≠hp.objs.size:=by rw [hC];exact Nat.ne_of_lt (Nat.lt_succ_self _)
 have av:hp.get? s2.heap.objs.size=some {cls:= .type "list",data:= .seq ([]:List Value).toArray}:=by rw [<-ah];exact Heap.get?_push_size _ rfl
 have up:∀{b:Addr} {o:Obj},s2.heap.get? b=some o->hp.get? b=some o:=fun e=>by rw [<-ah];exact Heap.get?_push_of_some _ e
 have up1:∀{b:Addr} {o:Obj},hp.get? b=some o->ak.get? b=some o:=fun{b o} e=>ag.extBut b o (Nat.ne_of_lt (Heap.lt_size e)) (Heap.get?_push_of_some _ e)
 have aB:∀{b:Addr} {o:Obj},s2.heap.get? b=some o->b < s2.heap.objs.size:=fun e=>Heap.lt_size e
 have aQ:∀ b∈fp,∃ o,s2.heap.get? b=some o:=fun b hb=>by obtain⟨o,e,_⟩:=T.obj 0 _ aC b hb;exact⟨o,e⟩
 have aw:∀ b∈fp,b≠hp.objs.size/\b≠s2.heap.objs.size:=fun b hb=>by
  obtain⟨o,e⟩:=aQ b hb
  have q:=aB e
  exact⟨by rw [hC];exact Nat.ne_of_lt (Nat.lt_succ_of_lt q),Nat.ne_of_lt q⟩
 have aa:∀{x:Str} {c:Addr},(jC X.env scope.names []).lookup x=some c->X.env.cells.lookup x=some c/\X.env.kindOf x=some .cell:=fun{x c} q=>by
  rcases wM q with z | ⟨z,e⟩
  ·cases z
  ·have k:=ab _ z rfl
   obtain⟨c',ao⟩:=I2.ok.has x (.inl k)
   rw [ao] at e
   have e':c=c':=e
   subst e'
   exact⟨ao,k⟩
 have aj:∀{x:Str} {c:Addr},(jC X.env scope.names []).lookup x=some c->c < s2.heap.objs.size:=fun q=>by
  obtain⟨v,z⟩:=I2.cell _ _ (aa q).1
  exact z.lt
 have aq:∀ b∈fT X.stack,b < s2.heap.objs.size:=fun b hb=>by
  obtain⟨_,o,ho,_⟩:=I2.stack.mem hb
  exact Heap.lt_size ho
 have aR:(gS X scope N {s2 with heap:=hp} H2 (s2.heap.objs.size::fp)).Ok:=by
  refine⟨I2.ok.mod,hkind,I2.ok.glob,I2.ok.blt,Nat.le_refl _,fun x y c q1 q2=>I2.ok.inj x y c (aa q1).1 (aa q2).1,fun x hx=>?_,(fun x c z=>by cases z),I2.ok.hd,I2.ok.frames,.inl rfl,fun b hb=>?_,fun b o q=>⟨up (I2.bs b o q).1,(I2.bs b o q).2⟩,?_,fun b o q hb=>?_,fun b hb=>?_,?_,fun b hb=>I2.stkFree b hb⟩
  ·rcases hx with hx | hx
   ·exact qe (.inl (tR (env:=X.env) hcell (.inl rfl) hx))
   ·exact qe (.inl (tR (env:=X.env) hcell (.inr rfl) hx))
  ·rcases List.mem_cons.mp hb with rfl | hb
   ·exact⟨by show s2.heap.objs.size≠hp.objs.size;exact ai,fun x c q=>Nat.ne_of_lt (aj q)⟩
   ·exact⟨(aw b hb).1,fun x c q=>(f2 b hb).2.2.2.2.1 x c (aa q).1⟩
  ·show X.base.objs.size<=hp.objs.size
   rw [hC]
   exact Nat.le_succ_of_le (Nat.le_trans I2.ok.bsz I2.sz)
  ·rcases List.mem_cons.mp hb with rfl | hb
   ·exact Nat.lt_irrefl _ (aB (I2.bs _ o q).1)
   ·rcases(f2 b hb).2.2.2.1 with z | z
    ·exact I2.ok.noex b o q z
    ·exact Nat.lt_irrefl _ (Nat.lt_of_lt_of_le (Heap.lt_size (I2.ok.bs b o q).1) z)
  ·intro z
   rcases List.mem_cons.mp hb with rfl | hb
   ·exact Nat.lt_irrefl _ (aq _ z)
   ·rcases List.mem_cons.mp (I2.stkSub b z) with q | q
    ·exact(f2 b hb).2.1 q
    ·exact(f2 b hb).2.2.1 q
  ·show hp.FunFrames X.base X.stack
   exact I2.stack.of_keeps fun b o q _=>⟨o,up q,rfl⟩
 have len0:(kh own caps σ).length=N.length:=by unfold kh;rw [List.length_append,List.length_replicate,List.length_map,hN]
 have I0:Inv (gS X scope N {s2 with heap:=hp} H2 (s2.heap.objs.size::fp)) [] (kh own caps σ) H2 {s2 with heap:=ak,toks:=s2.toks + ([]:List (Str×Value)).length}:=by
  refine⟨aR,rfl,I2.bare,Un.kept fun b o q=>up1 q,⟨_,af,fun i x v e1 e2 e3=>?_⟩,fun x c q=>?_,I2.hok.fresh (by show s2.heap.objs.size<=hp.objs.size;rw [hC];exact Nat.le_succ _),fun x c q=>I2.freeC x c (aa q).1,fun p ae=>absurd (show p∈([]:List (Addr×Obj)) from ae) (by simp),I2.hok.kept fun b o q=>up1 (up q),len0⟩
  ·
   unfold kh at e2
   by_cases aJ:i < own
   ·rw [List.getElem?_append_left (by simpa using aJ),List.getElem?_replicate] at e2
    split at e2<;>cases e2
   ·rw [List.getElem?_append_right (by simpa using aJ),List.length_replicate,List.getElem?_map] at e2
    cases ec:caps[i - own]? with
    | none=>rw [ec] at e2;cases e2
    | some j=>
     rw [ec] at e2
     have ar:(σ[j]?).join=some v:=Option.some.inj e2
     have aK:σ[j]? =some (some v):=by
      cases q:σ[j]? with
      | none=>rw [q] at ar;cases ar
      | some z=>rw [q] at ar;exact congrArg some ar
     have hx:(N.drop own)[i - own]? =some x:=by
      rw [List.getElem?_drop]
      have:own + (i - own)=i:=by(clear aK ar ec e2 e1 len0 av ai hC ah hN hkind hsc hX hcalm;omega)
      rw [this];exact e1
     have hz:(caps.zip (N.drop own))[i - own]? =some (j,x):=by
      rw [List.getElem?_zip_eq_some];exact⟨ec,hx⟩
     obtain⟨hj,hf⟩:=hcap _ (List.mem_of_getElem? hz)
     rw [<-hX] at hj
     have aL:(x,NameKind.free)∈scope.names:=PySem.mem_of_lookup hf
     have aD:=ab _ aL rfl
     obtain⟨m,hn,hl⟩:=I2.loc
     obtain⟨u,ru,lk⟩:=hl j x v hj aK (.inr (.inl aD))
     refine⟨u,ru,.inr ⟨.inl (xX I2.ok.kind hf aD),?_⟩⟩
     obtain⟨c,ao⟩:=qe (env:=X.env) (cs:=[]) (.inl aL)
     have aS:=(aa ao).1
     rcases lk with ⟨z,_⟩ | ⟨_,c2,aM,ax⟩
     ·rw [aD] at z;cases z
     ·rw [aS] at aM
      cases aM
      obtain⟨oc,aE,aF⟩:=ax
      exact⟨c,ao,oc,up1 (up aE),aF⟩
  ·obtain⟨v,oc,aE,aF⟩:=I2.cell x c (aa q).1
   exact⟨v,oc,up1 (up aE),aF⟩
 have aN:∀{ay:St} {H':Hp} {s':Shared} {U:List Value} {na:Nat},Inv (gS X scope N {s2 with heap:=hp} H2 (s2.heap.objs.size::fp)) [] ay H' s'->H' s2.heap.objs.size=none->
   s'.heap.get? s2.heap.objs.size=some {cls:= .type "list",data:= .seq U.toArray na}->
   Inv (gS X scope N {s2 with heap:=hp} H2 (s2.heap.objs.size::fp)) [(s2.heap.objs.size,{cls:= .type "list",data:= .seq U.toArray na})] ay H' s':=fun{ay H' s' U na} I' hn hd=>I'.pins_of fun p ae=>by
  have e:p=(s2.heap.objs.size,{cls:= .type "list",data:= .seq U.toArray na}):=by simpa using ae
  subst e
  exact⟨hd,hn,ai,fun z=>Nat.lt_irrefl _ (aq _ z),fun v z=>nomatch z⟩
 have aO:∀{H':Hp} {pl:List (Addr×Obj)},(∀ b∈fp,H' b=none)->(∀ p∈pl,p.1=s2.heap.objs.size)->∀ b∈fp,jY (gS X scope N {s2 with heap:=hp} H2 (s2.heap.objs.size::fp)) pl H' b:=fun hn aT b hb=>by
  refine⟨hn b hb,(aw b hb).1,fun z=>?_,.inl (List.mem_cons_of_mem _ hb),fun x c q=>(f2 b hb).2.2.2.2.1 x c (aa q).1,fun p ae z=>?_⟩
  ·rcases List.mem_cons.mp (I2.stkSub b z) with q | q
   ·exact(f2 b hb).2.1 q
   ·exact(f2 b hb).2.2.1 q
  ·exact(aw b hb).2 (z.symm.trans (aT p ae))
 have loop:∀ au:Shared,au={s2 with heap:=ak,toks:=s2.toks + ([]:List (Str×Value)).length}->
   codeAny (model X.prog X.w) X.A (.compLoop (.ListComp elt [⟨target,iter,ifs,0⟩] scope pos) 0 (.ref it) (.ref s2.heap.objs.size) (compEnvC scope (jC X.env scope.names []) hp.objs.size X.env))
    (compPost (model X.prog X.w) X.A X.xe use Qf (.ref s2.heap.objs.size) hp.objs.size) au:=by
  rintro au rfl
  refine BR (fun n s'=>∃ i ys U na H',Inv (gS X scope N {s2 with heap:=hp} H2 (s2.heap.objs.size::fp)) [] (kh own caps σ) H' s'/\tn i s'.heap/\(∀ b∈fp,H' b=none)/\H' s2.heap.objs.size=none/\
   Vals ys U/\s'.heap.get? s2.heap.objs.size=some {cls:= .type "list",data:= .seq U.toArray na}/\W i n ys H') ?_ m0
   ⟨0,[],[],0,H2,I0,T.keep _ _ _ aC fun b _ o q=>up1 (up q),fun b hb=>(f2 b hb).1,I2.hok.fresh (Nat.le_refl _),.nil,up1 av,w0⟩
  rintro n s3 ⟨i,ys,U,na,H3,I3,aP,aU,aG,az,aH,w3⟩
  have Ip:=aN I3 aG aH
  have f3:=aO (H':=H3) (pl:=[(s2.heap.objs.size,{cls:= .type "list",data:= .seq U.toArray na})]) aU xi
  rcases turn i n ys H3 w3 with ⟨stop,hz,fin⟩ | ⟨go,hz,step⟩
  ·refine eJ (T.done (gS X scope N {s2 with heap:=hp} H2 (s2.heap.objs.size::fp)) rfl rfl rfl hcalm i _ s3 _ H3 _ Ip f3 aP stop) fun r s4 ⟨hr,I4⟩=>?_
   subst hr
   obtain⟨m,hn,_⟩:=I4.loc
   exact hR _ _ _ _ ys m _ hn (fun h' aV=>BJ I2 f2 ah.symm I4 aV az hz) (I2.fpOk (by rw [hC];exact Nat.le_succ _) (by rw [eC (Ne.symm ai)];exact I4.free)) (fin _ (I4.pin _ (List.mem_append_right _ List.mem_cons_self)).2.1)
  ·refine eJ (T.item (gS X scope N {s2 with heap:=hp} H2 (s2.heap.objs.size::fp)) rfl rfl rfl hcalm i _ s3 _ H3 _ Ip f3 aP go) fun r s4 ⟨u,hr,h4⟩=>?_
   subst hr
   refine eJ h4 fun _ s5 ⟨x,H5,I5,r5,y5,aI,aW⟩=>?_
   have aX:=I5.pinned (aO (H':=H5) (pl:=[(s2.heap.objs.size,{cls:= .type "list",data:= .seq U.toArray na})]) aW xi) (T.obj _ _ aI)
   refine eJ (hg _ _ _ _ s5 _ H5 x u _ aX r5 (hk x _ H5 _ _ (step x H5 y5) fun ay H' q l k=>(⟨q,l,k⟩:_/\_/\_))) fun _ s6 ⟨aA,H6,I6,q6,l6,k6⟩=>?_
   refine eJ (hc _ _ _ _ s6 aA H6 _ I6 q6) fun ok s7 ⟨H7,I7,q7⟩=>?_
   have weak:∀{H':Hp} {s':Shared} {pl:List (Addr×Obj)},Inv (gS X scope N {s2 with heap:=hp} H2 (s2.heap.objs.size::fp)) pl aA H' s'->Inv (gS X scope N {s2 with heap:=hp} H2 (s2.heap.objs.size::fp)) pl (kh own caps σ) H' s':=fun I'=>
    I'.weak l6.symm fun j v e=>k6 j v (by
     by_cases hj:j < own
     ·unfold kh at e
      rw [List.getElem?_append_left (by simpa using hj),List.getElem?_replicate] at e
      split at e<;>cases e
     ·(clear e l6 hz aH aG len0 av ai hC ah hN hkind hsc hX hcalm;omega)) e
   have after:∀{H':Hp} {s':Shared},Inv (gS X scope N {s2 with heap:=hp} H2 (s2.heap.objs.size::fp)) ([(s2.heap.objs.size,{cls:= .type "list",data:= .seq U.toArray na})]++pT fp s5.heap) aA H' s'->
     tn (i + 1) s'.heap/\(∀ b∈fp,H' b=none)/\H' s2.heap.objs.size=none/\s'.heap.get? s2.heap.objs.size=some {cls:= .type "list",data:= .seq U.toArray na}:=fun I'=>by
    refine⟨T.keep _ _ _ aI fun b hb o e=>(I'.pin (b,o) (List.mem_append_right _ (List.mem_append_right _ (rh hb e)))).1,fun b hb=>?_,?_,?_⟩
    ·obtain⟨o,e,d⟩:=T.obj _ _ aI b hb
     exact(I'.pin (b,o) (List.mem_append_right _ (List.mem_append_right _ (rh hb e)))).2.1
    ·exact(I'.pin _ (List.mem_append_right _ (List.mem_append_left _ List.mem_cons_self))).2.1
    ·exact(I'.pin _ (List.mem_append_right _ (List.mem_append_left _ List.mem_cons_self))).1
   cases ok with
   | false=>
    rw [if_neg Bool.false_ne_true]
    obtain⟨m',hm,w7⟩:=(show ∃ m',m' < n/\W (i + 1) m' ys H7 by rw [if_neg Bool.false_ne_true] at q7;exact q7)
    obtain⟨a1,a2,a3,a4⟩:=after I7
    exact⟨m',hm,i + 1,ys,U,na,H7,(weak I7).pins_of (fun p ae=>absurd ae (by simp)),a1,a2,a3,az,a4,w7⟩
   | true=>
    rw [if_pos rfl]
    rw [if_pos rfl] at q7
    refine eJ (he _ _ _ _ s7 aA H7 _ I7 q7) fun yv s8 ⟨y,H8,I8,r8,m',hm,w8⟩=>?_
    obtain⟨a1,a2,a3,a4⟩:=after I8
    have hl:=az.length
    refine call_meets F.slot_list_append ⟨_,a4,rfl⟩ F.entry_list_append (F.args_list_append_2 _ _) (PySem.list_append s2.heap.objs.size U.toArray na yv (by rw [List.size_toArray];(clear a4 a3 hm l6 aH aG len0 av ai hC ah hN hkind hsc hX hcalm;omega))) ⟨a4,?_⟩
    have I9:Inv (gS X scope N {s2 with heap:=hp} H2 (s2.heap.objs.size::fp)) [] (kh own caps σ) H8 s8:=(weak I8).pins_of (fun p ae=>absurd ae (by simp))
    have q:(s8.heap.update s2.heap.objs.size (Obj.mapSeq (·.push yv))).get? s2.heap.objs.size=some {cls:= .type "list",data:= .seq (U++[yv]).toArray (na + 1)}:=by
     have q:=PySem.IsL.update a4 (·.push yv)
     simpa using q
    refine⟨m',hm,i + 1,ys++[y],U++[yv],na + 1,H8,I9.turned (it:=s2.heap.objs.size) (t':=s8.toks) (fun b o hb e=>?_) a3 (ai) (.inl List.mem_cons_self) (fun x c z=>Nat.ne_of_lt (aj z)) (fun p ae=>absurd (show p∈([]:List (Addr×Obj)) from ae) (by simp)),?_,a2,a3,az.append (.cons r8 .nil),q,w8⟩
    ·rw [Heap.get?_update_other _ _ (Ne.symm hb)];exact e
    ·exact T.keep _ _ _ a1 fun b hb o e=>by rw [Heap.get?_update_other _ _ (Ne.symm (aw b hb).2)];exact e
 exact codeAny_compStart_list (loop _ rfl) (T.self _ 0 _ _ _ (T.keep _ _ _ aC fun b _ o q=>up1 (up q)) (loop _ rfl))
theorem ik{elt target iter:Expr}{ifs:List Expr}{scope sc0:Scope}{pos:Pos}{N N0:List Str}{own:Nat}{caps:List Nat}{wi:TI}{g:TG}{tc:TT}{te:TE}
  (hcalm:X.calm=true)(hi:PI X target iter wi)
  (hg:∀ s₀ H₀ ex,PG (gS X scope N s₀ H₀ ex) target g)(hc:∀ s₀ H₀ ex,eQ (gS X scope N s₀ H₀ ex) ifs tc)(he:∀ s₀ H₀ ex,PE (gS X scope N s₀ H₀ ex) elt te)(hk:nF own g)
  (hX:X.N=N0)(hsc:X.env.scope=sc0)
  (hcell:∀ y∈scope.names,y.2≠ .cell)(hkind:scope.kind= .function)(hnames:∀ y∈scope.names,y.2= .local->scope.names.lookup y.1=some .local)
  (hfree:∀ y∈scope.names,y.2= .free->sc0.names.lookup y.1=some .cell)(hN:N.length=own + caps.length)
  (hcap:∀ p∈caps.zip (N.drop own),N0[p.1]? =some p.2/\scope.names.lookup p.2=some .free)
  (hs:∀ x,foldedSetIterable iter X.env x=pure x:=by intro _;rfl):
  PE X (.ListComp elt [⟨target,iter,ifs,0⟩] scope pos) (sY own caps wi g tc te):=by
 intro pins s σ H Q I h
 rw [eval_ListComp]
 exact xQ hcalm hi hg hc he hk hX hsc hcell hkind hnames hfree hN hcap hs I h fun D C s' He ys m f hn U _ q=>⟨m,hn,fun h' J=>⟨.ref D,_,U h' J,rfl,q⟩⟩
end
theorem gk.at {P:Program}{w:World}{H:Hp}{h:Heap}{a:Addr}{o:HO}(x:gk P w H h a o):∃ ob,h.get? a=some ob:=by
 cases o with
 | lst xs=>obtain⟨_,_,_,_,e⟩:=x;exact⟨_,e⟩
 | tup xs=>obtain⟨_,_,_,ob,e,_⟩:=x;exact⟨_,e⟩
 | dK kvs=>obtain⟨_,_,_,_,o,_,_,e,_⟩:=x;exact⟨_,e⟩
 | dT kvs=>obtain⟨_,_,_,_,o,_,_,e,_⟩:=x;exact⟨_,e⟩
 | set S n=>obtain⟨o,_,_,_,e,_⟩:=x;exact⟨_,e⟩
 | ins C dx fs=>obtain⟨_,_,_,e,_⟩:=x;exact⟨_,e⟩
 | own y=>obtain⟨_,e⟩:=x;exact⟨_,e⟩
 | xd fs=>obtain⟨_,⟨_,_,_,e,_⟩,_⟩:=x;exact⟨_,e⟩
 | rng lo hi=>obtain⟨_,_,_,e⟩:=x;exact⟨_,e⟩
 | frz ob u=>obtain⟨e,_⟩:=x;exact⟨_,e⟩
 | tbl ps=>exact⟨_,show h.get? a=some _ from x⟩
 | met f y=>exact⟨_,show h.get? a=some _ from x⟩
 | ext I=>obtain⟨_,⟨_,e⟩,_⟩:=x;exact⟨_,e⟩
def eP(P:Program)(w:World):iY:=fun outer H s E e s'=>∃(I:Addr) (cls J:Value) (B:Heap) (H':Hp),
 e= .ref I/\s'.os=s.os/\AllBare s'.gens/\Un (fT outer) [] H H' s.heap s'.heap/\gi P w H' s'.heap/\Heap.FlyingW B outer I cls J s'.heap/\
 (∀ b o,s.heap.get? b=some o->H b=none->b∉fT outer->B.get? b=some o)/\(∀ b o,s.heap.get? b=some o->b∉fT outer->∃ o',B.get? b=some o')/\
 (∀ b u,H' b=some u->∃ o,B.get? b=some o)/\E cls none H'
theorem eP.no {P:Program}{w:World}{outer:List Env}{H:Hp}{s s':Shared}{e:Value}(h:eP P w outer H s (fun _ _ _=>False) e s'):False:=by
 obtain⟨_,_,_,_,_,_,_,_,_,_,_,_,_,_,z⟩:=h
 exact z
theorem wJ{fs:List Addr}{H H':Hp}{h h1 h2 B base:Heap}{outer:List Env}(hfs:fs=fT outer)(u:Un fs [] H H' h h1)(k1:∀ b o,h.get? b=some o->H b=none->b∉fs->B.get? b=some o)
  (k3:∀ b o,h.get? b=some o->b∉fs->∃ o',B.get? b=some o')(ff:h1.FunFrames base outer)(st:B.StaysIn h2)(up:h1.UpToSlots h2):Un fs [] H H' h h2:=by
 have fr:∀ b∈fs,∀ o,h1.get? b=some o->∃ sl,h2.get? b=some {o with slots:=sl}:=fun b hb o e=>by
  rw [hfs] at hb
  obtain⟨_,o',I,nf⟩:=ff.mem hb
  rw [e] at I;cases I
  exact up b o e nf
 refine⟨fun b o e n hb _=>st b o (k1 b o e n hb),fun b o e n hb J=>?_,u.free,fun b o e J=>?_,u.tups,u.frzs,u.tbls⟩
 ·obtain⟨sl,U⟩:=u.slot b o e n hb J
  obtain⟨aa,e2⟩:=fr b hb _ U
  exact⟨aa,e2⟩
 ·by_cases hb:b∈fs
  ·obtain⟨o1,U⟩:=u.there b o e J
   obtain⟨sl,e2⟩:=fr b hb _ U
   exact⟨_,e2⟩
  ·obtain⟨o',I⟩:=k3 b o e hb
   exact⟨o',st b o' I⟩
theorem wV{P:Program}{w:World}{H:Hp}{h1 h2 B:Heap}(x:gi P w H h1)(k2:∀ b u,H b=some u->∃ o,B.get? b=some o)(s1:B.StaysIn h1)(s2:B.StaysIn h2):gi P w H h2:=fun b u e=>by
 refine(x b u e).stay (fun c v J q=>?_) (fun _ q=>q) fun _ _ q=>q
 have ht:∃ z,H c=some z:=by
  rcases J with z | z
  ·subst z;exact⟨u,e⟩
  ·exact⟨_,z⟩
 obtain⟨z,U⟩:=ht
 obtain⟨o,I⟩:=k2 c z U
 have:=s1 c o I
 rw [q] at this;cases this
 exact s2 c v I
section
variable {P : Program} {w : World} {K : PySem.W.Frag} {mg : Str -> Option Value} {base : Heap} {N : List Str} {qual : Str} {scope : Scope} {f : Addr} {cdv : Value} {A : Around} {outer : List Env} {s₀ : Shared} {H₀ : Hp} {E E' : XK}
def Raises(X:Cx)(E:XK):Prop:=∀(pins:List (Addr×Obj)) (σ:St) (H:Hp) (s:Shared) (h':Heap) (I:Addr) (cls:Value) (args:List Value),Inv X pins σ H s->Heap.MadeExcOf s.heap h' I cls args->E cls none H->X.xe (.ref I) {s with heap:=h'}
theorem kr:Raises (gO (eP P w) P w K mg base N qual scope f cdv A outer s₀ H₀ E) E:=by
 intro pins σ H s h' ea cls args I hx hE
 have stk:=I.stack
 have U:∀ env∈(gO (eP P w) P w K mg base N qual scope f cdv A outer s₀ H₀ E).stack,∀ b,env.frame=some b->b∈fT (gO (eP P w) P w K mg base N qual scope f cdv A outer s₀ H₀ E).stack:=fun env he b hb=>List.mem_filterMap.mpr ⟨env,he,hb⟩
 have J:∀{b:Addr} {o:Obj},s.heap.get? b=some o->b∉fT (gO (eP P w) P w K mg base N qual scope f cdv A outer s₀ H₀ E).stack->(W.hideAll s.heap (fT (gO (eP P w) P w K mg base N qual scope f cdv A outer s₀ H₀ E).stack)).get? b=some o:=fun e hb=>W.hideAll_get _ e hb
 have hL:∀{b:Addr} {o:Obj},s₀.heap.get? b=some o->b∉fT outer->b∉fT (gO (eP P w) P w K mg base N qual scope f cdv A outer s₀ H₀ E).stack:=fun{b o} e hb z=>by
  rcases List.mem_cons.mp (I.stkSub b z) with q | q
  ·have h1:=Heap.lt_size e
   have h2:s₀.heap.objs.size<=(gO (eP P w) P w K mg base N qual scope f cdv A outer s₀ H₀ E).env.locals:=I.ok.above
   rw [q] at h1
   exact Nat.lt_irrefl _ (Nat.lt_of_lt_of_le h1 h2)
  ·exact hb q
 show wpAny (model P w) (A.deeper (envOfC qual scope s₀.heap.objs.size f cdv)) (leaving (envOfC qual scope s₀.heap.objs.size f cdv) (.ref ea)) _ _ _
 refine wpAny_leaves_madeW (s:={s with heap:=h'}) (h:=s.heap) (base:=W.hideAll s.heap (fT (gO (eP P w) P w K mg base N qual scope f cdv A outer s₀ H₀ E).stack)) I.ok.frames rfl (fun b o q=>W.of_hideAll _ q) (W.funFrames_hide stk U) hx fun aa t fl _ _ up=>?_
 have u0:Un (fT outer) [] H₀ H s₀.heap s.heap:=I.base
 have tr:∀ b u,H b=some u->b∉fT (gO (eP P w) P w K mg base N qual scope f cdv A outer s₀ H₀ E).stack:=fun b u e z=>by rw [I.stkFree b z] at e;cases e
 have k1:∀ b o,s₀.heap.get? b=some o->H₀ b=none->b∉fT outer->(W.hideAll s.heap (fT (gO (eP P w) P w K mg base N qual scope f cdv A outer s₀ H₀ E).stack)).get? b=some o:=fun b o e n hb=>J (u0.keep b o e n hb (by simp)) (hL e hb)
 have k3:∀ b o,s₀.heap.get? b=some o->b∉fT outer->∃ o',(W.hideAll s.heap (fT (gO (eP P w) P w K mg base N qual scope f cdv A outer s₀ H₀ E).stack)).get? b=some o':=fun b o e hb=>by
  obtain⟨o',e'⟩:=u0.there b o e (by simp)
  exact⟨o',J e' (hL e hb)⟩
 have k2:∀ b u,H b=some u->∃ o,(W.hideAll s.heap (fT (gO (eP P w) P w K mg base N qual scope f cdv A outer s₀ H₀ E).stack)).get? b=some o:=fun b u e=>by
  obtain⟨o,eo⟩:=(I.hok b u e).at
  exact⟨o,J eo (tr b u e)⟩
 exact⟨ea,cls,.ref t,_,H,rfl,I.os,I.bare,wJ rfl u0 k1 k3 I.funs fl.1 ((Heap.UpToSlots.of_keeps hx.keeps).trans up),wV I.hok k2 (fun b o q=>W.of_hideAll _ q) fl.1,fl,k1,k3,k2,hE⟩
theorem iE(hE:∀ cls od H',E' cls od H'->E cls od H'):Passes (eP P w) (gO (eP P w) P w K mg base N qual scope f cdv A outer s₀ H₀ E) E':=by
 intro pins σ H s e s' I h
 obtain⟨ea,cls,a0,B,H',rfl,os,bare,un,hok,fl,k1,k3,k2,U⟩:=h
 have stk:(gO (eP P w) P w K mg base N qual scope f cdv A outer s₀ H₀ E).stack=envOfC qual scope s₀.heap.objs.size f cdv::outer:=rfl
 have ae:fT (gO (eP P w) P w K mg base N qual scope f cdv A outer s₀ H₀ E).stack=s₀.heap.objs.size::fT outer:=rfl
 have J:Un (fT outer) [] H₀ H s₀.heap s.heap:=I.base
 have aa:∀{b:Addr} {o:Obj},s₀.heap.get? b=some o->b∉fT outer->b∉fT (gO (eP P w) P w K mg base N qual scope f cdv A outer s₀ H₀ E).stack:=fun{b o} e hb z=>by
  rw [ae] at z
  rcases List.mem_cons.mp z with q | q
  ·have h1:=Heap.lt_size e
   rw [q] at h1
   exact Nat.lt_irrefl _ h1
  ·exact hb q
 show wpAny (model P w) (A.deeper (envOfC qual scope s₀.heap.objs.size f cdv)) (leaving (envOfC qual scope s₀.heap.objs.size f cdv) (.ref ea)) _ _ _
 refine wpAny_leaves_onW I.ok.frames rfl fl fun ag ab up=>?_
 have u1:Un (fT outer) [] H₀ H' s₀.heap s'.heap:=by
  refine⟨fun b o e n hb U=>?_,fun b o e n hb U=>?_,fun b o e n U=>?_,fun b o e U=>?_,fun b xs q=>un.tups b xs (J.tups b xs q),fun b ob u q=>un.frzs b ob u (J.frzs b ob u q),fun b ps q=>?_⟩
  ·exact un.keep b o (J.keep b o e n hb U) (J.free b o e n U) (aa e hb) (by simp)
  ·obtain⟨sl,e1⟩:=J.slot b o e n hb U
   obtain⟨af,e2⟩:=un.any e1 (J.free b o e n U) (by simp)
   exact⟨af,e2⟩
  ·obtain⟨o',e1⟩:=J.there b o e U
   exact un.free b o' e1 (J.free b o e n U) (by simp)
  ·obtain⟨o',e1⟩:=J.there b o e U
   exact un.there b o' e1 (by simp)
  ·obtain⟨m1,e1⟩:=J.tbls b ps q
   obtain⟨m2,e2⟩:=un.tbls b _ e1
   exact⟨m1++m2,by rw [e2,Array.append_assoc]⟩
 have K1:∀ b o,s₀.heap.get? b=some o->H₀ b=none->b∉fT outer->B.get? b=some o:=fun b o e n hb=>k1 b o (J.keep b o e n hb (by simp)) (J.free b o e n (by simp)) (aa e hb)
 have K3:∀ b o,s₀.heap.get? b=some o->b∉fT outer->∃ o',B.get? b=some o':=fun b o e hb=>by
  obtain⟨o',e1⟩:=J.there b o e (by simp)
  exact k3 b o' e1 (aa e hb)
 have ff:s'.heap.FunFrames B outer:=by
  obtain⟨_,_,⟨_,_,r⟩,_⟩:=fl
  exact r
 exact⟨ea,cls,a0,B,H',rfl,os.trans I.os,bare,wJ rfl u1 K1 K3 ff ab.1 up,wV hok k2 fl.1 ab.1,ab,K1,K3,k2,hE _ _ _ U⟩
end
theorem Bf{K:W.Frag}{h:Heap}{C:Addr}{bmB:List Value}{newId:String}(X:K.In h)(q:W.excIn K C bmB newId=true):
  ∃ bm N nm qn bs hdct sn sub ab col dd k0 k1 k2 k3 k5 mN,h.get? C=some (excClassObj nm qn C N bs bm hdct sn sub ab col dd k0 k1 k2 k3 k5 newId)/\h.Ns N mN/\mN "__init__"=none/\OwnTail h bmB bm:=by
 unfold W.excIn at q
 split at q
 ·rename_i dd cd sl ho
  split at q
  ·rename_i C' bm k0 k1 k2 k3 n k5 hm hs
   simp only [Bool.and_eq_true,beq_iff_eq,Bool.not_eq_true'] at q
   obtain⟨⟨⟨⟨⟨rfl,rfl⟩,I⟩,ht⟩,hok⟩,J⟩:=q
   obtain⟨nm,bs,mro,ns,qn,hd,sn,sub,ab,col,del⟩:=cd
   dsimp only at hm I hok J
   subst hm I
   have U:sl=#[k0,k1,k2,k3,some (.builtin n),k5]:=by
    obtain⟨l⟩:=sl
    simp only at hs
    rw [hs]
   subst U
   exact⟨bm,ns,nm,qn,bs,hd,sn,sub,ab,col,dd,k0,k1,k2,k3,k5,_,X _ _ ho,.of_isNs (W.isNs_of_in X hok),W.nsMap_none_of_in X hok J,W.tail_of_in X ht⟩
  ·cases q
 ·cases q
section
variable {X : Cx} {E : XK}
def CD(C:Addr)(E:XK)(t:TA):TS:=fun _ σ H=>t σ H fun vs H1=>vs.length<=sizeLine/\E (.ref C) none H1
theorem ki{x:Str}{C:Addr}{e:Expr}{es:List Expr}{t:TA}{np cpos pos:Pos}{B Bn newId nid initId inN:String}{bmB bmN:List Value}(hcalm:X.calm=true)(hq:W.excIn X.K C bmB newId=true)
  (Fn:ExcBaseFacts Bn newId inN bmN)(hBn:bmB.contains (.type Bn)=true)(FB:ExcBaseFacts B nid initId bmB)(hg:Gl X x)(hm:X.mg x=some (.ref C))(ha:PA X (e::es) t)(hR:Raises X E)
  (hdb:(x == ("__debug__":Str))=false:=by decide)(he:starEach (e::es) X.env=(false,eval e X.env)::starEach es X.env:=by rfl)(hpl:(backTo cpos (starEach es X.env)).any (·.1)=false:=by rfl):
  PS X (.Raise (some (.Call (.Name x np) (e::es) [] cpos)) none pos) (CD C E t):=by
 intro pins s σ H D I h
 obtain⟨tl,N,nm,qn,bs,hdct,sn,sub,ab,col,dd,k0,k1,k2,k3,k5,mN,hC,hN,U,T⟩:=Bf I.ok.mod.kin hq
 refine wpAny_Raise_call_subU (C:=C) (nm:=nm) (q:=qn) (N:=N) (bs:=bs) (bm:=tl) (hdct:=hdct) (sn:=sn) (sub:=sub) (ab:=ab) (col:=col) (dd:=dd) (k0:=k0) (k1:=k1) (k2:=k2) (k3:=k3) (k5:=k5)
  Fn hBn FB (mN:=mN) (T.hasType FB.hasBase) (I.ok.hd hcalm) (by rw [he];show(false || (backTo cpos (starEach es X.env)).any (·.1))=false;rw [hpl];rfl) U (rq I hg hm ⟨rfl,?_⟩ hdb)
 have hA:=ha cpos pins s σ H _ I h
 rw [he] at hA ⊢
 exact Calls.evalArgs_plain (eJ hA fun us s2 ⟨vs,H2,J,r,hz,hE⟩=>⟨rfl,by rw [<-r.length];exact hz,J.bk _ _ hC,hN.keeps J.bk,T.keeps J.bk,fun h' ea mk=>hR pins σ H2 s2 h' ea (.ref C) us J mk hE⟩)
end
section
variable {P : Program} {w : World} {K : PySem.W.Frag} {mg : Str -> Option Value} {base : Heap}
theorem fD.ok1 {x qual:Str}{st:Stmt}{f:Addr}{fd:FuncData}{N ps:List Str}{k:Nat}{sp:Sp}(F:fD K x qual st f fd)(S:eX N ps (er st))(len:∀ vs H Q E,sp vs H Q E->vs.length=ps.length)
  (hbody:∀(cdv:Value) (A:Around) (outer:List Env) (s:Shared) (H:Hp) (vs:List V) (Q:VK) (E:XK),gn k (A.deeper (envOfC qual (er st) s.heap.objs.size f cdv))->sp vs H Q E->
   ∃ t,eK (gO (eP P w) P w K mg base N qual (er st) f cdv A outer s H E) (gm st) t/\t {nx:=fun _ H'=>Q .non H',rt:=Q} (start N vs) H):d8 P w K mg base (eP P w) (k + 1) f fd ps sp:=by
 obtain⟨oc,od,kV,doc,pm,an,cdv,ct,U,rfl,lk,I⟩:=F.ex
 exact qg lk I S len fun A outer s H vs Q E hr J=>hbody cdv A outer s H vs Q E hr J
end
section
variable {X : Cx} {CX : iY} {k : Nat} {f C : Addr} {fd : FuncData} {ps : List Str} {sp : Sp} {dvs : List V} {ds : List Value} {E : St -> XK} {x m : Str} {p pos apos : Pos} {e o : Expr} {es : List Expr} {ta : TE} {t : TA}
end
section
variable {X : Cx} {pins : List (Addr × Obj)} {σ : St} {H : Hp} {s : Shared}
end
section
variable {X : Cx}
end
structure uz (k : Nat) (A : Around) : Prop where
 dp : A.depth + 3 * k + 5 < recursionLimit
 un : A.units + 16 * k + 200 < cLine
theorem gn.toN {k:Nat}{A:Around}(r:gn k A):uz k A:=⟨r.dp,r.un⟩
theorem uz.units {k:Nat}{A:Around}(r:uz k A):A.units + 100 < cLine:=by have:=r.un;omega
theorem gn.units100 {k:Nat}{A:Around}(r:gn k A):A.units + 100 < cLine:=r.toN.units
section
variable {X : Cx} {k : Nat} {f C : Addr} {fd : FuncData} {ps : List Str} {sp : List V -> Hp -> VK -> Prop} {dvs : List V} {ds : List Value} {x m : Str} {p pos apos : Pos} {e o : Expr} {es : List Expr} {ta : TE} {t : TA}
end
end L2
namespace PySem.W
open PySem PySem.Spec PySem.Calls PyProof.Rows PySem.Builtin.ObjectAttr PySem.Builtin.Getset_descriptor PySem.Builtin
section
variable {prog : Program} {w : World} {A : Around} {E : Value -> Shared -> Prop} {K : Frag} {x C : Addr} {ox : Obj}
end
end PySem.W
namespace L2
open PySem PySem.Spec PyProof.Rows
section
variable {X : Cx}
end
theorem qd{J:It}{g:TG}{tc:TT}{te:TE}{σ0:St}{H:Hp}{Q:VK}(n:Nat)(Pv:Nat->List V->Hp->Prop)(hz:n < sizeLine)(hgo:∀ i ys H,i < n->Pv i ys H->J.go i H)(hstop:∀ ys H,Pv n ys H->J.stop n H)(h0:Pv 0 [] H)
  (hs:∀ i ys H x H' (N:List V->Hp->Prop),i < n->Pv i ys H->J.yld i H x H'->(∀ ys' H2,Pv (i + 1) ys' H2->N ys' H2)->
   g x σ0 H' fun σ2 H2=>tc σ2 H2 fun b H3=>if b=true then te σ2 H3 fun y H4=>N (ys++[y]) H4 else N ys H3)
  (hd:∀ ys H,Pv n ys H->ys.length<=n->∀ p,H p=none->Q (.ref p) (upd H p (.lst ys))):
  nK J g tc te σ0 Q H:=by
 refine⟨fun i m ys H=>m=n - i/\i<=n/\ys.length<=i/\Pv i ys H,⟨n,by simp,Nat.zero_le _,Nat.le_refl _,h0⟩,?_⟩
 rintro i m ys H ⟨rfl,hi,hl,p⟩
 by_cases U:i < n
 ·refine .inr ⟨hgo i ys H U p,by(clear U;omega),fun x H' y=>?_⟩
  have key:=hs i ys H x H' (fun ys' H2=>(ys'.length<=ys.length + 1->∃ I,I < n - i/\I=n - (i + 1)/\i + 1<=n/\ys'.length<=i + 1/\Pv (i + 1) ys' H2)) U p y (fun ys' H2 q hle=>⟨n - (i + 1),by(clear hle hl hi hz;omega),rfl,U,by(clear U hi hz;omega),q⟩)
  have e:(fun σ2 H2=>tc σ2 H2 fun b H3=>if b=true then te σ2 H3 fun y H4=>((ys++[y]).length<=ys.length + 1->∃ I,I < n - i/\I=n - (i + 1)/\i + 1<=n/\(ys++[y]).length<=i + 1/\Pv (i + 1) (ys++[y]) H4)
    else (ys.length<=ys.length + 1->∃ I,I < n - i/\I=n - (i + 1)/\i + 1<=n/\ys.length<=i + 1/\Pv (i + 1) ys H3))=
   (fun σ2 H2=>tc σ2 H2 fun b H3=>if b=true then te σ2 H3 fun y H4=>∃ I,I < n - i/\I=n - (i + 1)/\i + 1<=n/\(ys++[y]).length<=i + 1/\Pv (i + 1) (ys++[y]) H4
    else ∃ I,I < n - i/\I=n - (i + 1)/\i + 1<=n/\ys.length<=i + 1/\Pv (i + 1) ys H3):=by
   funext σ2 H2
   congr 1
   funext b H3
   have e1:∀(y:V) (H4:Hp),((ys++[y]).length<=ys.length + 1->∃ I,I < n - i/\I=n - (i + 1)/\i + 1<=n/\(ys++[y]).length<=i + 1/\Pv (i + 1) (ys++[y]) H4)=(∃ I,I < n - i/\I=n - (i + 1)/\i + 1<=n/\(ys++[y]).length<=i + 1/\Pv (i + 1) (ys++[y]) H4):=fun y H4=>
    propext ⟨fun q=>q (by simp),fun q _=>q⟩
   have e2:(ys.length<=ys.length + 1->∃ I,I < n - i/\I=n - (i + 1)/\i + 1<=n/\ys.length<=i + 1/\Pv (i + 1) ys H3)=(∃ I,I < n - i/\I=n - (i + 1)/\i + 1<=n/\ys.length<=i + 1/\Pv (i + 1) ys H3):=propext ⟨fun q=>q (by(clear U hl hi hz;omega)),fun q _=>q⟩
   simp only [e1,e2]
  rw [e] at key
  exact key
 ·have e:i=n:=by(clear hl hz;omega)
  subst e
  exact .inl ⟨hstop ys H p,by(clear U hi;omega),hd ys H p hl⟩
theorem vR{x:Str}{g:TG}{tc:TT}{te:TE}{σ0:St}{H:Hp}{Q:VK}(Pv:Nat->List V->Hp->Prop)(hz:x.cps.size < sizeLine)(h0:Pv 0 [] H)
  (hs:∀ i c ys H (N:List V->Hp->Prop),x.cps[i]? =some c->Pv i ys H->(∀ ys' H2,Pv (i + 1) ys' H2->N ys' H2)->
   g (.str ⟨#[c]⟩) σ0 H fun σ2 H2=>tc σ2 H2 fun b H3=>if b=true then te σ2 H3 fun y H4=>N (ys++[y]) H4 else N ys H3)
  (hd:∀ ys H,Pv x.cps.size ys H->ys.length<=x.cps.size->∀ p,H p=none->Q (.ref p) (upd H p (.lst ys))):nK (uG x) g tc te σ0 Q H:=qd x.cps.size Pv hz (fun i ys H hi _=>hi) (fun ys H _=>rfl) h0
 (fun i ys H v H' N hi p y I=>by
  obtain⟨e,c,J,U⟩:=y
  subst e U
  exact hs i c ys _ N J p I) hd
theorem rG{lo:Int}{n:Nat}{g:TG}{tc:TT}{te:TE}{σ0:St}{H:Hp}{Q:VK}(Pv:Nat->List V->Hp->Prop)(hz:n < sizeLine)(h0:Pv 0 [] H)
  (hs:∀ i ys H (N:List V->Hp->Prop),i < n->Pv i ys H->(∀ ys' H2,Pv (i + 1) ys' H2->N ys' H2)->
   g (.int (lo + i)) σ0 H fun σ2 H2=>tc σ2 H2 fun b H3=>if b=true then te σ2 H3 fun y H4=>N (ys++[y]) H4 else N ys H3)
  (hd:∀ ys H,Pv n ys H->ys.length<=n->∀ p,H p=none->Q (.ref p) (upd H p (.lst ys))):nK (mh lo n) g tc te σ0 Q H:=qd n Pv hz (fun i ys H hi _=>hi) (fun ys H _=>Nat.le_refl _) h0
 (fun i ys H v H' N hi p y I=>by
  obtain⟨e,J⟩:=y
  subst e J
  exact hs i ys _ N hi p I) hd
theorem iL{K:W.Frag}{a:Addr}{xs:List V}{g:TG}{tc:TT}{te:TE}{σ0:St}{H:Hp}{Q:VK}(Pv:Nat->List V->Hp->Prop)(hz:xs.length < sizeLine)(hl:∀ i ys H,Pv i ys H->d4 K H a xs)(h0:Pv 0 [] H)
  (hs:∀ i x ys H (N:List V->Hp->Prop),xs[i]? =some x->Pv i ys H->(∀ ys' H2,Pv (i + 1) ys' H2->N ys' H2)->
   g x σ0 H fun σ2 H2=>tc σ2 H2 fun b H3=>if b=true then te σ2 H3 fun y H4=>N (ys++[y]) H4 else N ys H3)
  (hd:∀ ys H,Pv xs.length ys H->ys.length<=xs.length->∀ p,H p=none->Q (.ref p) (upd H p (.lst ys))):nK (nA K a) g tc te σ0 Q H:=qd xs.length Pv hz
 (fun i ys H hi p=>⟨xs,xs[i],hl i ys H p,by simp [hi]⟩) (fun ys H p=>⟨xs,hl _ ys H p,Nat.le_refl _⟩) h0
 (fun i ys H v H' N hi p y I=>by
  obtain⟨e,y⟩:=y
  subst e
  exact hs i v ys _ N (y xs (hl i ys _ p)) p I) hd
@[elab_as_elim] theorem oC {α:Type}{p:List α->Prop}(h:∀ a,p [a])(us:List α)(hl:us.length=1):p us:=by
 obtain⟨a,rfl⟩:=List.length_eq_one_iff.mp hl
 exact h a
@[elab_as_elim] theorem gG {α:Type}{p:List α->Prop}(h:∀ a b,p [a,b])(us:List α)(hl:us.length=2):p us:=by
 cases us with
 | nil=>cases hl
 | cons a r=>exact @oC _ (fun r=>p (a::r)) (fun b=>h a b) r (Nat.succ.inj hl)
@[elab_as_elim] theorem tZ {α:Type}{p:List α->Prop}(h:∀ a b c,p [a,b,c])(us:List α)(hl:us.length=3):p us:=by
 cases us with
 | nil=>cases hl
 | cons a r=>exact @gG _ (fun r=>p (a::r)) (fun b c=>h a b c) r (Nat.succ.inj hl)
@[elab_as_elim] theorem Ic {α:Type}{p:List α->Prop}(h:∀ a b c d,p [a,b,c,d])(us:List α)(hl:us.length=4):p us:=by
 cases us with
 | nil=>cases hl
 | cons a r=>exact @tZ _ (fun r=>p (a::r)) (fun b c d=>h a b c d) r (Nat.succ.inj hl)
section
variable {X : Cx}
theorem oP{i:Nat}{x:Str}{pos' spos:Pos}{elt target iter:Expr}{ifs:List Expr}{scope sc0:Scope}{pos:Pos}{N N0:List Str}{own:Nat}{caps:List Nat}{wi:TI}{g:TG}{tc:TT}{te t':TE}
  (hNd:X.N.Nodup)(hxi:X.N[i]? =some x)(hx:Loc X.env.scope x)
  (hcalm:X.calm=true)(hi:PI X target iter wi)
  (hg:∀ s₀ H₀ ex,PG (gS X scope N s₀ H₀ ex) target g)(hc:∀ s₀ H₀ ex,eQ (gS X scope N s₀ H₀ ex) ifs tc)(he:∀ s₀ H₀ ex,PE (gS X scope N s₀ H₀ ex) elt te)(hk:nF own g)
  (hX:X.N=N0)(hsc:X.env.scope=sc0)
  (hcell:∀ y∈scope.names,y.2≠ .cell)(hkind:scope.kind= .function)(hnames:∀ y∈scope.names,y.2= .local->scope.names.lookup y.1=some .local)
  (hfree:∀ y∈scope.names,y.2= .free->sc0.names.lookup y.1=some .cell)(hN:N.length=own + caps.length)
  (hcap:∀ p∈caps.zip (N.drop own),N0[p.1]? =some p.2/\scope.names.lookup p.2=some .free)
  (himp:∀ σ H Q,t' σ H Q->sY own caps wi g tc te σ H Q)
  (hs:∀ x,foldedSetIterable iter X.env x=pure x:=by intro _;rfl)
  (hsw:swapsWith (.ListComp elt [⟨target,iter,ifs,0⟩] scope pos) (some (.Name x pos')) spos.line X.env=pure true:=by rfl)
  (hf:X.fn x=true\/X.env.scope.names.lookup x=some .local:=by first | exact .inl rfl | exact .inr rfl | assumption):
  PS X (.Assign [.Name x pos'] (.ListComp elt [⟨target,iter,ifs,0⟩] scope pos) spos) (uM t' (jT i)):=by
 intro pins s σ H D I h
 rw [exec_Assign_Name_used _ _ _ _ hsw]
 refine wpAny_bind (wpAny_standAt (wpAny_bind ?_))
 show wpAny _ X.A (do let _<-comprehension (.ListComp elt [⟨target,iter,ifs,0⟩] scope pos) scope X.env _ (newList []) false (eval iter X.env) (some (assign (.Name x pos') X.env))) _ _ s
 refine wpAny_bind (wpAny_mono (xQ (use:=some (assign (.Name x pos') X.env)) (Qf:=fun _ s'=>SP X pins D .next s') hcalm hi hg hc he hk hX hsc hcell hkind hnames hfree hN hcap hs I (himp _ _ _ h) ?_) (fun _ s' hq=>wpAny_pure (wpAny_pure hq)) fun _ _ e=>e)
 intro U C s' He ys m f hn hI J q
 show wpAny _ X.A (assign (.Name x pos') X.env (.ref U)) _ _ s'
 have I1:Inv X pins σ (upd He U (.lst ys)) s':=hI s'.heap ⟨rfl,fun _ _=>rfl⟩
 refine wpAny_assign_Name (va (v:= .ref U) I1 hNd hxi hx rfl (fun aa I2 ⟨a,ab,ha⟩=>?_) hf)
 have ae:C≠a:=by
  rcases ha with rfl | ha
  ·exact J.2.1
  ·exact fun z=>J.2.2.2.2.1 _ _ ha z.symm
 refine⟨m,hn.sameBut ab ae,fun h' af=>⟨_,_,I2.turnedL (fp:=[C]) (t':=aa.toks) (fun b o hb e=>(af.2 b (fun z=>hb (by rw [z];exact List.mem_singleton.mpr rfl))).trans e) (fun b hb=>?_),q⟩⟩
 rw [List.mem_singleton.mp hb]
 exact J
end
def nZ(a:Addr):It:=⟨fun i H=>∃ xs x,H a=some (.lst xs)/\xs[i]? =some x,fun i H v H'=>∃ T x,H T=none/\(∀ xs,H a=some (.lst xs)->xs[i]? =some x)/\v= .ref T/\H'=upd H T (.tup [.int i,x]),fun i H=>∃ xs,H a=some (.lst xs)/\i=xs.length⟩
theorem FL{P:Program}{w:World}{K:PySem.W.Frag}{elts:List Expr}{k:Nat}{pos:Pos}(a e it:Addr)(hei:e≠it):
  Turn P w K (.Tuple elts k pos) (nZ a) [e,it] e (fun i h=>(∃ old,IsEnum h e it i old)/\h.IsListIter it a i) where
 mem:=by simp
 obj:=fun i h st b hb=>by
  obtain⟨⟨old,he⟩,o,ho,c,d⟩:=st
  rcases List.mem_cons.mp hb with rfl | hb
  ·exact⟨_,he,fun v z=>nomatch z⟩
  ·have e:b=it:=by simpa using hb
   subst e
   exact⟨o,ho,fun v z=>by rw [d] at z;cases z⟩
 keep:=fun i h h' st kk=>by
  obtain⟨⟨old,he⟩,o,ho,r⟩:=st
  exact⟨⟨old,kk e (by simp) _ he⟩,o,kk it (by simp) o ho,r⟩
 item:=by
  intro X hP hw hK hc i pins s σ H E I hf st hg
  subst hP hw hK
  obtain⟨xs,x,U,hx⟩:=hg
  obtain⟨J,rv,p,hz⟩:=I.list (d4.of U)
  obtain⟨u,hu,ru⟩:=rv.get hx
  have ab:a≠e:=fun z=>by rw [z,(hf e (by simp)).1] at U;cases U
  have ae:a≠it:=fun z=>by rw [z,(hf it (by simp)).1] at U;cases U
  have aj:i < J.toArray.size:=by
   have:=(List.getElem?_eq_some_iff.mp hu).1
   simpa using this
  have W:=WalksT.enumerateD (Draws.list (prog:=X.prog) (w:=X.w) (A:=X.A.in1) (I.ok.hd hc) it a ae J.toArray) e hei (by simp [hei,Ne.symm ab]) (by simp)
  refine W.item i s _ _ aj ⟨st.1,st.2,p.isList⟩ fun T vals h' tk hv hT ht mid kk=>⟨_,rfl,?_⟩
  obtain⟨t',y,hy,rfl⟩:=hv
  have ak:y=u:=by
   have h1:J[i]? =some y:=by simpa using hy
   rw [hu] at h1
   exact(Option.some.inj h1).symm
  subst ak
  refine W.go elts k pos i T _ _ _ mid fun af aa ag=>?_
  have keep:∀ b o,b∉[e,it]->s.heap.get? b=some o->af.get? b=some o:=fun b o hb q=>ag b o hb (kk b o hb q)
  have I1:Inv X pins σ H {s with heap:=af,toks:=tk}:=I.turnedL keep hf
  have hn:H T=none:=I.hok.fresh hT
  have ah:T∉[e,it]:=W.apart i T h' mid
  obtain⟨ot,ao,aq,n,ar⟩:=ht
  have I2:Inv X pins σ (upd H T (.tup [.int i,x])) {s with heap:=af,toks:=tk}:=by
   refine I1.track (.inl (Heap.get?_none_of_le (Nat.le_trans I.sz hT))) hn (Nat.ne_of_gt (Nat.lt_of_lt_of_le I.lt hT)) (fun y c' q z=>?_) (fun p hp z=>?_) ?_
   ·obtain⟨v,q'⟩:=I.cell y c' q
    exact absurd (Nat.lt_of_lt_of_le q'.lt (by rw [z];exact hT)) (Nat.lt_irrefl _)
   ·exact absurd (Nat.lt_of_lt_of_le (Heap.lt_size (I.pin p hp).1) (by rw [z];exact hT)) (Nat.lt_irrefl _)
   ·exact⟨by show 2<=sizeLine;decide,[.int i t',y],.cons ⟨_,rfl⟩ (.cons ru .nil),ot,ag T ot ah ao,aq,n,ar⟩
  refine⟨.ref T,_,I2,rfl,⟨T,x,hn,(fun ys ai=>?_),rfl,rfl⟩,⟨aa.1,aa.2.1⟩,fun b hb=>?_⟩
  ·rw [U] at ai
   cases ai
   exact hx
  ·have au:b≠T:=fun z=>ah (z ▸ hb)
   rw [eC au]
   exact(hf b hb).1
 done:=by
  intro X hP hw hK hc i pins s σ H E I hf st hg
  subst hP hw hK
  obtain⟨xs,U,hx⟩:=hg
  obtain⟨J,rv,p,hz⟩:=I.list (d4.of U)
  have hl:=rv.length
  have ab:a≠e:=fun z=>by rw [z,(hf e (by simp)).1] at U;cases U
  have ae:a≠it:=fun z=>by rw [z,(hf it (by simp)).1] at U;cases U
  have W:=WalksT.enumerateD (Draws.list (prog:=X.prog) (w:=X.w) (A:=X.A.in1) (I.ok.hd hc) it a ae J.toArray) e hei (by simp [hei,Ne.symm ab]) (by simp)
  have hi:i=J.toArray.size:=by rw [hx,hl];simp
  subst hi
  exact W.done s _ _ ⟨st.1,st.2,p.isList⟩ fun h' tk kk=>⟨rfl,I.turnedL kk hf⟩
 self:=fun A i s Q E st h=>by
  obtain⟨⟨old,he⟩,_⟩:=st
  exact wpAny_pyIter_enum he h
def A3(ta:TA):TI:=fun σ H R=>ta σ H fun vs H1=>∃(a:Addr) (xs:List V),vs=[.ref a]/\H1 a=some (.lst xs)/\R (nZ a) H1
section
variable {X : Cx}
theorem kd{elts:List Expr}{k:Nat}{tpos p pos:Pos}{a:Expr}{ta:TA}(hg:Gl X "enumerate")(hm:X.mg "enumerate"=none)(ha:PA X [a] ta)(hs:starEach [a] X.env=[(false,eval a X.env)]:=by rfl):
  PI X (.Tuple elts k tpos) (.Call (.Name "enumerate" p) [a] [] pos) (A3 ta):=by
 intro pins s σ H R I h
 refine Call_ (nc I hg hm boot_enumerate (PyProof.Rows.callWith_type1 (eJ (ha pos pins s σ H _ I h) fun us s1 ⟨vs,H1,J,U,q1⟩=>?_) hs rfl))
 obtain⟨l,xs,e,hH,q⟩:=q1
 subst e
 obtain⟨u,rfl,ru⟩:=vals1 U
 cases ru
 obtain⟨aa,rv,pl,hz⟩:=J.list (d4.of hH)
 refine call_enumerate_list pl.isList fun h' he hit hsz hk=>?_
 refine wpAny_pyIter_enum he ?_
 refine⟨s1.heap.objs.size + 1,[s1.heap.objs.size + 1,s1.heap.objs.size],_,_,H1,rfl,J.kept (t':=s1.toks) hk,FL l _ _ (Nat.succ_ne_self _),⟨⟨_,he⟩,hit⟩,fun b hb=>?_,q⟩
 rcases List.mem_cons.mp hb with rfl | hb
 ·exact J.fpOk (Nat.le_succ _) (J.hok.fresh (Nat.le_succ _))
 ·have e:b=s1.heap.objs.size:=by simpa using hb
  subst e
  exact J.fpOk (Nat.le_refl _) (J.hok.fresh (Nat.le_refl _))
end
theorem kN{a:Addr}{xs:List V}{g:TG}{tb:TS}{D:Ends}{σ:St}{H:Hp}(Pv:Nat->St->Hp->Prop)(h0:Pv 0 σ H)(hl:∀ i σ H,i<=xs.length->Pv i σ H->H a=some (.lst xs))
  (hs:∀ i x σ H T,xs[i]? =some x->Pv i σ H->H T=none->g (.ref T) σ (upd H T (.tup [.int i,x])) fun σ2 H2=>tb {D with nx:=Pv (i + 1),ct:=Pv (i + 1),bk:=D.nx} σ2 H2)(hd:∀ σ H,Pv xs.length σ H->D.nx σ H):
  ∃ W:Nat->Nat->St->Hp->Prop,(∃ m,W 0 m σ H)/\∀ i m σ H,W i m σ H->
   ((nZ a).stop i H/\D.nx σ H)\/((nZ a).go i H/\∃ N:St->Hp->Prop,(∀ σ' H',N σ' H'->∃ m',m' < m/\W (i + 1) m' σ' H')/\∀ x H',(nZ a).yld i H x H'->g x σ H' fun σ2 H2=>tb {D with nx:=N,ct:=N,bk:=D.nx} σ2 H2):=by
 refine⟨fun i m σ H=>m=xs.length - i/\i<=xs.length/\Pv i σ H,⟨xs.length,by simp,Nat.zero_le _,h0⟩,?_⟩
 rintro i m σ H ⟨rfl,hi,p⟩
 have q:=hl i σ H hi p
 by_cases I:i < xs.length
 ·refine .inr ⟨⟨xs,xs[i],q,by simp [I]⟩,Pv (i + 1),fun σ' H' J=>⟨xs.length - (i + 1),by omega,rfl,I,J⟩,fun x H' y=>?_⟩
  obtain⟨T,z,U,hz,rfl,rfl⟩:=y
  exact hs i z σ H T (hz xs q) p U
 ·have e:i=xs.length:=by omega
  subst e
  exact .inl ⟨⟨xs,q,rfl⟩,hd σ H p⟩
section
variable {X : Cx} {CX : iY} {k : Nat} {f C : Addr} {fd : FuncData} {ps : List Str} {ds : List Value} {dvs : List V} {sp : Sp} {m : Str} {pos apos : Pos} {e o : Expr} {es : List Expr} {ta : TE} {t : TA} {E : St -> XK}
end
section
variable {X : Cx} {pins : List (Addr × Obj)} {σ : St} {H : Hp} {s : Shared} {a : Addr}
theorem Inv.freeze {kvs:List (Key×V)}{o:Obj}(I:Inv X pins σ H s)(e:H a=some (.dK kvs))(ho:s.heap.get? a=some o):Inv X pins σ (upd H a (.frz o (.dK kvs))) s:=
 I.write (x:=a) (e:=a) (h':=s.heap) (t':=s.toks) (by rw [e];exact trivial) (.inl rfl) (fun _ _ _ q=>q) ⟨o,ho⟩ ⟨ho,I.hok a _ e⟩
theorem yw{P:Program}{w:World}{k:Key}{u:Value}(h:(g6 P w).is k u=true):RelV (kV k) u:=by
 rcases jI (show lD k u=true from h) with ⟨i,t,rfl,rfl⟩ | ⟨x,t,rfl,rfl⟩
 ·exact⟨t,rfl⟩
 ·exact⟨t,rfl⟩
theorem KV.at {κ:Type}{kvs:List (κ×V)}{vs:List (κ×Value)}(r:KV kvs vs){i:Nat}{kv:κ×V}(h:kvs[i]? =some kv):∃ v,vs[i]? =some (kv.1,v):=by
 unfold KV at r
 induction r generalizing i with
 | nil=>cases i<;>cases h
 | @cons p q ps U I t J=>
  cases i with
  | zero=>
   have e:p=kv:=Option.some.inj h
   subst e
   exact⟨q.2,by show some q=some (p.1,q.2);rw [I.1]⟩
  | succ j=>exact J h
end
def nv(d:Addr)(o:Obj)(kvs:List (Key×V)):It:=
 ⟨fun i H=>H d=some (.frz o (.dK kvs))/\i < kvs.length,fun i H x H'=>H'=H/\∃ I,kvs[i]? =some I/\x=kV I.1,fun i H=>H d=some (.frz o (.dK kvs))/\kvs.length<=i⟩
theorem A9{P:Program}{w:World}{K:W.Frag}{tg:Expr}(d it:Addr)(o:Obj)(kvs:List (Key×V)){es:Array DictEntry}{ep:Nat}(hdat:o.data= .dict es ep):
  Turn P w K tg (nv d o kvs) [it] it (fun i h=>h.IsKeyIter it d i kvs.length ep) where
 mem:=by simp
 obj:=fun i h st b hb=>by
  have e:b=it:=by simpa using hb
  subst e
  obtain⟨o,e,c,d⟩:=st
  exact⟨o,e,fun v z=>by rw [d] at z;cases z⟩
 keep:=fun i h h' st k=>st.at fun o e=>k it (by simp) o e
 item:=by
  intro X hP hw hK hc i pins s σ H E I hf st hg
  subst hP hw hK
  obtain⟨hH,hi⟩:=hg
  obtain⟨ho,z,ae,vs,rel,ob,ah,ai,J,r1,r2,r3⟩:=(show gk X.prog X.w H s.heap d (.frz o (.dK kvs)) from I.hok d _ hH)
  rw [ho] at J
  cases J
  rw [hdat] at r2
  cases r2
  have U:kvs.length=vs.length:=rel.length
  have af:kvs[i]? =some kvs[i]:=List.getElem?_eq_getElem hi
  obtain⟨v,hv⟩:=rel.at af
  obtain⟨f0,f1,f2,f3,f4,f5⟩:=hf it (by simp)
  have aa:s.heap.DictAt (g6 X.prog X.w) d vs ep:=⟨o,es,ho,r1,hdat,r3⟩
  rw [U] at st
  refine wpAny_pyNext_dict_item st aa hv fun key h' ag ab sb=>?_
  rw [<-U] at ab
  have I1:Inv X pins σ H {s with heap:=h'}:=I.turned (t':=s.toks) (fun b o hb e=>(sb.2 b hb).trans e) f0 f1 f3 f4 f5
  obtain⟨o',e',c',d'⟩:=id ab
  exact⟨key,rfl,pC (s:={s with heap:=h'}) e' c' d' (by decide) ⟨kV kvs[i].1,H,I1,yw ag,⟨rfl,kvs[i],af,rfl⟩,ab,fun b hb=>(hf b hb).1⟩⟩
 done:=by
  intro X hP hw hK hc i pins s σ H E I hf st hg
  subst hP hw hK
  obtain⟨hH,hi⟩:=hg
  obtain⟨ho,z,ae,vs,rel,ob,ah,ai,J,r1,r2,r3⟩:=(show gk X.prog X.w H s.heap d (.frz o (.dK kvs)) from I.hok d _ hH)
  rw [ho] at J
  cases J
  rw [hdat] at r2
  cases r2
  have U:kvs.length=vs.length:=rel.length
  obtain⟨f0,f1,f2,f3,f4,f5⟩:=hf it (by simp)
  have aa:s.heap.DictAt (g6 X.prog X.w) d vs ep:=⟨o,es,ho,r1,hdat,r3⟩
  rw [U] at st
  exact wpAny_pyNext_dict_end (I.ok.hd hc) st aa (List.getElem?_eq_none (by omega)) fun h' eb=>⟨rfl,I.turned (t':=s.toks) (fun b o hb e=>eb b o hb e) f0 f1 f3 f4 f5⟩
 self:=fun _ _ _ _ _ st h=>wpAny_pyIter_keyiter st h
def EH(td:TE):TI:=fun σ H R=>td σ H fun x H1=>∃ a kvs,x= .ref a/\H1 a=some (.dK kvs)/\∀ o,R (nv a o kvs) (upd H1 a (.frz o (.dK kvs)))
theorem sx{X:Cx}{tg l:Expr}{tl:TE}(hl:PE X l tl):PI X tg l (EH tl):=by
 intro pins s σ H R I h
 refine eJ (hl pins s σ H _ I h) fun v s1 ⟨x,H1,I1,r1,q1⟩=>?_
 obtain⟨a,kvs,e,hH,q⟩:=q1
 subst e
 cases r1
 obtain⟨z,J,vs,rel,ob,es,ep,U,c1,c2,c3⟩:=sh I1.hok hH
 have aa:s1.heap.DictAt (g6 X.prog X.w) a vs ep:=⟨ob,es,U,c1,c2,c3⟩
 have ab:kvs.length=vs.length:=rel.length
 have I2:=I1.freeze hH U
 refine wpAny_pyIter_dict J aa ?_
 refine⟨s1.heap.objs.size,[s1.heap.objs.size],_,nv a ob kvs,_,rfl,I2.kept (t':=s1.toks) fun b o e=>Heap.get?_push_of_some _ e,A9 a _ ob kvs c2,⟨_,Heap.get?_push_size _ rfl,rfl,by rw [ab];rfl⟩,fun b hb=>?_,q ob⟩
 have e:b=s1.heap.objs.size:=by simpa using hb
 subst e
 exact I2.fpOk (Nat.le_refl _) (I2.hok.fresh (Nat.le_refl _))
theorem tE{d:Addr}{o:Obj}{kvs:List (Key×V)}{g:TG}{tb:TS}{D:Ends}{σ:St}{H:Hp}(Pv:Nat->St->Hp->Prop)(h0:Pv 0 σ H)(hl:∀ i σ H,i<=kvs.length->Pv i σ H->H d=some (.frz o (.dK kvs)))
  (hs:∀ i kv σ H,kvs[i]? =some kv->Pv i σ H->g (kV kv.1) σ H fun σ2 H2=>tb {D with nx:=Pv (i + 1),ct:=Pv (i + 1),bk:=D.nx} σ2 H2)(hd:∀ σ H,Pv kvs.length σ H->D.nx σ H):
  ∃ W:Nat->Nat->St->Hp->Prop,(∃ m,W 0 m σ H)/\∀ i m σ H,W i m σ H->
   ((nv d o kvs).stop i H/\D.nx σ H)\/((nv d o kvs).go i H/\∃ N:St->Hp->Prop,(∀ σ' H',N σ' H'->∃ m',m' < m/\W (i + 1) m' σ' H')/\∀ x H',(nv d o kvs).yld i H x H'->g x σ H' fun σ2 H2=>tb {D with nx:=N,ct:=N,bk:=D.nx} σ2 H2):=by
 refine⟨fun i m σ H=>m=kvs.length - i/\i<=kvs.length/\Pv i σ H,⟨kvs.length,by simp,Nat.zero_le _,h0⟩,?_⟩
 rintro i m σ H ⟨rfl,hi,p⟩
 have q:=hl i σ H hi p
 by_cases I:i < kvs.length
 ·refine .inr ⟨⟨q,I⟩,Pv (i + 1),fun σ' H' U=>⟨kvs.length - (i + 1),by omega,rfl,I,U⟩,fun x H' y=>?_⟩
  obtain⟨rfl,kv,J,rfl⟩:=y
  exact hs i kv σ _ J p
 ·have e:i=kvs.length:=by omega
  subst e
  exact .inl ⟨⟨q,Nat.le_refl _⟩,hd σ H p⟩
section
variable {X : Cx}
def yL:V->List V->Hp->VK->Prop:=fun x vs H Q=>∃ d kvs k y,x= .ref d/\vs=[kV k,y]/\H d=some (.dK kvs)/\kvs.length < sizeLine/\(∀ v,fH kvs k=some v->Q v H)/\(fH kvs k=none->Q y (upd H d (.dK (putK kvs k y))))
theorem qV:nO X "dict.setdefault" yL:=by
 intro pins s σ H x vs v us Q I rx rv h
 obtain⟨d,kvs,k,y,rfl,rfl,hH,hz,q1,q2⟩:=h
 cases rx
 obtain⟨u,w',rfl,ru,J⟩:=rv.two
 obtain⟨z,hd,vs,rel,dd⟩:=sh I.hok hH
 refine call_meetsIn F.slot_dict_setdefault dd.typeIs F.entry_dict_setdefault (F.args_dict_setdefault_3 _ _ _) (kt_meets_setdefault (g6 X.prog X.w) d (mD ru) hd w')
  ⟨vs,dd,by rw [<-rel.length];exact z,fun v hv=>?_,fun hn h' U hs=>?_⟩
 ·have r:=rel.val k
  rw [hv] at r
  cases l:fH kvs k with
  | none=>rw [l] at r;exact(show False from r).elim
  | some v'=>
   rw [l] at r
   exact⟨v',H,I.tok _,r,q1 v' l⟩
 ·have l:fH kvs k=none:=by
   have r:=rel.val k
   rw [hn] at r
   cases l:fH kvs k with
   | none=>rfl
   | some v'=>rw [l] at r;exact(show False from r).elim
  have he:∃ q,h'.get? d=some q:=let ⟨q,_,_,hq,_⟩:=U;⟨q,hq⟩
  have hl:(putK kvs k y).length<=sizeLine:=by have:=ph kvs k y;omega
  exact⟨y,_,uL I (by rw [hH];exact True.intro) hs he (zM hl hd (rel.put k J) U),J,q2 l⟩
def zk:V->List V->Hp->VK->Prop:=fun x vs H Q=>∃ d y z o,x= .ref d/\vs=[y,z]/\ic H d y o/\Q (o.getD z) H
theorem vf(hu:X.A.units + 1 < cLine):nO X "dict.get" zk:=by
 intro pins s σ H x vs v us Q I U rv h
 obtain⟨d,y,z,o,rfl,rfl,g,q⟩:=h
 cases U
 obtain⟨u,w',rfl,ru,J⟩:=rv.two
 exact Eo hu I g ru J fun w2 s3 I3 r3=>⟨_,H,I3,r3,q⟩
theorem rQ{K:W.Frag}{H:Hp}{d:Addr}{kvs:List (Key×V)}(h:H d=some (.dK kvs)):rC K "dict" (.ref d) H:= .inr (.inr (.inl ⟨rfl,.inl ⟨kvs,h⟩⟩))
theorem zg:∀{vs:List Value} {ss:List Str},vs.length=ss.length->(∀(j:Nat) (v:Value),vs[j]? =some v->∃ x t,ss[j]? =some x/\v= .str x t)->StrsAre vs ss
 | [],[],_,_=> .nil
 | [],_::_,e,_=>by cases e
 | _::_,[],e,_=>by cases e
 | v::vs,x::ss,e,h=>by
  obtain⟨J,t,h1,rfl⟩:=h 0 v rfl
  cases h1
  exact .cons x t (zg (Nat.succ.inj e) fun j v I=>h (j + 1) v I)
theorem vJ:∀{vs:List Value} {ss:List Str},StrsAre vs ss->Vals (ss.map V.str) vs
 | _,_,.nil=> .nil
 | _,_,.cons x t h=> .cons ⟨t,rfl⟩ (vJ h)
theorem sj(hc:X.calm=true):iB X (.builtin "sorted") (fun xs H Q=>∃(d:Addr) (kvs:List (Key×V)) (ss:List Str),xs=[.ref d]/\Rd H d (.dK kvs)/\kvs.map (·.1)=ss.map Sum.inr/\ss.length < 64/\
  ∀(l:Addr) (ts:List Str),H l=none->ts.Perm ss->sortedS ts=true->Q (.ref l) (upd H l (.lst (ts.map V.str)))):=by
 intro pins s σ H xs us Q I r h
 obtain⟨d,kvs,ss,rfl,hq,hk,ah,q⟩:=h
 obtain⟨u,rfl,rx⟩:=vals1 r
 cases rx
 obtain⟨z,ae,vs,rel,dd⟩:=kF I.hok hq
 obtain⟨ep,ai⟩:=dd.dictAt
 have af:kvs.length=ss.length:=by
  have:=congrArg List.length hk
  rwa [List.length_map,List.length_map] at this
 refine Calls.call_function_entry kind_sorted plain_sorted entry_sorted (args_sorted1 _) ?_
 unfold Builtin.«sorted»
 refine wpAny_bind (m:=checkCount "sorted" 1 1 _) (wpAny_pure ?_)
 refine wpAny_bind (W.kdu_collect (A:=X.A.in1) (W.kdl_dict (knd:=g6 X.prog X.w) (kvs:=vs) (ep:=ep) ae) (I.ok.hd hc) ai (by rw [<-rel.length];exact z) fun h' tk acc aa U=>?_)
 have hl:acc.toList.length=vs.length:=by rw [Array.length_toList];exact U.1
 have hS:StrsAre acc.toList ss:=by
  refine zg (by rw [hl,<-rel.length,af]) fun j v hj=>?_
  obtain⟨k,x,hx,ag⟩:=U.2 j v (by rw [<-Array.getElem?_toList];exact hj)
  have J:(kvs.map (·.1))[j]? =some k:=by rw [rel.keys,List.getElem?_map,hx];rfl
  rw [hk,List.getElem?_map] at J
  cases hs:ss[j]? with
  | none=>rw [hs] at J;cases J
  | some y=>
   rw [hs] at J
   have e:Sum.inr y=k:=Option.some.inj J
   subst e
   obtain⟨t,rfl⟩:=(yw ag:RelV (kV (Sum.inr y)) v)
   exact⟨y,t,rfl,rfl⟩
 have aj:acc.toList.length < 64:=by rw [hl,<-rel.length,af];exact ah
 have hsz:(sizeLine:Nat)=16777216:=sizeLine_eq
 refine wpAny_bind (wpAny_newList ?_ (by omega))
 have ab:(h'.push (seqObj "list" acc.toList.toArray 0)).get? h'.objs.size=some (seqObj "list" acc.toList.toArray 0):=Heap.get?_push_size _ rfl
 show wpAny _ _ _ _ _ {s with heap:=h'.push (seqObj "list" acc.toList.toArray 0),toks:=tk}
 refine wpAny_bind (wpAny_holding (wpAny_call_entry slot_list_sort ⟨_,ab,rfl⟩ entry_list_sort (list_sort_treeK strKind_oneLt ab hS.keysOf (fun ao aq rest e=>keyKind_strs (by rw [<-e];exact hS)) aj fun ak a1 a2=>⟨_,rfl,?_⟩) (args_list_sort _)))
 obtain⟨ts,b1,b2,b3⟩:=sorted_out_str hS a1 a2
 obtain⟨e,he⟩:=sortedHeap_at (out:=(arrOf ak).map (·.2)) ab
 have I1:Inv X pins σ H {s with heap:=h',toks:=tk}:=I.kept (t':=tk) aa
 refine wpAny_pure ⟨_,rfl,.ref h'.objs.size,_,I1.laid (t':=tk) (fun b o hb=>?_) (Nat.le_refl _) (show gk X.prog X.w _ _ _ (.lst (ts.map V.str)) from⟨by rw [List.length_map,b2.length_eq];omega,_,e,vJ b1,by rw [he]⟩),rfl,q _ ts (I1.hok.fresh (Nat.le_refl _)) b2 b3⟩
 rw [sortedHeap_old (Nat.ne_of_lt (Heap.lt_size hb)) (by rw [size_push'];exact Nat.lt_succ_of_lt (Heap.lt_size hb))]
 exact Heap.get?_push_of_some _ hb
theorem EO:j6 X "str.startswith" (fun x xs H Q=>∃ z y,x= .str z/\xs=[.str y]/\Q (.bl (Txt.startswith z y)) H):=by
 intro pins s σ H x xs v us Q I J rs h
 obtain⟨z,y,rfl,rfl,q⟩:=h
 obtain⟨t,rfl⟩:=J
 obtain⟨u,rfl,t',rfl⟩:=vals1 rs
 exact SC.startswith ⟨.bl _,H,I,rfl,q⟩
theorem range_any(bs:List Bool):((List.range bs.length).any fun i=>(bs[i]?).getD false)=bs.any id:=by
 rw [Bool.eq_iff_iff,List.any_eq_true,List.any_eq_true]
 constructor
 ·rintro⟨i,hi,e⟩
  have I:=List.mem_range.mp hi
  rw [List.getElem?_eq_getElem I,Option.getD_some] at e
  exact⟨_,List.getElem_mem I,e⟩
 ·rintro⟨b,hb,e⟩
  obtain⟨i,hi,J⟩:=List.getElem_of_mem hb
  refine⟨i,List.mem_range.mpr hi,?_⟩
  rw [List.getElem?_eq_getElem hi,Option.getD_some,J]
  exact e
theorem AF(hc:X.calm=true):iB X (.builtin "any") (fun xs H Q=>∃(p:Addr) (bs:List Bool),xs=[.ref p]/\d4 X.K H p (bs.map V.bl)/\Q (.bl (bs.any id)) H):=by
 intro pins s σ H xs us Q I r h
 obtain⟨p,bs,rfl,hq,q⟩:=h
 obtain⟨u,rfl,rx⟩:=vals1 r
 cases rx
 obtain⟨J,rv,pl,hz⟩:=I.list hq
 have U:=pl.isList
 have hlen:=rv.length
 rw [List.length_map] at hlen
 have aa:p < s.heap.objs.size:=by obtain⟨_,e,_⟩:=U;exact Heap.lt_size e
 refine call_any_walk (wpAny_pyIter_list U ?_)
 refine⟨s.heap.objs.size,[s.heap.objs.size,p],[s.heap.objs.size],J.toArray.size,_,_,fun i=>(bs[i]?).getD false,rfl,Walks.list (A:=X.A.in1) (I.ok.hd hc) _ p (Nat.ne_of_lt aa) J.toArray,
  ⟨⟨_,Heap.get?_push_size _ rfl,rfl,rfl⟩,U.push _⟩,fun i v s' Q' E' hP hQ=>?_,fun h' tk hk=>?_⟩
 ·obtain⟨b,e,rfl⟩:=sV rv i v (by simpa using hP)
  simp only [e,Option.getD_some] at hQ
  exact wpAny_truthy_bool hQ
 ·have e:((List.range J.toArray.size).any fun i=>(bs[i]?).getD false)=bs.any id:=by
   rw [List.size_toArray,<-hlen];exact range_any bs
  rw [e]
  exact⟨.bl _,H,I.kept (LSm.kept_iter hk),rfl,q⟩
theorem xx:∀{ns:List Nat} {us:List Value},Vals (ns.map fun(n:Nat)=>V.int (n:Int)) us->∀(i:Nat) (v:Value),us[i]? =some v->∃ n t,ns[i]? =some n/\v= .int (n:Int) t
 | [],_,.nil,i,v,h=>by simp at h
 | b::bs,_,.cons r t,0,v,h=>by
  obtain⟨k,I⟩:=(show ∃ k,_=Value.int (b:Int) k from r)
  subst I
  simp at h
  exact⟨b,k,by simp,h.symm⟩
 | b::bs,_,.cons r t,i + 1,v,h=>by
  obtain⟨c,k,J,U⟩:=xx t i v (by simpa using h)
  exact⟨c,k,by simpa using J,U⟩
theorem sJ(ns:List Nat):∀ k,k<=ns.length->preSum (fun i=>(((ns[i]?).getD 0:Nat):Int)) k=((ns.take k).sum:Nat)
 | 0,_=>rfl
 | k + 1,h=>by
  show preSum _ k + (((ns[k]?).getD 0:Nat):Int)=_
  rw [sJ ns k (by omega),List.take_add_one,List.sum_append,List.getElem?_eq_getElem (show k < ns.length by omega)]
  simp
theorem EZ(ns:List Nat)(k:Nat):(ns.take k).sum<=ns.sum:=by
 have:=congrArg List.sum (List.take_append_drop k ns)
 rw [List.sum_append] at this
 omega
theorem xI:∀{ns:List Nat} {n:Nat},n∈ns->n<=ns.sum
 | m::r,n,h=>by
  rw [List.sum_cons]
  rcases List.mem_cons.mp h with e | e
  ·omega
  ·have:=xI e
   omega
theorem xC(hc:X.calm=true):iB X (.builtin "sum") (fun xs H Q=>∃(p:Addr) (ns:List Nat),xs=[.ref p]/\d4 X.K H p (ns.map fun(n:Nat)=>V.int (n:Int))/\ns.sum<=1000000/\Q (.int ((ns.sum:Nat):Int)) H):=by
 intro pins s σ H xs us Q I r h
 obtain⟨p,ns,rfl,hq,hS,q⟩:=h
 obtain⟨u,rfl,rx⟩:=vals1 r
 cases rx
 obtain⟨J,rv,pl,hz⟩:=I.list hq
 have hl:=pl.isList
 have hlen:=rv.length
 rw [List.length_map] at hlen
 have U:p < s.heap.objs.size:=by obtain⟨_,e,_⟩:=hl;exact Heap.lt_size e
 refine call_sum_walk (wpAny_pyIter_list hl ?_)
 refine⟨s.heap.objs.size,[s.heap.objs.size,p],[s.heap.objs.size],J.toArray.size,_,_,fun i=>(((ns[i]?).getD 0:Nat):Int),rfl,Walks.list (A:=X.A.in1) (I.ok.hd hc) _ p (Nat.ne_of_lt U) J.toArray,
  ⟨⟨_,Heap.get?_push_size _ rfl,rfl,rfl⟩,hl.push _⟩,fun b hb=>?_,fun i v hP=>?_,fun j hj=>?_,fun h' tk t' hk=>?_⟩
 ·have e:∀ o,(s.heap.push o).objs.size=s.heap.objs.size + 1:=fun o=>by show(s.heap.objs.push o).size=_;simp
  show b < (s.heap.push _).objs.size
  rw [e]
  rcases List.mem_cons.mp hb with z | z
  ·rw [z];exact Nat.lt_succ_self _
  ·rw [List.mem_singleton.mp z];exact Nat.lt_succ_of_lt U
 ·obtain⟨n,t,e,rfl⟩:=xx rv i v (by simpa using hP)
  refine⟨t,?_⟩
  show Value.int (n:Int) t=Value.int (((ns[i]?).getD 0:Nat):Int) t
  rw [e]
  rfl
 ·have aa:j < ns.length:=by rw [List.size_toArray] at hj;omega
  refine⟨?_,?_⟩
  ·show InLong (((ns[j]?).getD 0:Nat):Int)
   rw [List.getElem?_eq_getElem aa,Option.getD_some]
   have:=xI (List.getElem_mem aa)
   exact⟨by omega,by omega⟩
  ·rw [sJ ns (j + 1) (by omega)]
   have:=EZ ns (j + 1)
   exact⟨by omega,by omega⟩
 ·rw [List.size_toArray,<-hlen,sJ ns _ (Nat.le_refl _),List.take_of_length_le (Nat.le_refl _)]
  exact⟨.int _,H,I.kept (LSm.kept_iter hk),⟨t',rfl⟩,q⟩
end
section
variable {X : Cx} {o e : Expr} {es : List Expr} {to : TE} {t : TA} {name : Str} {apos cpos : Pos} {T id : String} {r : V -> List V -> Hp -> VK -> Prop}
theorem G8{K:W.Frag}(hK:X.K=K)(pa:PlainAttrs T)(slot:Slot T name id)(hty:typeOf (.builtin id)=pure (.type "method_descriptor"))(hm:j6 X id r)(ho:PE X o to)(ha:PA X (e::es) t)
  (hbase:attributeBase o name X.env (eval o X.env)=eval o X.env:=by rfl)
  (hfew:((backTo cpos (starEach (e::es) X.env)).all (fun x=> !x.1) && (backToKw cpos (keywordEach [] X.env)).all (fun x=>x.1.isSome)
   && decide ((e::es).length + ([]:List Keyword).length + (if ([]:List Keyword).isEmpty then 0 else 1) < 30))=true:=by rfl)
  (hline:(apos.endLine == cpos.line)=true:=by rfl)(hs:starEach (e::es) X.env=(false,eval e X.env)::starEach es X.env:=by rfl)(hplain:(backTo cpos (starEach es X.env)).any (·.1)=false:=by rfl):
  PE X (.Call (.Attribute o name apos) (e::es) [] cpos) (qp K T r to t):=by
 subst hK
 exact gj pa slot hty hm ho ha hbase hfew hline hs hplain
end
end L2
namespace Gn
open PySem L2 PyProof.Rows PySem.Spec
def B9(K:W.Frag):R2:=fun x y H Q=>∃ dx I,ia K H x dx/\ia K H y (.list I)/\dx.canLay0=true/\PyData.canLayAll0 I=true/\PyData.depthAll I<=50/\Q (.bl (!I.any fun d=>PyData.eqv d dx)) H
theorem E8{X:Cx}{K:W.Frag}(h:X.K=K)(hu:X.A.units + 100 < cLine):gz X (compareOp .NotIn) (B9 K):=by
 subst h
 intro pins s σ H x y v u Q I rx ry h
 obtain⟨dx,J,hx,hy,U,ly,hd,q⟩:=h
 obtain⟨as,ra⟩:=hx.reads I rx
 obtain⟨bs,rb⟩:=hy.reads I ry
 exact SeqAt.notIn_list_reads rb ra ly U (by have:min (PyData.depthAll J) dx.depth<=PyData.depthAll J:=Nat.min_le_left _ _;(clear ly U;omega)) ⟨.bl _,H,I,rfl,q⟩
section
variable {P : Program} {w : World} {K : PySem.W.Frag} {mg : Str -> Option Value} {base h : Heap}
def mU:V->Bool
 | .str _=>true
 | _=>false
def qU:V->Bool
 | .int _=>true
 | .bl _=>true
 | _=>false
def rO:V->Bool
 | .bl _=>true
 | _=>false
def Known(K:W.Frag)(H:Hp)(x:V):Prop:=∃ n,gY K H x (.type n)
theorem zO{K:W.Frag}{H:Hp}{x:V}{n:String}(h:gY K H x (.type n)):W.kitOne K (.type n) (.type "str")=some (mU x):=by
 cases h<;>kernel_rfl
theorem HG{K:W.Frag}{H:Hp}{x:V}{n:String}(h:gY K H x (.type n)):W.kitOne K (.type n) (.type "int")=some (qU x):=by
 cases h<;>kernel_rfl
theorem vp{K:W.Frag}{H:Hp}{x:V}{n:String}(h:gY K H x (.type n)):W.kitOne K (.type n) (.type "bool")=some (rO x):=by
 cases h<;>kernel_rfl
theorem Known.same {K:W.Frag}{H H':Hp}{x:V}(h:Known K H x)(e:d3 H H'):Known K H' x:=by
 obtain⟨n,h⟩:=h
 cases h with
 | non=>exact⟨_,.non⟩
 | bl b=>exact⟨_,.bl b⟩
 | int i=>exact⟨_,.int i⟩
 | str z=>exact⟨_,.str z⟩
 | flt z=>exact⟨_,.flt z⟩
 | lst q=>exact⟨_,.lst (e _ _ q)⟩
 | frz q=>exact⟨_,.frz (e _ _ q)⟩
 | tup q=>exact⟨_,.tup (e _ _ q)⟩
 | dK q=>exact⟨_,.dK (e _ _ q)⟩
 | dT q=>exact⟨_,.dT (e _ _ q)⟩
theorem eh{H:Hp}{a:Addr}{o:HO}(h:H a=none):d3 H (upd H a o):=fun b u e=>by rw [eC (fv e h)];exact e
theorem d3.upd {H H':Hp}{a:Addr}{o:HO}(s:d3 H H')(h:H' a=none):d3 H (upd H' a o):=s.trans (eh h)
structure Df (K : W.Frag) (mg : Str -> Option Value) (x : Str) (st : Stmt) (f : Addr) (fd : FuncData) : Prop where
 F : fD K x x st f fd
 m : mg x = some (.ref f)
theorem jH:bootBuiltins "isinstance"=some (.builtin "isinstance"):=dk
theorem yX:bootBuiltins "int"=some (.type "int"):=dk
theorem ve:bootBuiltins "bool"=some (.type "bool"):=dk
theorem uT:bootBuiltins "str"=some (.type "str"):=dk
theorem j7:bootBuiltins "list"=some (.type "list"):=dk
theorem nJ:bootBuiltins "tuple"=some (.type "tuple"):=dk
theorem gf:bootBuiltins "len"=some (.builtin "len"):=dk
theorem sQ:bootBuiltins "all"=some (.builtin "all"):=dk
theorem fN{x p:Str}{st:Stmt}{f:Addr}{fd:FuncData}(F:fD K x x st f fd)
  (h:∀(kV doc pm:Value) (an:Option Addr) (cdv ct:Value) (u:Value),bindArgs (W.fnOf x x (gF st) (gm st) (er st) .none kV doc pm an cdv ct) ⟨[u],[]⟩=pure ([p].zip [u])):Binds K fd [p] []:=
 F.binds fun kV doc pm an cdv ct us I=>match us,I with | [u],_=>h kV doc pm an cdv ct u
theorem g1{i:Nat}{v:V}{σ:L2.St}{H:Hp}{te:TE}{M:V->Hp->Prop}{N0:Hp->Prop}(h:te (σ.set i (some v)) H M):jT i v σ H fun σ2 H2=>uH σ2 H2 fun b H3=>if b=true then te σ2 H3 M else N0 H3:=by
 show if true=true then te (σ.set i (some v)) H M else N0 H
 exact eN h
structure Ex (K : W.Frag) (mg : Str -> Option Value) (x : Str) (C : Addr) : Prop where
 m : mg x = some (.ref C)
 q : W.excIn K C [.type "ValueError", .type "Exception", .type "BaseException", .type "object"] "ValueError.__new__" = true
structure ir (K : W.Frag) (mg : Str -> Option Value) (x : Str) (st : Stmt) (f : Addr) (fd : FuncData) (items : Array Value) : Prop where
 ex : ∃ (oc : Value) (od : Option Addr) (kV doc pm : Value) (an : Option Addr) (cdv ct : Value) (osl : Array (Option Value)) (T : Addr) (o : Obj) (n : Nat),
  fd = W.fnOf x x (gF st) (gm st) (er st) (.ref T) kV doc pm an cdv ct /\ K.lookup f = some ⟨oc, od, .func fd, osl⟩ /\ W.codeIn K cdv x = true /\ K.lookup T = some o /\ o.data = .seq items n
 kp : W.keepIn K (.ref f) = true
 m : mg x = some (.ref f)
theorem ir.ok1 {x:Str}{st:Stmt}{f:Addr}{fd:FuncData}{items:Array Value}{N ps:List Str}{k:Nat}{sp:Sp}(F:ir K mg x st f fd items)(S:eX N ps (er st))(len:∀ vs H Q E,sp vs H Q E->vs.length=ps.length)
  (hbody:∀(cdv:Value) (A:Around) (outer:List Env) (s:Shared) (H:Hp) (vs:List V) (Q:VK) (E:XK),gn k (A.deeper (envOfC x (er st) s.heap.objs.size f cdv))->sp vs H Q E->
   ∃ t,eK (gO (eP P w) P w K mg base N x (er st) f cdv A outer s H E) (gm st) t/\t {nx:=fun _ H'=>Q .non H',rt:=Q} (L2.start N vs) H):d8 P w K mg base (eP P w) (k + 1) f fd ps sp:=by
 obtain⟨oc,od,kV,doc,pm,an,cdv,ct,U,T,o,n,rfl,lk,I,_⟩:=F.ex
 exact qg lk I S len fun A outer s H vs Q E hr J=>hbody cdv A outer s H vs Q E hr J
theorem ir.binds {x:Str}{st:Stmt}{f:Addr}{fd:FuncData}{items:Array Value}{ps:List Str}{ds:List Value}(F:ir K mg x st f fd items)
  (h:∀(T:Addr) (kV doc pm:Value) (an:Option Addr) (cdv ct:Value) (us:List Value),(us++ds).length=ps.length->∃ k:Option (Array Value)->Sem (List (Str×Value)),
   bindArgs (W.fnOf x x (gF st) (gm st) (er st) (.ref T) kV doc pm an cdv ct) ⟨us,[]⟩=seqItems? (.ref T) >>= k/\k (some items)=pure (ps.zip (us++ds))):Binds K fd ps ds:=by
 obtain⟨oc,od,kV,doc,pm,an,cdv,ct,I,T,o,n,rfl,lk,J,U,hd⟩:=F.ex
 intro s us X hl
 obtain⟨k,h1,h2⟩:=h T kV doc pm an cdv ct us hl
 exact BindsTo.of_defaults (T:=T) rfl (X _ _ U) hd h1 h2
def g4(x:V)(least:Int)(most:Option Int):Bool:=match x with
 | .int i=>decide (least<=i) && (match most with | none=>true | some m=>decide (i<=m))
 | _=>false
def Fj:Option Int->V
 | none=> .non
 | some m=> .int m
def tW(K:W.Frag)(C:Addr):Sp:=fun vs H Q E=>∃(x:V) (l:Int) (m:Option Int),vs=[x,.int l,Fj m]/\Known K H x/\(g4 x l m=true->Q x H)/\(g4 x l m=false->E (.ref C) none H)
theorem wu{K:W.Frag}{H:Hp}:∀(ns:List Int),iT K H (ns.map V.int) (ns.map PyData.int)
 | []=> .nil
 | n::ns=> .cons (.int n) (wu ns)
theorem lay_ints:∀(ns:List Int),(PyData.list (ns.map PyData.int)).canLay0=true:=by
 intro ns
 induction ns with
 | nil=>rfl
 | cons n ns I=>exact I
theorem Paired.imp2 {α β:Type}{F G:α->β->Prop}:∀{l:List α} {m:List β},Paired F l m->(∀ a b,F a b->G a b)->Paired G l m
 | _,_,.nil,_=> .nil
 | _,_,.cons r t,f=> .cons (f _ _ r) (Paired.imp2 t f)
theorem Paired.app {α β:Type}{F:α->β->Prop}{a:α}{b:β}:∀{l:List α} {m:List β},Paired F l m->F a b->Paired F (l++[a]) (m++[b])
 | _,_,.nil,h=> .cons h .nil
 | _,_,.cons r t,h=> .cons r (Paired.app t h)
theorem Paired.len {α β:Type}{F:α->β->Prop}:∀{l:List α} {m:List β},Paired F l m->l.length=m.length
 | _,_,.nil=>rfl
 | _,_,.cons _ t=>by simp [Paired.len t]
theorem tT{H0 H:Hp}{a t:Addr}{o o':HO}(s:d3 H0 H)(ha:H0 a=none)(ht:H t=none):d3 H0 (upd (upd H t o) a o'):=fun b u e=>by
 rw [eC (fv e ha),eC (fv (s b u e) ht)]
 exact s b u e
theorem PS.nox {X:Cx}{st:Stmt}{t:TS}(h:PS X.nox st t):PS X st t:=fun pins s σ H D I hw=>
 wpAny_mono (h pins s σ H D (I.wish _) hw) (fun _ _ q=>q.unwish) fun _ _ z=>False.elim z
theorem qQ{te:TE}{σ2:L2.St}{H2:Hp}{M:VK}{N0:Hp->Prop}(h:te σ2 H2 M):uH σ2 H2 (fun b H3=>if b=true then te σ2 H3 M else N0 H3):=by
 show if true=true then te σ2 H2 M else N0 H2
 exact eN h
theorem gK{α β:Type}{F:α->β->Prop}:∀{l:List α} {m:List β},Paired F l m->∀{i:Nat} {a:α},l[i]? =some a->∃ b,m[i]? =some b/\F a b
 | _,_,.nil,i,a,h=>by simp at h
 | _,_,.cons r t,0,a,h=>by simp at h;subst h;exact⟨_,rfl,r⟩
 | _,_,.cons r t,i + 1,a,h=>by
  obtain⟨b,h1,h2⟩:=gK t (i:=i) (a:=a) (by simpa using h)
  exact⟨b,by simpa using h1,h2⟩
theorem oe{r n:Int}(hn:0 < n):∃ j:Nat,(j:Int)=r % n/\(j:Int) < n:=by
 have h1:=Int.emod_nonneg r (show n≠0 by omega)
 have h2:=Int.emod_lt_of_pos r hn
 exact⟨(r % n).toNat,by omega,by omega⟩
def ED(c:TT)(t u:TS):TS:=fun D σ H=>∃ J:L2.St->Hp->Prop,(c σ H fun b H1=>if b=true then t {D with nx:=J} σ H1 else u {D with nx:=J} σ H1)/\∀ I H',J I H'->D.nx I H'
theorem oj{X:Cx}{c:Expr}{a b:List Stmt}{tc:TT}{t u:TS}{pos:Pos}(hc:PT X c tc)(ha:eK X a t)(hb:eK X b u):PS X (.If c a b pos) (ED tc t u):=by
 intro pins s σ H D I h
 obtain⟨J,h1,h2⟩:=h
 refine eJ (fE hc ha hb pins s σ H {D with nx:=J} I h1) fun f s1 q=>?_
 cases f with
 | next=>obtain⟨U,H',I',q⟩:=q;exact⟨U,H',I',h2 _ _ q⟩
 | brk=>exact q
 | cont=>exact q
 | ret u=>exact q
theorem Cm{xs:List V}{n L:Int}(h0:0 < xs.length)(hL:L=(xs.length:Nat)):∃ v∈xs,jr xs (n % L)=some v:=by
 obtain⟨j,J,U⟩:=oe (r:=n) (n:=L) (by omega)
 have I:j < xs.length:=by omega
 refine⟨xs[j],List.getElem_mem I,?_⟩
 rw [<-J]
 exact fC (List.getElem?_eq_getElem I)
theorem iy{a b:Int}(h:a=b):decide (V.int a=V.int b)=true:=by subst h;exact decide_eq_true rfl
theorem jg{a b:Int}(h:a≠b):decide (V.int a=V.int b)=false:=decide_eq_false fun z=>h (by injection z)
theorem PE.imp {X:Cx}{e:Expr}{t t':TE}(h:PE X e t)(i:∀ σ H Q,t' σ H Q->t σ H Q):PE X e t':=fun pins s σ H Q I q=>h pins s σ H Q I (i σ H Q q)
theorem sk{d:PyData}(h:d.canLay0=true):PyData.eqv d d=true:=SeqAt.eqv_refl d h
def Ar(K:W.Frag):List V->Hp->VK->Prop:=fun xs H Q=>∃ x c t b,xs=[x,c]/\gY K H x t/\
  ((∃ n,c= .ty n/\W.kitOne K t (.type n)=some b)\/(∃ C,c= .ref C/\W.kitOne K t (.ref C)=some b))/\Q (.bl b) H
theorem wC{X:Cx}{K:W.Frag}(h:X.K=K):iB X (.builtin "isinstance") (Ar K):=by subst h;exact jJ
theorem yh{X:Cx}{K:W.Frag}(h:X.K=K):mY X (rk K):=by subst h;exact fS
theorem p6{X:Cx}{K:W.Frag}(h:X.K=K):mY X (pX K):=by subst h;exact iu
theorem qr{K:W.Frag}:W.kitOne K (.type "tuple") (.type "tuple")=some true:=by kernel_rfl
theorem t8{K:W.Frag}:W.kitOne K (.type "list") (.type "list")=some true:=by kernel_rfl
theorem hV{P:Program}{w:World}{X:Cx}:Passes (eP P w) X E0:=fun _ _ _ _ _ _ _ h=>(eP.no h).elim
theorem fK{x:Str}{st:Stmt}{f:Addr}{oc kV doc pm cd ct:Value}{od an:Option Addr}{sl:Array (Option Value)}(X:K.In h)(G:h.Ns mainGlobals mg)(a:W.nsIn K mainGlobals x=some (some (.ref f)))
  (l:K.lookup f=some ⟨oc,od,.func (W.fnOf x x (gF st) (gm st) (er st) .none kV doc pm an cd ct),sl⟩)(c:W.codeIn K cd x=true)(k:W.keepIn K (.ref f)=true):∃ f fd,Df K mg x st f fd:=
 ⟨f,_,iM l c k,W.mg_of X G a⟩
theorem vB{x:Str}{st:Stmt}{f T:Addr}{oc kV doc pm cd ct tc:Value}{od an td:Option Addr}{sl tsl:Array (Option Value)}{items:Array Value}{tn:Nat}(X:K.In h)(G:h.Ns mainGlobals mg)(a:W.nsIn K mainGlobals x=some (some (.ref f)))
  (l:K.lookup f=some ⟨oc,od,.func (W.fnOf x x (gF st) (gm st) (er st) (.ref T) kV doc pm an cd ct),sl⟩)(c:W.codeIn K cd x=true)(k:W.keepIn K (.ref f)=true)
  (t:K.lookup T=some ⟨tc,td,.seq items tn,tsl⟩):∃ f fd,ir K mg x st f fd items:=
 ⟨f,_,⟨oc,od,kV,doc,pm,an,cd,ct,sl,T,_,tn,rfl,l,c,t,rfl⟩,k,W.mg_of X G a⟩
end
open PySem PySem.W PySem.Calls PyProof.Rows
theorem xw:∀(ns:List Int) (m:Nat),WData.weightAll (ns.map WData.int)<=m->∀ n∈ns,Builtin.Int.intBits n<=m
 | [],_,_,_,h=>nomatch h
 | i::ns,m,hw,n,h=>by
  have I:Builtin.Int.intBits i + 1 + WData.weightAll (ns.map WData.int)<=m:=hw
  rcases List.mem_cons.mp h with rfl | h
  ·omega
  ·exact xw ns m (by omega) n h
theorem CM{ns:List Int}(h:WData.layableAll [WData.list (ns.map WData.int)]=true):∀ n∈ns,Builtin.Int.intBits n<=2 ^ 20:=by
 have h1:(WData.layable (WData.list (ns.map WData.int)) && true)=true:=h
 rw [Bool.and_true] at h1
 have h2:=(Bool.and_eq_true_iff.mp h1).2
 exact xw ns _ (of_decide_eq_true h2)
theorem Ez{l:OpenLaw}{n:Nat}{q:Program}{loose:List Str}{XP:(Str->Option Value)->Heap->Prop}{YP:World->Heap->Prop}{d:DefRec}
  (hn:l.most=some n)(hdf:d.params.defaults=[])
  (call:∀(w:World) (s₀ s₁:Shared) (mg mb:Str->Option Value) (fa:Addr) (a:Addr) (vs:List Value) (ns:List Int),
   Ground q loose [] XP w s₀ mg mb s₁.heap->YP w s₁.heap->mg d.name=some (.ref fa)->
   s₁.heap.get? a=some {cls:= .type "list",data:= .seq vs.toArray}->IntsAre vs ns->ns.length<=n->(∀ i∈ns,Builtin.Int.intBits i<=2 ^ 20)->s₁.gens=#[]->
   codeAny (model l.prog w) callerA (.call (.ref fa) ⟨[.ref a],[]⟩) (fun r s'=>r= .ok (.ret (.bool true))/\OldK s₁.heap s'.heap/\s'.os=s₁.os/\AllBare s'.gens) s₁):
  WalkO q loose XP YP l.row.toRowW d [] (fun f vs=>PySem.call f vs):=by
 intro w s₀ s₁ mg mb G Y fa o pm cd doc dV kV ho hd ae hD aa hg args vals as I J af ab ag
 obtain rfl:dV= .none:=Dflts.none hD hdf
 obtain rfl:kV= .none:=Dflts.noKw hD
 obtain⟨a,vs,ns,rfl,rfl,U,hints,hlen⟩:=Att.E7 hn I ab
 refine enter_call (codeAny_mono (call w s₀ s₁ mg mb fa a vs ns G Y aa U hints hlen (CM J) hg) fun r s' hq=>?_)
 obtain⟨rfl,h2,h3,h4⟩:=hq
 exact⟨.inl ⟨.bool true,.bool true,[],rfl,fun _=>rfl,.bool true,Att.A4 l _,fun _=>⟨List.Pairwise.nil,fun _ hm=>(nomatch hm)⟩⟩,h2,h3,h4⟩
theorem G7{l:W.OpenLaw}{n k:Nat}{q:Program}{loose:List Str}{XP:(Str->Option Value)->Heap->Prop}{YP:World->Heap->Prop}{d:DefRec}{K:Params->W.Frag}{sp:W.Frag->Sp}{x:Str}
  (hn:l.most=some n)(hn2:n<=sizeLine)(hdf:d.params.defaults=[])(hr:gn k callerA)
  (hY:∀(w:World) (h:Heap),YP w h->(K w.params).In h)
  (F:∀(w:World) (mg:Str->Option Value) (fa:Addr) (h:Heap),(K w.params).In h->h.Ns mainGlobals mg->mg d.name=some (.ref fa)->
   ∃ fd:FuncData,(∀(s:Shared) (u:Value),BindsTo s fd ⟨[u],[]⟩ [(x,u)])/\
    ∀ base:Heap,(K w.params).In base->base.Ns mainGlobals mg->d8 l.prog w (K w.params) mg base eu k fa fd [x] (sp (K w.params)))
  (hsp:∀(K:W.Frag) (H:Hp) (a:Addr) (ns:List Int),ns.length<=n->(∀ i∈ns,Builtin.Int.intBits i<=2 ^ 20)->d4 K H a (ns.map V.int)->sp K [.ref a] H (fun v _=>v= .bl true) fun _ _ _=>False):
  W.WalkO q loose XP YP l.row.toRowW d [] (fun f vs=>PySem.call f vs):=by
 refine Ez hn hdf fun w s₀ aa mg mb fa a vs ns G Y U J hints hlen I hg=>?_
 have KX:=hY w _ Y
 obtain⟨fd,hb,hF⟩:=F w mg fa _ KX G.T.g U
 exact By KX G.T.g G.T.b G.T.builtins G.T.nolimit hg J hints (Nat.le_trans hlen hn2) hr hF hb (fun H hO hS=>hsp _ H a ns hlen I hS) fun H e s' z=>z
section
variable {X : Cx}
end
def dN(ns:List Nat):List PyData:=ns.map fun(n:Nat)=>PyData.int (n:Int)
theorem qA{K:W.Frag}{H:Hp}:∀(ns:List Nat),iT K H (ns.map fun(n:Nat)=>V.int (n:Int)) (dN ns)
 | []=> .nil
 | n::ns=> .cons (.int n) (qA ns)
theorem w9:∀(ns:List Nat),(PyData.list (dN ns)).canLay0=true
 | []=>rfl
 | n::ns=>w9 ns
theorem vm:∀ ns:List Nat,(PyData.list (dN ns)).depth<=2
 | []=>by decide
 | s::ss=>by
  show max 0 (PyData.depthAll (dN ss)) + 1<=2
  have I:PyData.depthAll (dN ss) + 1<=2:=vm ss
  omega
theorem vC(xs:List V)(k:Nat):iU xs none (some (k:Int))=xs.take k:=by
 unfold iU
 rw [HT.qu,HT.yd,List.drop_zero,Nat.sub_zero]
 by_cases h:k<=xs.length
 ·rw [Nat.min_eq_left h]
 ·rw [Nat.min_eq_right (by omega),List.take_of_length_le (Nat.le_refl _),List.take_of_length_le (by omega)]
theorem tL(xs:List V)(k:Nat):iU xs (some (k:Int)) none=xs.drop k:=by
 unfold iU
 rw [HT.qu,HT.yd]
 by_cases h:k<=xs.length
 ·rw [Nat.min_eq_left h,List.take_of_length_le (by rw [List.length_drop];omega)]
 ·rw [Nat.min_eq_right (by omega),List.drop_of_length_le (Nat.le_refl _),List.drop_of_length_le (by omega)]
  exact List.take_nil
theorem Paired.tk {α β:Type}{F:α->β->Prop}:∀(n:Nat) {l:List α} {m:List β},Paired F l m->Paired F (l.take n) (m.take n)
 | 0,_,_,_=> .nil
 | _ + 1,_,_,.nil=> .nil
 | n + 1,_,_,.cons r t=> .cons r (Paired.tk n t)
theorem Paired.dp {α β:Type}{F:α->β->Prop}:∀(n:Nat) {l:List α} {m:List β},Paired F l m->Paired F (l.drop n) (m.drop n)
 | 0,_,_,h=>h
 | _ + 1,_,_,.nil=> .nil
 | n + 1,_,_,.cons _ t=>Paired.dp n t
theorem Paired.cat {α β:Type}{F:α->β->Prop}:∀{l:List α} {m:List β} {l':List α} {m':List β},Paired F l m->Paired F l' m'->Paired F (l++l') (m++m')
 | _,_,_,_,.nil,h=>h
 | _,_,_,_,.cons r t,h=> .cons r (Paired.cat t h)
theorem Paired.at {α β:Type}{F:α->β->Prop}:∀{l:List α} {m:List β},Paired F l m->∀{i:Nat} {b:β},m[i]? =some b->∃ a,l[i]? =some a/\F a b
 | _,_,.nil,i,b,h=>by cases i<;>cases h
 | _,_,.cons r t,0,b,h=>by
  have e:=Option.some.inj h
  subst e
  exact⟨_,rfl,r⟩
 | _,_,.cons r t,i + 1,b,h=>Paired.at t h
end Gn
namespace K04
def gZ(n:Nat):List Nat:=if h:n < 128 then [n] else (128 + n % 128)::gZ (n / 128)
termination_by n
decreasing_by omega
def pk(ns:List Nat):List Nat:=ns.flatMap gZ
theorem kM{n:Nat}(h:n < 128):gZ n=[n]:=by rw [gZ,dif_pos h]
theorem me{n:Nat}(h:¬ n < 128):gZ n=(128 + n % 128)::gZ (n / 128):=by rw [gZ,dif_neg h]
theorem vo:∀(k n:Nat),n < 128 ^ (k + 1)->(gZ n).length<=k + 1
 | 0,n,h=>by rw [kM (by simpa using h)];exact Nat.le_refl _
 | k + 1,n,h=>by
  by_cases h1:n < 128
  ·rw [kM h1];simp
  ·rw [me h1,List.length_cons]
   have:=vo k (n / 128) (by rw [Nat.div_lt_iff_lt_mul (by decide)];rw [Nat.pow_succ] at h;exact h)
   omega
theorem qC(a b:List Nat):pk (a++b)=pk a++pk b:=by simp [pk]
theorem yV(n:Nat):pk [n]=gZ n:=by simp [pk]
theorem Ef:∀(n:Nat),∀ p∈gZ n,p<=255:=by
 intro n
 induction n using gZ.induct with
 | case1 n h=>
  intro p hp
  rw [kM h] at hp
  have:=List.mem_singleton.mp hp
  omega
 | case2 n h I=>
  intro p hp
  rw [me h] at hp
  rcases List.mem_cons.mp hp with e | hp
  ·omega
  ·exact I p hp
theorem Bh(ns:List Nat):∀ p∈pk ns,p<=255:=fun p I=>by
 obtain⟨n,_,h⟩:=List.mem_flatMap.mp I
 exact Ef n p h
def Rd(ns R done:List Nat)(num wt:Nat):Prop:=
 (R=[]/\num=0/\wt=1/\done=ns)\/∃ r rest,R=gZ r++pk rest/\ns=done++(num + r * wt)::rest/\((wt=1/\num=0)\/(1 < wt/\0 < r))
theorem Rd.next (done rest:List Nat):Rd (done++rest) (pk rest) done 0 1:=by
 cases rest with
 | nil=>exact .inl ⟨rfl,rfl,rfl,by simp⟩
 | cons r rest=>exact .inr ⟨r,rest,rfl,by simp,.inl ⟨rfl,rfl⟩⟩
theorem Rd.start (ns:List Nat):Rd ns (pk ns) [] 0 1:=Rd.next [] ns
theorem Rd.more {ns R done:List Nat}{num wt c:Nat}(h:Rd ns (c::R) done num wt)(hc:128<=c):Rd ns R done (num + c % 128 * wt) (wt * 128):=by
 rcases h with ⟨e,_⟩ | ⟨r,rest,e,hn,hw⟩
 ·cases e
 ·by_cases I:r < 128
  ·rw [kM I] at e
   have:c=r:=(List.cons.inj e).1
   omega
  ·rw [me I] at e
   obtain⟨J,U⟩:=List.cons.inj e
   refine .inr ⟨r / 128,rest,U,?_,.inr ⟨?_,by omega⟩⟩
   ·rw [hn,J]
    congr 2
    have h1:(128 + r % 128) % 128=r % 128:=by omega
    rw [h1]
    have h2:r=128 * (r / 128) + r % 128:=(Nat.div_add_mod r 128).symm
    generalize r / 128=q at *
    generalize r % 128=m at *
    subst h2
    rw [Nat.add_mul,Nat.mul_comm wt 128,<-Nat.mul_assoc,Nat.mul_comm q 128]
    omega
   ·rcases hw with ⟨h1,_⟩ | ⟨h1,_⟩<;>omega
theorem Rd.last {ns R done:List Nat}{num wt c:Nat}(h:Rd ns (c::R) done num wt)(hc:c < 128):¬ (c=0/\1 < wt)/\Rd ns R (done++[num + c % 128 * wt]) 0 1:=by
 rcases h with ⟨e,_⟩ | ⟨r,rest,e,hn,hw⟩
 ·cases e
 ·by_cases I:r < 128
  ·rw [kM I] at e
   obtain⟨J,U⟩:=List.cons.inj e
   subst J
   refine⟨?_,?_⟩
   ·rintro⟨h1,h2⟩
    rcases hw with ⟨h3,_⟩ | ⟨_,h3⟩<;>omega
   ·have e3:R=pk rest:=by simpa using U
    rw [e3,hn,Nat.mod_eq_of_lt I]
    have:=Rd.next (done++[num + c * wt]) rest
    simpa using this
  ·rw [me I] at e
   have:c=128 + r % 128:=(List.cons.inj e).1
   omega
theorem Rd.len {ns R done:List Nat}{num wt:Nat}(h:Rd ns R done num wt):done.length<=ns.length:=by
 rcases h with ⟨_,_,_,e⟩ | ⟨r,rest,_,e,_⟩
 ·rw [e];exact Nat.le_refl _
 ·rw [e,List.length_append];omega
theorem Rd.done {ns done:List Nat}{num wt:Nat}(h:Rd ns [] done num wt):wt=1/\done=ns:=by
 rcases h with ⟨_,_,J,U⟩ | ⟨r,rest,e,_⟩
 ·exact⟨J,U⟩
 ·exfalso
  by_cases I:r < 128
  ·rw [kM I] at e;cases e
  ·rw [me I] at e;cases e
abbrev Pr:=Nat×List Nat
def iX:Nat->List Nat->Prop
 | _,[]=>True
 | l,n::r=>l<=n/\iX (n + 1) r
def gw:Nat->List Nat->List Nat
 | _,[]=>[]
 | l,n::r=>(n - l)::gw (n + 1) r
def nums:Nat->List Nat->List Nat
 | _,[]=>[]
 | l,g::r=>(l + g)::nums (l + g + 1) r
theorem wF:∀(l:Nat) (xs:List Nat),iX l xs->nums l (gw l xs)=xs
 | _,[],_=>rfl
 | l,n::r,h=>by
  have e:l + (n - l)=n:=by have:=h.1;omega
  show(l + (n - l))::nums (l + (n - l) + 1) (gw (n + 1) r)=n::r
  rw [e,wF (n + 1) r h.2]
theorem ku:∀(l:Nat) (xs:List Nat),(gw l xs).length=xs.length
 | _,[]=>rfl
 | l,n::r=>by show(gw (n + 1) r).length + 1=r.length + 1;rw [ku]
theorem u9{b:Nat}:∀(l:Nat) (xs:List Nat),(∀ x∈xs,x < b)->∀ g∈gw l xs,g < b
 | _,[],_,_,h=>nomatch h
 | l,n::r,hb,g,h=>by
  rcases List.mem_cons.mp h with e | h
  ·have:=hb n List.mem_cons_self
   omega
  ·exact u9 (n + 1) r (fun x I=>hb x (List.mem_cons_of_mem _ I)) g h
def rn:Nat->List Pr->List Nat
 | _,[]=>[]
 | l,(n,pl)::r=>(n - l)::(pl.length - 1)::(gw 0 pl++rn (n + 1) r)
structure iJ (l : Nat) (row : List Pr) : Prop where
 n : iX l (row.map (·.1))
 p : ∀ x ∈ row, x.2 ≠ [] /\ iX 0 x.2
theorem iJ.tail {l n:Nat}{pl:List Nat}{r:List Pr}(h:iJ l ((n,pl)::r)):iJ (n + 1) r:=⟨h.n.2,fun x I=>h.p x (List.mem_cons_of_mem _ I)⟩
theorem iJ.head {l n:Nat}{pl:List Nat}{r:List Pr}(h:iJ l ((n,pl)::r)):l<=n/\pl≠[]/\iX 0 pl:=⟨h.n.1,h.p _ List.mem_cons_self⟩
end K04
namespace BK
open K04
section
variable {α : Type} [DecidableEq α]
def fz(w:α):List α->Nat->List Nat
 | [],_=>[]
 | x::r,i=>if x=w then i::fz w r (i + 1) else fz w r (i + 1)
theorem qw(w x:α):∀(ws:List α) (i:Nat),fz w (ws++[x]) i=fz w ws i++(if x=w then [i + ws.length] else [])
 | [],i=>by
  show(if x=w then [i] else [])=[]++_
  rw [List.nil_append]
  rfl
 | y::r,i=>by
  show(if y=w then i::fz w (r++[x]) (i + 1) else fz w (r++[x]) (i + 1))=(if y=w then i::fz w r (i + 1) else fz w r (i + 1))++_
  rw [qw w x r (i + 1)]
  have e:i + 1 + r.length=i + (y::r).length:=by rw [List.length_cons];omega
  rw [e]
  by_cases h:y=w
  ·rw [if_pos h,if_pos h]
   rfl
  ·rw [if_neg h,if_neg h]
theorem ud(w:α):∀(ws:List α) (i l:Nat),l<=i->iX l (fz w ws i)
 | [],_,_,_=>trivial
 | x::r,i,l,h=>by
  unfold fz
  by_cases e:x=w
  ·rw [if_pos e]
   exact⟨h,ud w r (i + 1) (i + 1) (Nat.le_refl _)⟩
  ·rw [if_neg e]
   exact ud w r (i + 1) l (Nat.le_succ_of_le h)
theorem su(w:α):∀(ws:List α) (i:Nat),fz w ws i=[]↔w∉ws
 | [],i=>by simp [fz]
 | x::r,i=>by
  unfold fz
  by_cases e:x=w
  ·rw [if_pos e]
   simp [e]
  ·rw [if_neg e,su w r (i + 1)]
   simp [Ne.symm e]
theorem pf(w:α):∀(ws:List α) (i:Nat),(fz w ws i).length<=ws.length
 | [],_=>Nat.le_refl _
 | x::r,i=>by
  unfold fz
  have:=pf w r (i + 1)
  by_cases e:x=w
  ·rw [if_pos e,List.length_cons,List.length_cons]
   omega
  ·rw [if_neg e,List.length_cons]
   omega
theorem vw(w:α):∀(ws:List α) (i:Nat),∀ p∈fz w ws i,p < i + ws.length
 | [],_,_,h=>nomatch h
 | x::r,i,p,h=>by
  unfold fz at h
  have I:=vw w r (i + 1) p
  rw [List.length_cons]
  by_cases e:x=w
  ·rw [if_pos e] at h
   rcases List.mem_cons.mp h with h | h
   ·omega
   ·have:=I h
    omega
  ·rw [if_neg e] at h
   have:=I h
   omega
def rowOf(w:α):List (List α)->Nat->List Pr
 | [],_=>[]
 | ws::r,n=>if w∈ws then (n,fz w ws 0)::rowOf w r (n + 1) else rowOf w r (n + 1)
theorem oB(w:α)(ws:List α):∀(d0:List (List α)) (n:Nat),rowOf w (d0++[ws]) n=rowOf w d0 n++(if w∈ws then [(n + d0.length,fz w ws 0)] else [])
 | [],n=>by
  show(if w∈ws then [(n,fz w ws 0)] else [])=[]++_
  rw [List.nil_append]
  rfl
 | vs::r,n=>by
  show(if w∈vs then (n,fz w vs 0)::rowOf w (r++[ws]) (n + 1) else rowOf w (r++[ws]) (n + 1))=(if w∈vs then (n,fz w vs 0)::rowOf w r (n + 1) else rowOf w r (n + 1))++_
  rw [oB w ws r (n + 1)]
  have e:n + 1 + r.length=n + (vs::r).length:=by rw [List.length_cons];omega
  rw [e]
  by_cases h:w∈vs
  ·rw [if_pos h,if_pos h]
   rfl
  ·rw [if_neg h,if_neg h]
theorem t7(w:α):∀(d0:List (List α)) (n l:Nat),l<=n->iX l ((rowOf w d0 n).map (·.1))
 | [],_,_,_=>trivial
 | ws::r,n,l,h=>by
  unfold rowOf
  by_cases e:w∈ws
  ·rw [if_pos e]
   exact⟨h,t7 w r (n + 1) (n + 1) (Nat.le_refl _)⟩
  ·rw [if_neg e]
   exact t7 w r (n + 1) l (Nat.le_succ_of_le h)
theorem qG(w:α):∀(d0:List (List α)) (n:Nat) (x:Pr),x∈rowOf w d0 n->∃ j ws,d0[j]? =some ws/\w∈ws/\x=(n + j,fz w ws 0)
 | [],_,_,h=>nomatch h
 | ws::r,n,x,h=>by
  unfold rowOf at h
  have J:=qG w r (n + 1) x
  by_cases e:w∈ws
  ·rw [if_pos e] at h
   rcases List.mem_cons.mp h with h | h
   ·exact⟨0,ws,rfl,e,h⟩
   ·obtain⟨j,vs,h1,h2,I⟩:=J h
    exact⟨j + 1,vs,h1,h2,by rw [I];congr 1;omega⟩
  ·rw [if_neg e] at h
   obtain⟨j,vs,h1,h2,I⟩:=J h
   exact⟨j + 1,vs,h1,h2,by rw [I];congr 1;omega⟩
theorem EV(w:α)(d0:List (List α))(n l:Nat)(h:l<=n):iJ l (rowOf w d0 n):=⟨t7 w d0 n l h,fun x I=>by
 obtain⟨j,ws,_,h2,J⟩:=qG w d0 n x I
 rw [J]
 exact⟨fun z=>(su w ws 0).mp z h2,ud w ws 0 0 (Nat.le_refl _)⟩⟩
theorem kT(w:α):∀(d0:List (List α)) (n:Nat),rowOf w d0 n=[]↔∀ ws∈d0,w∉ws
 | [],n=>by simp [rowOf]
 | ws::r,n=>by
  unfold rowOf
  by_cases e:w∈ws
  ·rw [if_pos e]
   simp [e]
  ·rw [if_neg e,kT w r (n + 1)]
   simp [e]
def fO(d0:List (List α)):Nat:=(d0.map List.length).sum
theorem lO(w:α):∀(d0:List (List α)) (n:Nat),(rowOf w d0 n).length<=d0.length/\(rowOf w d0 n).length<=fO d0
 | [],_=>⟨Nat.le_refl _,Nat.le_refl _⟩
 | ws::r,n=>by
  have I:=lO w r (n + 1)
  have e:fO (ws::r)=ws.length + fO r:=rfl
  unfold rowOf
  by_cases h:w∈ws
  ·rw [if_pos h,List.length_cons,List.length_cons,e]
   have:=List.length_pos_of_mem h
   omega
  ·rw [if_neg h,List.length_cons,e]
   omega
theorem ub(w:α):∀(d0:List (List α)) (n l:Nat),(rn l (rowOf w d0 n)).length<=3 * fO d0
 | [],_,_=>Nat.le_refl _
 | ws::r,n,l=>by
  have e:fO (ws::r)=ws.length + fO r:=rfl
  unfold rowOf
  by_cases h:w∈ws
  ·rw [if_pos h]
   show(gw 0 (fz w ws 0)++rn (n + 1) (rowOf w r (n + 1))).length + 1 + 1<=_
   rw [List.length_append,ku,e]
   have:=ub w r (n + 1) (n + 1)
   have:=List.length_pos_of_mem h
   have:=pf w ws 0
   omega
  ·rw [if_neg h,e]
   have:=ub w r (n + 1) l
   omega
theorem xE(w:α)(B:Nat):∀(d0:List (List α)) (n l:Nat),n + d0.length<=B->(∀ ws∈d0,ws.length<=B)->∀ x∈rn l (rowOf w d0 n),x < B
 | [],_,_,_,_,_,h=>nomatch h
 | ws::r,n,l,hB,hw,x,h=>by
  have I:n + 1 + r.length<=B:=by rw [List.length_cons] at hB;omega
  have U:=xE w B r (n + 1)
  unfold rowOf at h
  have ab:=hw ws List.mem_cons_self
  by_cases e:w∈ws
  ·rw [if_pos e] at h
   have h':x∈(n - l)::((fz w ws 0).length - 1)::(gw 0 (fz w ws 0)++rn (n + 1) (rowOf w r (n + 1))):=h
   have ae:=pf w ws 0
   have aa:=List.length_pos_of_mem e
   rcases List.mem_cons.mp h' with h | h
   ·omega
   ·rcases List.mem_cons.mp h with h | h
    ·omega
    ·rcases List.mem_append.mp h with h | h
     ·refine u9 0 (fz w ws 0) (fun y hy=>?_) x h
      have:=vw w ws 0 y hy
      omega
     ·exact U (n + 1) I (fun v J=>hw v (List.mem_cons_of_mem _ J)) x h
  ·rw [if_neg e] at h
   exact U l I (fun v J=>hw v (List.mem_cons_of_mem _ J)) x h
theorem vt:∀(k:Nat) (ns:List Nat),(∀ n∈ns,n < 128 ^ (k + 1))->(pk ns).length<=(k + 1) * ns.length
 | k,[],_=>by simp [pk]
 | k,n::ns,h=>by
  have h1:=vo k n (h n List.mem_cons_self)
  have h2:=vt k ns fun m hm=>h m (List.mem_cons_of_mem _ hm)
  show(gZ n++pk ns).length<=_
  rw [List.length_append,List.length_cons,Nat.mul_add,Nat.mul_one]
  omega
def fL{β:Type}:List Bool->List β->List β
 | true::ks,x::xs=>x::fL ks xs
 | false::ks,_::xs=>fL ks xs
 | _,_=>[]
def cnt(ks:List Bool)(n:Nat):Nat:=(fL (ks.take n) (ks.take n)).length
def gp(ks:List Bool)(A:Nat):List Pr->List Pr
 | []=>[]
 | (n,pl)::r=>if ks[n]? =some true then (A + cnt ks n,pl)::gp ks A r else gp ks A r
theorem rV(ks:List Bool)(A:Nat):∀(a b:List Pr),gp ks A (a++b)=gp ks A a++gp ks A b
 | [],_=>rfl
 | (n,pl)::r,b=>by
  show(if ks[n]? =some true then (A + cnt ks n,pl)::gp ks A (r++b) else gp ks A (r++b))=(if ks[n]? =some true then (A + cnt ks n,pl)::gp ks A r else gp ks A r)++gp ks A b
  rw [rV ks A r b]
  by_cases h:ks[n]? =some true
  ·rw [if_pos h,if_pos h]
   rfl
  ·rw [if_neg h,if_neg h]
theorem uw{β:Type}:∀(ks:List Bool) (xs:List β) (k:Bool) (x:β),ks.length=xs.length->fL (ks++[k]) (xs++[x])=fL ks xs++(if k=true then [x] else [])
 | [],[],k,x,_=>by cases k<;>rfl
 | [],_::_,_,_,h=>by cases h
 | _::_,[],_,_,h=>by cases h
 | a::ks,y::xs,k,x,h=>by
  have I:=uw ks xs k x (Nat.succ.inj h)
  cases a
  ·exact I
  ·show y::fL (ks++[k]) (xs++[x])=y::fL ks xs++_
   rw [I]
   rfl
theorem tu{β γ:Type}(f:β->γ):∀(ks:List Bool) (xs:List β),fL ks (xs.map f)=(fL ks xs).map f
 | [],_=>rfl
 | true::ks,[]=>rfl
 | false::ks,[]=>rfl
 | true::ks,x::xs=>by show f x::fL ks (xs.map f)=_;rw [tu f ks xs];rfl
 | false::ks,x::xs=>by show fL ks (xs.map f)=_;rw [tu f ks xs];rfl
theorem rF{β:Type}:∀(ks:List Bool) (xs:List β),(fL ks xs).Sublist xs
 | [],xs=>List.nil_sublist _
 | true::ks,[]=>List.nil_sublist _
 | false::ks,[]=>List.nil_sublist _
 | true::ks,y::xs=>(rF ks xs).cons_cons y
 | false::ks,y::xs=>(rF ks xs).cons y
theorem EM{β:Type}(ks:List Bool)(xs:List β):(fL ks xs).length<=xs.length:=(rF ks xs).length_le
theorem qX{β γ:Type}:∀(ks:List Bool) (xs:List β) (ys:List γ),xs.length=ys.length->(fL ks xs).length=(fL ks ys).length
 | [],_,_,_=>rfl
 | true::_,[],[],_=>rfl
 | false::_,[],[],_=>rfl
 | _::_,[],_::_,h=>by cases h
 | _::_,_::_,[],h=>by cases h
 | true::ks,x::xs,y::ys,h=>by show(fL ks xs).length + 1=(fL ks ys).length + 1;rw [qX ks xs ys (Nat.succ.inj h)]
 | false::ks,x::xs,y::ys,h=>qX ks xs ys (Nat.succ.inj h)
theorem HF{β:Type}{ks:List Bool}{xs:List β}{n:Nat}(h:ks.length=xs.length):(fL (ks.take n) (xs.take n)).length=cnt ks n:=
 qX _ _ _ (by rw [List.length_take,List.length_take,h])
theorem x9(w:α):∀(a b:List (List α)) (n:Nat),rowOf w (a++b) n=rowOf w a n++rowOf w b (n + a.length)
 | [],b,n=>rfl
 | x::a,b,n=>by
  show(if w∈x then (n,fz w x 0)::rowOf w (a++b) (n + 1) else rowOf w (a++b) (n + 1))=(if w∈x then (n,fz w x 0)::rowOf w a (n + 1) else rowOf w a (n + 1))++rowOf w b (n + (a.length + 1))
  rw [x9 w a b (n + 1)]
  have e:n + 1 + a.length=n + (a.length + 1):=by omega
  rw [e]
  by_cases h:w∈x
  ·rw [if_pos h,if_pos h]
   rfl
  ·rw [if_neg h,if_neg h]
theorem y8(w:α)(A:Nat):∀(ds ks:List Bool) (dt ts:List (List α)),ds.length=dt.length->ks.length=ts.length->gp (ds++ks) A (rowOf w ts ds.length)=rowOf w (fL ks ts) (A + (fL ds dt).length)
 | ds,[],dt,[],_,_=>rfl
 | ds,[],dt,_::_,_,h=>by cases h
 | ds,_::_,dt,[],_,h=>by cases h
 | ds,k::ks,dt,x::ts,hd,hk=>by
  have J:=y8 w A (ds++[k]) ks (dt++[x]) ts (by simp [hd]) (Nat.succ.inj hk)
  have U:ds++[k]++ks=ds++k::ks:=by simp
  have e2:(ds++[k]).length=ds.length + 1:=by simp
  rw [U,e2,uw ds dt k x hd] at J
  have I:(ds++k::ks)[ds.length]? =some k:=by simp
  have hc:cnt (ds++k::ks) ds.length=(fL ds dt).length:=by
   unfold cnt
   rw [List.take_left]
   exact qX ds ds dt hd
  have step:gp (ds++k::ks) A (rowOf w (x::ts) ds.length)=(if w∈x then (if k=true then [(A + (fL ds dt).length,fz w x 0)] else []) else [])++gp (ds++k::ks) A (rowOf w ts (ds.length + 1)):=by
   show gp _ A (if w∈x then (ds.length,fz w x 0)::rowOf w ts (ds.length + 1) else rowOf w ts (ds.length + 1))=_
   by_cases hw:w∈x
   ·rw [if_pos hw,if_pos hw]
    show(if (ds++k::ks)[ds.length]? =some true then (A + cnt _ ds.length,fz w x 0)::gp _ A _ else gp _ A _)=_
    rw [I,hc]
    cases k
    ·rw [if_neg (by simp),if_neg (by simp)]
     rfl
    ·rw [if_pos rfl,if_pos rfl]
     rfl
   ·rw [if_neg hw,if_neg hw]
    rfl
  rw [step,J]
  cases k
  ·show _=rowOf w (fL ks ts) _
   simp
  ·show _=rowOf w (x::fL ks ts) _
   rw [if_pos rfl,if_pos rfl]
   show _=(if w∈x then (A + (fL ds dt).length,fz w x 0)::rowOf w (fL ks ts) _ else rowOf w (fL ks ts) _)
   have e3:A + (fL ds dt++[x]).length=A + (fL ds dt).length + 1:=by rw [List.length_append];rfl
   rw [e3]
   by_cases hw:w∈x
   ·rw [if_pos hw,if_pos hw]
    rfl
   ·rw [if_neg hw,if_neg hw]
    rfl
theorem ER(w:α)(A:Nat)(ks:List Bool)(ts:List (List α))(h:ks.length=ts.length):gp ks A (rowOf w ts 0)=rowOf w (fL ks ts) A:=y8 w A [] ks [] ts rfl h
end
open PySem L2 PyProof.Rows PySem.Spec Gn K04
abbrev En:=List (Str×Addr)
def fP(es:En):List (Key×V):=es.map fun e=>((Sum.inr e.1:Key),V.ref e.2)
theorem nY(es:En):(fP es).length=es.length:=List.length_map _
theorem rL(es:En):(fP es).map (·.1)=(es.map (·.1)).map Sum.inr:=by
 unfold fP
 rw [List.map_map,List.map_map]
 rfl
theorem oF:∀{es:En} {w:Str},w∉es.map (·.1)->fH (fP es) (Sum.inr w)=none
 | [],_,_=>rfl
 | e::es,w,h=>by
  have h1:¬ e.1=w:=fun z=>h (by rw [<-z];exact List.mem_map.mpr ⟨e,List.mem_cons_self,rfl⟩)
  have h2:w∉es.map (·.1):=fun z=>h (List.mem_cons_of_mem _ z)
  show fH (((Sum.inr e.1:Key),V.ref e.2)::fP es) (Sum.inr w)=none
  rw [jb (fun z=>h1 (Sum.inr.inj z)),oF h2]
theorem uB:∀{es:En} {w:Str} {v:V},fH (fP es) (Sum.inr w)=some v->∃ a,v= .ref a/\(w,a)∈es
 | [],_,_,h=>nomatch h
 | e::es,w,v,h=>by
  have h':fH (((Sum.inr e.1:Key),V.ref e.2)::fP es) (Sum.inr w)=some v:=h
  by_cases h1:e.1=w
  ·rw [jk (p:=((Sum.inr e.1:Key),V.ref e.2)) (by rw [h1])] at h'
   subst h1
   exact⟨e.2,(Option.some.inj h').symm,List.mem_cons_self⟩
  ·rw [jb (fun z=>h1 (Sum.inr.inj z))] at h'
   obtain⟨a,I,J⟩:=uB h'
   exact⟨a,I,List.mem_cons_of_mem _ J⟩
theorem rE{es:En}{w:Str}(h:w∈es.map (·.1)):∃ a,fH (fP es) (Sum.inr w)=some (.ref a)/\(w,a)∈es:=by
 cases q:fH (fP es) (Sum.inr w) with
 | none=>
  have:=v9 q
  rw [rL] at this
  exact absurd (List.mem_map.mpr ⟨w,h,rfl⟩) this
 | some v=>
  obtain⟨a,rfl,ha⟩:=uB q
  exact⟨a,rfl,ha⟩
theorem Ej{es:En}{w:Str}(h:fH (fP es) (Sum.inr w)=none):w∉es.map (·.1):=fun z=>by
 obtain⟨a,e,_⟩:=rE z
 rw [h] at e
 cases e
theorem sq{es:En}{w:Str}{a:Addr}(h:fH (fP es) (Sum.inr w)=none):putK (fP es) (Sum.inr w) (.ref a)=fP (es++[(w,a)]):=by
 rw [xO _ h]
 unfold fP
 rw [List.map_append]
 rfl
theorem se{α β:Type}:∀{es:List (α×β)},(es.map (·.1)).Nodup->∀{w:α} {a b:β},(w,a)∈es->(w,b)∈es->a=b
 | [],_,_,_,_,h,_=>nomatch h
 | e::es,hn,w,a,b,h1,h2=>by
  have I:(e.1::es.map (·.1)).Nodup:=hn
  obtain⟨J,U⟩:=List.nodup_cons.mp I
  rcases List.mem_cons.mp h1 with h1 | h1
  ·rcases List.mem_cons.mp h2 with h2 | h2
   ·have:=h1.trans h2.symm
    exact(Prod.mk.inj this).2
   ·exact absurd (List.mem_map.mpr ⟨_,h2,by rw [<-h1]⟩) J
  ·rcases List.mem_cons.mp h2 with h2 | h2
   ·exact absurd (List.mem_map.mpr ⟨_,h1,by rw [<-h2]⟩) J
   ·exact se U h1 h2
theorem yg{α β:Type}:∀{es:List (α×β)},(es.map (·.2)).Nodup->∀{w v:α} {a:β},(w,a)∈es->(v,a)∈es->w=v
 | [],_,_,_,_,h,_=>nomatch h
 | e::es,hn,w,v,a,h1,h2=>by
  have I:(e.2::es.map (·.2)).Nodup:=hn
  obtain⟨J,U⟩:=List.nodup_cons.mp I
  rcases List.mem_cons.mp h1 with h1 | h1
  ·rcases List.mem_cons.mp h2 with h2 | h2
   ·have:=h1.trans h2.symm
    exact(Prod.mk.inj this).1
   ·exact absurd (List.mem_map.mpr ⟨_,h2,by rw [<-h1]⟩) J
  ·rcases List.mem_cons.mp h2 with h2 | h2
   ·exact absurd (List.mem_map.mpr ⟨_,h1,by rw [<-h2]⟩) J
   ·exact yg U h1 h2
theorem uF{α:Type}:∀{l:List α} {a:α},l.Nodup->a∉l->(l++[a]).Nodup
 | [],a,_,_=>List.nodup_cons.mpr ⟨(fun h=>nomatch h),List.nodup_nil⟩
 | x::l,a,hn,h=>by
  obtain⟨I,J⟩:=List.nodup_cons.mp hn
  show(x::(l++[a])).Nodup
  refine List.nodup_cons.mpr ⟨fun z=>?_,uF J fun z=>h (List.mem_cons_of_mem _ z)⟩
  rcases List.mem_append.mp z with z | z
  ·exact I z
  ·rw [List.mem_singleton.mp z] at h
   exact h List.mem_cons_self
structure DL (B H : Hp) (d : Addr) (es : En) (F : Hp -> Addr -> Str -> Prop) : Prop where
 d : H d = some (.dK (fP es))
 k : (es.map (·.1)).Nodup
 a : (es.map (·.2)).Nodup
 n : ∀ e ∈ es, B e.2 = none
 f : ∀ e ∈ es, F H e.2 e.1
theorem DL.put {B H H':Hp}{d a:Addr}{es:En}{w:Str}{F F':Hp->Addr->Str->Prop}(h:DL B H d es F)(ha:(w,a)∈es)(hd:H' d=some (.dK (fP es)))
  (hf:∀ e∈es,e.1≠w->e.2≠a->F H e.2 e.1->F' H' e.2 e.1)(hw:F' H' a w):DL B H' d es F':=⟨hd,h.k,h.a,h.n,fun e he=>by
 by_cases I:e.1=w
 ·have:e.2=a:=se h.k (w:=w) (by rw [<-I];exact he) ha
  rw [this,I]
  exact hw
 ·exact hf e he I (fun z=>I (yg h.a (a:=a) (by rw [<-z];exact he) ha)) (h.f e he)⟩
theorem DL.new {B H H':Hp}{d z:Addr}{es:En}{w:Str}{F F':Hp->Addr->Str->Prop}(h:DL B H d es F)(hw:w∉es.map (·.1))(hz:B z=none)(hz2:z∉es.map (·.2))(hd:H' d=some (.dK (fP (es++[(w,z)]))))
  (hf:∀ e∈es,e.1≠w->e.2≠z->F H e.2 e.1->F' H' e.2 e.1)(hF:F' H' z w):DL B H' d (es++[(w,z)]) F':=by
 refine⟨hd,?_,?_,fun e he=>?_,fun e he=>?_⟩
 ·rw [List.map_append]
  exact uF h.k hw
 ·rw [List.map_append]
  exact uF h.a hz2
 ·rcases List.mem_append.mp he with he | he
  ·exact h.n e he
  ·rw [List.mem_singleton.mp he]
   exact hz
 ·rcases List.mem_append.mp he with he | he
  ·exact hf e he (fun q=>hw (by rw [<-q];exact List.mem_map.mpr ⟨e,he,rfl⟩)) (fun q=>hz2 (by rw [<-q];exact List.mem_map.mpr ⟨e,he,rfl⟩)) (h.f e he)
  ·rw [List.mem_singleton.mp he]
   exact hF
abbrev sl(ws:List Str):List V:=ws.map V.str
theorem j9{ws:List Str}{i:Nat}{x:V}(h:(sl ws)[i]? =some x):∃ w,ws[i]? =some w/\x= .str w:=by
 rw [List.getElem?_map] at h
 cases hp:ws[i]? with
 | none=>rw [hp] at h;cases h
 | some c=>rw [hp] at h;exact⟨c,rfl,(Option.some.inj h).symm⟩
theorem take_snoc{α:Type}{xs:List α}{i:Nat}{x:α}(h:xs[i]? =some x):xs.take (i + 1)=xs.take i++[x]:=by rw [List.take_add_one,h];rfl
theorem lh{α:Type}{xs:List α}{i:Nat}{x:α}(h:xs[i]? =some x):(xs.take i).length=i:=by
 have:=(List.getElem?_eq_some_iff.mp h).1
 rw [List.length_take]
 omega
def SameBut(x:Addr)(H H':Hp):Prop:=∀ b o,H b=some o->b≠x->H' b=some o
theorem SameBut.of {x:Addr}{H G:Hp}(s:d3 H G):SameBut x H G:=fun b u e _=>s b u e
theorem SameBut.free {x a:Addr}{o:HO}{H G:Hp}(s:SameBut x H G)(hx:G x=some o)(h:G a=none):H a=none:=by
 cases q:H a with
 | none=>rfl
 | some u=>
  by_cases e:a=x
  ·rw [e,hx] at h
   cases h
  ·rw [s a u q e] at h
   cases h
theorem SameBut.tr {x:Addr}{H G F:Hp}(s:SameBut x H G)(t:d3 G F):SameBut x H F:=fun b u e n=>t _ _ (s b u e n)
theorem pI{α:Type}:∀{l:List α} {i:Nat} {x:α},l.Nodup->l[i]? =some x->x∉l.take i
 | [],i,_,_,h=>by cases i<;>cases h
 | y::l,0,x,_,_=>(fun h=>nomatch h)
 | y::l,i + 1,x,hn,h=>by
  obtain⟨I,J⟩:=List.nodup_cons.mp hn
  intro z
  rcases List.mem_cons.mp z with z | z
  ·subst z
   exact I (List.mem_of_getElem? (show l[i]? =some x from h))
  ·exact pI J h z
theorem tV{es:En}{i:Nat}{kv:Key×V}(h:(fP es)[i]? =some kv):∃ e,es[i]? =some e/\kv=(Sum.inr e.1,.ref e.2):=by
 unfold fP at h
 rw [List.getElem?_map] at h
 cases hp:es[i]? with
 | none=>rw [hp] at h;cases h
 | some c=>rw [hp] at h;exact⟨c,rfl,(Option.some.inj h).symm⟩
theorem tq{es:En}{e:Str×Addr}(hn:(es.map (·.1)).Nodup)(h:e∈es):fH (fP es) (Sum.inr e.1)=some (.ref e.2):=by
 obtain⟨a,h1,h2⟩:=rE (List.mem_map.mpr ⟨e,h,rfl⟩)
 rw [h1,se hn h2 h]
theorem pV{es:En}{i:Nat}{e:Str×Addr}(h:es[i]? =some e):(es.map (·.1))[i]? =some e.1:=by rw [List.getElem?_map,h];rfl
theorem xF{α:Type}(a:List (List α))(b:List α):fO (a++[b])=fO a + b.length:=by
 unfold fO
 rw [List.map_append,List.sum_append]
 simp
theorem uI{α:Type}:∀(t:List (List α)) (i:Nat),fO (t.take i)<=fO t
 | [],i=>by rw [List.take_nil];exact Nat.le_refl _
 | x::t,0=>Nat.zero_le _
 | x::t,i + 1=>by
  have:=uI t i
  show x.length + fO (t.take i)<=x.length + fO t
  omega
theorem oq{α:Type}:∀{t:List (List α)} {ws:List α},ws∈t->ws.length<=fO t
 | [],_,h=>nomatch h
 | x::t,ws,h=>by
  have e:fO (x::t)=x.length + fO t:=rfl
  rcases List.mem_cons.mp h with h | h
  ·rw [h,e]
   omega
  ·have:=oq h
   omega
theorem SameBut.trb {x:Addr}{H G F:Hp}(s:SameBut x H G)(t:SameBut x G F):SameBut x H F:=fun b u e n=>t _ _ (s b u e n) n
theorem SameBut.new {x:Addr}{B H G:Hp}(s:SameBut x H G)(t:d3 B H)(h:B x=none):d3 B G:=fun b u e=>s _ _ (t _ _ e) (fv e h)
def pZ(i j:Nat):TE:=fun σ H Q=>∃(B:Hp) (d:Addr) (es:En) (x:Str) (F:Hp->Addr->Str->Prop),σ[i]? =some (some (.ref d))/\σ[j]? =some (some (.str x))/\DL B H d es F/\es.length<=10000/\(∀ z,H z=none->B z=none)/\
 (∀ e∈es,∃ l,H e.2=some (.lst l))/\(∀ G a y l,SameBut d H G->H a=some (.lst l)->F H a y->F G a y)/\(∀ G z,x∉es.map (·.1)->G z=some (.lst [])->F G z x)/\
 ∀ p I H',SameBut d H H'->DL B H' d I F->(x,p)∈I->(I=es\/(x∉es.map (·.1)/\I=es++[(x,p)]/\H p=none))->(∃ l,H' p=some (.lst l))->Q (.ref p) H'
theorem getL{K:W.Frag}{i j:Nat}{σ:L2.St}{H:Hp}{Q:VK}(h:pZ i j σ H Q):qp K "dict" yL (ie i) (jd (ie j) (jd (oi jU) jU)) σ H Q:=by
 obtain⟨B,d,es,x,F,hi,hj,hD,hlen,hB,J,ae,ah,q⟩:=h
 have hl:(sizeLine:Nat)=16777216:=sizeLine_eq
 refine⟨_,hi,rQ hD.d,_,hj,(by show 0<=sizeLine;decide),fun z hz=>?_⟩
 have sz:d3 H (upd H z (.lst [])):=eh hz
 have U:(upd H z (.lst [])) z=some (.lst []):=d7
 generalize upd H z (.lst [])=H2 at sz U ⊢
 have aa:=sz _ _ hD.d
 have af:∀ e∈es,e.2≠d/\e.2≠z:=fun e he=>by
  obtain⟨l,h1⟩:=J e he
  exact⟨(fun q=>by rw [q,hD.d] at h1;cases h1),(fun q=>by rw [q,hz] at h1;cases h1)⟩
 refine⟨d,fP es,Sum.inr x,.ref z,rfl,rfl,aa,(by rw [nY];omega),fun v hv=>?_,fun hv=>?_⟩
 ·obtain⟨p,rfl,hp⟩:=uB hv
  obtain⟨l,h1⟩:=J _ hp
  refine q p es H2 (SameBut.of sz) ⟨aa,hD.k,hD.a,hD.n,fun e he=>?_⟩ hp (.inl rfl) ⟨l,sz _ _ h1⟩
  obtain⟨l',h2⟩:=J e he
  exact ae H2 e.2 e.1 l' (SameBut.of sz) h2 (hD.f e he)
 ·have ab:=Ej hv
  have ai:z≠d:=fun q=>by rw [q,aa] at U;cases U
  have I:upd H2 d (.dK (putK (fP es) (Sum.inr x) (.ref z))) z=some (.lst []):=by rw [eC ai];exact U
  have ag:upd H2 d (.dK (putK (fP es) (Sum.inr x) (.ref z))) d=some (.dK (fP (es++[(x,z)]))):=by rw [d7,sq hv]
  have sb:SameBut d H (upd H2 d (.dK (putK (fP es) (Sum.inr x) (.ref z)))):=fun b u e hb=>by rw [eC hb];exact sz _ _ e
  generalize upd H2 d (.dK (putK (fP es) (Sum.inr x) (.ref z)))=H3 at I ag sb ⊢
  refine q z _ H3 sb (hD.new ab (hB z hz) (fun q=>?_) ag (fun e he _ _ hf=>?_) (ah H3 z ab I)) (List.mem_append_right _ (List.mem_singleton.mpr rfl)) (.inr ⟨ab,rfl,hz⟩) ⟨_,I⟩
  ·obtain⟨e,he,q⟩:=List.mem_map.mp q
   exact(af e he).2 q
  ·obtain⟨l',h2⟩:=J e he
   exact ae H3 e.2 e.1 l' sb h2 hf
end BK
namespace K01
def lo(c:Nat):Nat:=if 65<=c/\c<=90 then c + 32 else c
def fq(c:Nat):Bool:=(decide (97<=c) && decide (c<=122)) || (decide (48<=c) && decide (c<=57))
def gy(c:Nat):Bool:=decide (c=10) || (decide (32<=c) && decide (c<=126) && !decide (c=37))
abbrev Wd:=List Nat×Nat×Nat
def flush(i:Nat)(w:List Nat):List Wd:=if w=[] then [] else [(w,i - w.length,i)]
def gN:List Nat->Nat->List Nat->List Wd
 | [],i,w=>flush i w
 | c::r,i,w=>if fq c then gN r (i + 1) (w++[c]) else flush i w++gN r (i + 1) []
def words(cs:List Nat):List Wd:=gN (cs.map lo) 0 []
theorem md{c:Nat}{r:List Nat}{i:Nat}{w:List Nat}(h:fq c=true):gN (c::r) i w=gN r (i + 1) (w++[c]):=by
 rw [gN,if_pos h]
theorem lj{c:Nat}{r:List Nat}{i:Nat}{w:List Nat}(h:fq c=false):gN (c::r) i w=flush i w++gN r (i + 1) []:=by
 rw [gN,if_neg (by rw [h];exact Bool.false_ne_true)]
theorem ue:∀(r:List Nat) (i:Nat) (w:List Nat),gN (r++[32]) i w=gN r i w
 | [],i,w=>by
  show gN [32] i w=gN [] i w
  rw [lj (by decide)]
  simp [gN,flush]
 | c::r,i,w=>by
  show gN (c::(r++[32])) i w=_
  cases h:fq c with
  | true=>rw [md h,md h,ue]
  | false=>rw [lj h,lj h,ue]
theorem qE{c:Nat}(h:gy c=true):c < 128:=by
 unfold gy at h
 simp only [Bool.or_eq_true,Bool.and_eq_true,decide_eq_true_eq,Bool.not_eq_true',decide_eq_false_iff_not] at h
 omega
theorem vK{c:Nat}(h:fq c=true):gy c=true:=by
 unfold fq at h
 unfold gy
 simp only [Bool.or_eq_true,Bool.and_eq_true,decide_eq_true_eq,Bool.not_eq_true',decide_eq_false_iff_not] at *
 omega
theorem lC{c:Nat}(h:fq c=true):c < 128:=qE (vK h)
def tQ(n:Nat)(x:Wd):Prop:=x.1≠[]/\x.1.all fq=true/\x.2.1 + x.1.length=x.2.2/\x.2.2<=n
theorem vA{n i:Nat}{w:List Nat}(hw:w.all fq=true)(hi:w.length<=i)(hn:i<=n):∀ x∈flush i w,tQ n x:=by
 intro x I
 unfold flush at I
 split at I
 ·cases I
 ·rename_i h
  have e:x=(w,i - w.length,i):=by simpa using I
  subst e
  exact⟨h,hw,by show i - w.length + w.length=i;(clear h hn hw;omega),hn⟩
theorem tO:∀(r:List Nat) (i:Nat) (w:List Nat) (n:Nat),w.all fq=true->w.length<=i->i + r.length<=n->∀ x∈gN r i w,tQ n x
 | [],i,w,n,hw,hi,hn,x,J=>vA hw hi (by simpa using hn) x J
 | c::r,i,w,n,hw,hi,hn,x,J=>by
  have I:i + 1 + r.length<=n:=by simp at hn;(clear hi hw;omega)
  cases h:fq c with
  | true=>
   rw [md h] at J
   exact tO r (i + 1) (w++[c]) n (by simp [List.all_append,hw,h]) (by simp;(clear h I hn hw;omega)) I x J
  | false=>
   rw [lj h] at J
   rcases List.mem_append.mp J with q | q
   ·exact vA hw hi (by(clear h I hi hw;omega)) x q
   ·exact tO r (i + 1) [] n rfl (Nat.zero_le _) I x q
theorem rT(cs:List Nat):∀ x∈words cs,tQ cs.length x:=tO _ 0 [] _ rfl (Nat.le_refl _) (by simp)
theorem zd(i:Nat)(w:List Nat):(flush i w).length<=1:=by unfold flush;split<;>simp
theorem uk:∀(r:List Nat) (i:Nat) (w:List Nat),(gN r i w).length<=r.length + 1
 | [],i,w=>by simpa [gN] using zd i w
 | c::r,i,w=>by
  cases h:fq c with
  | true=>rw [md h];have:=uk r (i + 1) (w++[c]);simp;(clear h;omega)
  | false=>
   rw [lj h,List.length_append]
   have:=uk r (i + 1) []
   have:=zd i w
   simp;(clear h;omega)
theorem B4(cs:List Nat):(words cs).length<=cs.length + 1:=by simpa [words] using uk (cs.map lo) 0 []
open PySem L2
def gL:V->Bool
 | .str z=>decide (z.length<=2000) && z.cps.toList.all gy
 | _=>false
def fV(most:Nat):V->Bool
 | .str z=>decide (1<=z.length) && decide (z.length<=most) && z.cps.toList.all fq
 | _=>false
def iH(x:V):Prop:=∀ z,x= .str z->z.length<=5000
end K01
namespace BK
open PySem PySem.Spec PyProof.Rows
theorem yY:∀{a b:List Nat},ltCps a b=false->ltCps b a=false->a=b
 | [],[],_,_=>rfl
 | [],_::_,h,_=>by cases h
 | _::_,[],_,h=>by cases h
 | x::r,y::t,h1,h2=>by
  have I:(decide (x < y) || (x == y && ltCps r t))=false:=h1
  have J:(decide (y < x) || (y == x && ltCps t r))=false:=h2
  rw [Bool.or_eq_false_iff,decide_eq_false_iff_not] at I J
  have e:x=y:=by omega
  subst e
  have U:=I.2
  have q2:=J.2
  rw [beq_self_eq_true,Bool.true_and] at U q2
  rw [yY U q2]
theorem uX:∀{a b c:List Nat},ltCps b a=false->ltCps c b=false->ltCps c a=false
 | [],_,[],_,_=>rfl
 | _::_,[],[],h,_=>by cases h
 | [],_,_::_,_,_=>rfl
 | _::_,[],_::_,h,_=>by cases h
 | _::_,_::_,[],_,h=>by cases h
 | x::r,y::t,z::u,h1,h2=>by
  have I:(decide (y < x) || (y == x && ltCps t r))=false:=h1
  have J:(decide (z < y) || (z == y && ltCps u t))=false:=h2
  show(decide (z < x) || (z == x && ltCps u r))=false
  rw [Bool.or_eq_false_iff,decide_eq_false_iff_not] at I J ⊢
  refine⟨by omega,?_⟩
  by_cases e:z=x
  ·subst e
   have e:y=z:=by omega
   subst e
   have U:=I.2
   have q2:=J.2
   rw [beq_self_eq_true,Bool.true_and] at U q2 ⊢
   exact uX U q2
  ·rw [beq_eq_false_iff_ne.mpr e,Bool.false_and]
theorem yK:∀{l:List Str} {p:Str},risingS p l=true->(p::l).Pairwise (fun a b=>ltCps b.cps.toList a.cps.toList=false)
 | [],p,_=>List.pairwise_singleton _ _
 | x::r,p,h=>by
  have h':(!ltCps x.cps.toList p.cps.toList && risingS x r)=true:=h
  rw [Bool.and_eq_true,Bool.not_eq_true'] at h'
  have I:=yK h'.2
  refine List.pairwise_cons.mpr ⟨fun y J=>?_,I⟩
  rcases List.mem_cons.mp J with e | e
  ·rw [e];exact h'.1
  ·exact uX h'.1 (List.rel_of_pairwise_cons I e)
theorem wZ{l:List Str}(h:sortedS l=true):l.Pairwise (fun a b=>ltCps b.cps.toList a.cps.toList=false):=by
 cases l with
 | nil=>exact .nil
 | cons x r=>exact yK h
theorem yz:∀{a b:List Str},a.Pairwise (fun a b=>ltCps b.cps.toList a.cps.toList=false)->b.Pairwise (fun a b=>ltCps b.cps.toList a.cps.toList=false)->a.Perm b->a=b
 | [],b,_,_,I=>(List.Perm.nil_eq I)
 | x::r,b,ha,hb,I=>by
  cases b with
  | nil=>exact absurd I.symm.nil_eq (by simp)
  | cons y t=>
   have J:x∈y::t:=I.subset List.mem_cons_self
   have U:y∈x::r:=I.symm.subset List.mem_cons_self
   have e:x=y:=by
    rcases List.mem_cons.mp J with q | q
    ·exact q
    ·rcases List.mem_cons.mp U with q' | q'
     ·exact q'.symm
     ·have h1:=List.rel_of_pairwise_cons hb q
      have h2:=List.rel_of_pairwise_cons ha q'
      have:=yY h1 h2
      cases x;cases y
      simp only [Str.mk.injEq]
      exact Array.toList_inj.mp this
   subst e
   rw [yz (List.pairwise_cons.mp ha).2 (List.pairwise_cons.mp hb).2 (List.Perm.cons_inv I)]
theorem Ai{a b:List Str}(ha:sortedS a=true)(hb:sortedS b=true)(hp:a.Perm b):a=b:=yz (wZ ha) (wZ hb) hp
theorem Dj{a b:List Str}(ha:a.Nodup)(hb:b.Nodup)(h:∀ x,x∈a↔x∈b):a.Perm b:=(List.perm_ext_iff_of_nodup ha hb).mpr h
open L2 in
theorem D6(x y:Str)(hx:x.length<=10000):Txt.startswith x y=decide (V.str (Txt.slice x none (some (y.length:Int)))=V.str y):=by
 have I:∀ z:Str,z.cps.toList.length=z.length:=fun z=>by simp [Str.length]
 by_cases h:y.length<=x.length
 ·have J:Txt.slice x none (some (y.length:Int))=_:=PySem.StrLaws.sliceText_to ⟨by omega,by have:=I x;omega⟩
  unfold Txt.startswith
  rw [decide_eq_true (show 0 + y.length<=x.length by omega),Bool.true_and]
  show(x.cps.extract 0 (0 + y.length) == y.cps)=_
  rw [Bool.eq_iff_iff,beq_iff_eq,decide_eq_true_eq,J]
  constructor
  ·intro e
   congr 1
   cases y
   rename_i c
   have U:x.cps.extract 0 (0 + c.size)=c:=e
   congr 1
   rw [<-U]
   apply Array.ext'
   simp [Str.length]
  ·intro e
   injection e with e
   have e2:=congrArg Str.cps e
   rw [<-e2]
   apply Array.ext'
   simp [Str.length]
 ·unfold Txt.startswith
  rw [decide_eq_false (show ¬ 0 + y.length<=x.length by omega),Bool.false_and]
  refine(decide_eq_false fun e=>?_).symm
  injection e with e
  have:=Txt.slice_le x none (some (y.length:Int))
  rw [e] at this
  omega
end BK
namespace K09
open PySem L2 PyProof.Rows PySem.Spec Gn K04 K01
def top(i:Nat):Stmt:=PySem.Challenge.pw_findhall_k09_whole_poured.main.body.getD i (.Pass ⟨0,0,0,0⟩)
abbrev km:Stmt:=top 16
abbrev oS:Stmt:=top 17
abbrev nM:Stmt:=top 18
abbrev lT:Stmt:=top 19
abbrev ng:Stmt:=top 20
abbrev nu:Stmt:=top 21
abbrev pF:Stmt:=top 22
abbrev kS:Stmt:=top 23
abbrev pO:Stmt:=top 27
abbrev pd:Stmt:=top 28
abbrev p4:Stmt:=top 29
abbrev ou:Stmt:=top 30
abbrev mw:Stmt:=top 32
abbrev oN:Stmt:=top 33
abbrev mr:Stmt:=top 34
abbrev mJ:Stmt:=top 35
abbrev oT:Stmt:=top 36
abbrev nH:Stmt:=top 37
abbrev nh:Stmt:=top 38
abbrev pB:Stmt:=top 43
abbrev m8:Stmt:=top 44
abbrev oA:Stmt:=top 45
abbrev nT:Stmt:=top 46
abbrev oh:Stmt:=top 48
abbrev oZ:Stmt:=top 49
abbrev ni:Stmt:=top 50
abbrev oJ:Stmt:=top 51
abbrev oO:Stmt:=top 52
abbrev pE:Stmt:=top 55
abbrev oo:Stmt:=top 56
abbrev nX:Stmt:=top 57
abbrev lL:Stmt:=top 59
abbrev kY:Stmt:=top 60
abbrev lN:Stmt:=top 61
abbrev mi:Stmt:=top 62
abbrev oI:Stmt:=top 63
abbrev oQ:Stmt:=top 64
abbrev m5:Stmt:=top 65
abbrev px:Stmt:=top 66
abbrev og:Stmt:=top 67
abbrev mf:Stmt:=top 68
abbrev p8:Stmt:=top 69
abbrev m7:Stmt:=top 70
abbrev m3:Stmt:=top 71
abbrev m9:Stmt:=top 72
abbrev lp:Stmt:=top 73
abbrev nC:Stmt:=top 74
abbrev pM:Stmt:=top 75
abbrev ma:Stmt:=top 76
abbrev p3:Stmt:=top 77
abbrev lK:Stmt:=top 78
abbrev jB:Stmt:=top 79
abbrev mC:Stmt:=inClass (top 40) 0
abbrev my:Stmt:=inClass (top 40) 4
abbrev jW:Stmt:=inClass (top 53) 0
abbrev jO:Stmt:=inClass (top 53) 1
abbrev lP:Stmt:=inClass (top 53) 2
abbrev lH:Stmt:=inClass (top 53) 3
abbrev kL:Stmt:=inClass (top 53) 4
abbrev kz:Stmt:=inClass (top 53) 5
abbrev lW:Stmt:=inClass (top 53) 6
abbrev lB:Stmt:=inClass (top 53) 7
abbrev kK:Stmt:=inClass (top 53) 8
abbrev kD:Stmt:=inClass (top 53) 9
abbrev j8:Stmt:=inClass (top 53) 10
abbrev kJ:Stmt:=inClass (top 53) 11
abbrev mx:Stmt:=inClass (top 53) 12
structure Txt (mg : Str -> Option Value) : Prop where
 isi : mg "isinstance" = none
 int : mg "int" = none
 bool : mg "bool" = none
 str : mg "str" = none
 list : mg "list" = none
 tuple : mg "tuple" = none
 len : mg "len" = none
 all : mg "all" = none
 ord : mg "ord" = none
 range : mg "range" = none
 enum : mg "enumerate" = none
 sorted : mg "sorted" = none
 sum : mg "sum" = none
 any : mg "any" = none
 val : mg "ValueError" = none
 cText : ∃ t, mg "MOST_TEXT_SIGNS" = some (.int 2000 t)
 cKey : ∃ t, mg "MOST_KEY_SIGNS" = some (.int 12 t)
 cWord : ∃ t, mg "MOST_WORD_SIGNS" = some (.int 2000 t)
 cSmall : ∃ t, mg "SMALL_SIGNS" = some (.str "abcdefghijklmnopqrstuvwxyz0123456789" t)
 cPer : ∃ t, mg "PERCENT_NUMBER" = some (.int 37 t)
 cGreat : ∃ t, mg "GREATEST_PART" = some (.int 255 t)
 cMore : ∃ t, mg "MORE_COMES" = some (.int 128 t)
section
variable {P : Program} {w : World} {K : PySem.W.Frag} {mg : Str -> Option Value} {base : Heap}
theorem mj{t u R:TS}{D:Ends}{σ:L2.St}{H:Hp}(hR:R=qh t u)(h:∀ R':TS,R'=u->qh t R' D σ H):R D σ H:=by subst hR;exact h u rfl
theorem lE{t R:TS}{D:Ends}{σ:L2.St}{H:Hp}(hR:R=t)(h:t D σ H):R D σ H:=by subst hR;exact h
theorem uE{g:TG}{x:V}{tb:TS}{D:Ends}{σ:L2.St}{H:Hp}(h:∀(B:TS) (D':Ends),B=tb->(∀ σ H,D.nx σ H->D'.nx σ H)->g x σ H fun σ2 H2=>B D' σ2 H2):g x σ H fun σ2 H2=>tb D σ2 H2:=h tb D rfl fun _ _ z=>z
theorem ES:bootBuiltins "ord"=some (.builtin "ord"):=dk
def ny(K:W.Frag):Sp:=fun vs H Q _=>∃ x,vs=[x]/\Known K H x/\Q (.bl (qU x && !rO x)) H
theorem BN:eX ["thing"] ["thing"] (er km):=⟨rfl,rfl,rfl,dk,rfl,dk,dk⟩
seal eK PS PE PT PA PG PI eV eQ in
theorem pJ{f:Addr}{fd:FuncData}(D:Df K mg "is_whole" km f fd)(T:Txt mg):d8 P w K mg base eu 1 f fd ["thing"] (ny K):=by
 refine D.F.ok BN (fun vs H Q E h=>?_) (fun cdv A outer s H vs Q E J h=>?_)
 ·obtain⟨x,rfl,_⟩:=h
  rfl
 ·obtain⟨x,rfl,⟨n,I⟩,k⟩:=h
  refine⟨_,d9 (eG (ql (fG jJ rfl T.isi jH (dY (pv 0) (dY (jE (v:= .ty "int") rfl T.int yX rfl) dZ)))
   (qb (yO (fG jJ rfl T.isi jH (dY (pv 0) (dY (jE (v:= .ty "bool") rfl T.bool ve rfl) dZ))))))),?_⟩
  refine⟨_,rfl,x,.ty "int",_,_,rfl,I,.inl ⟨_,rfl,HG I⟩,_,rfl,?_⟩
  cases hi:qU x with
  | false=>
   rw [hi] at k
   exact eD k
  | true=>
   rw [hi] at k
   refine eN ?_
   exact⟨_,rfl,x,.ty "bool",_,_,rfl,I,.inl ⟨_,rfl,vp I⟩,_,rfl,k⟩
def vG:Sp:=fun vs H Q _=>∃ c:Nat,vs=[.str ⟨#[c]⟩]/\Q (.bl (gy c)) H
theorem CO:eX ["sign"] ["sign"] (er oS):=⟨rfl,rfl,rfl,dk,rfl,dk,dk⟩
theorem Fp(c d:Nat):decide (V.str ⟨#[c]⟩=V.str ⟨#[d]⟩)=decide (c=d):=by
 by_cases h:c=d
 ·subst h;simp
 ·rw [decide_eq_false h]
  exact decide_eq_false fun z=>h (by injection z with z;injection z with z;simpa using z)
theorem w6(c d:Nat):decide (([c]:List Nat) < [d])=decide (c < d):=by
 by_cases h:c < d
 ·rw [decide_eq_true h];exact decide_eq_true (List.Lex.rel h)
 ·rw [decide_eq_false h]
  exact decide_eq_false fun z=>by
   cases z with
   | rel q=>exact h q
   | cons q=>cases q
seal eK PS PE PT PA PG PI eV eQ in
theorem B5{f:Addr}{fd:FuncData}(D:Df K mg "is_text_sign" oS f fd)(T:Txt mg):d8 P w K mg base eu 1 f fd ["sign"] vG:=by
 obtain⟨tp,cp⟩:=T.cPer
 refine D.F.ok CO (fun vs H Q E h=>?_) (fun cdv A outer s H vs Q E hr h=>?_)
 ·obtain⟨c,rfl,_⟩:=h
  rfl
 ·obtain⟨c,rfl,k⟩:=h
  refine⟨_,d9 (eG (AJ (pP ig (pv 0) fF (eZ _)) (qb (ql (Aq vy vy fF (pv 0) fF)
   (qb (pP jv (fG zS rfl T.ord ES (dY (pv 0) dZ)) (je (v:= .int 37) rfl cp ⟨_,rfl⟩) (eZ _))))))),?_⟩
  refine⟨_,rfl,rfl,_,rfl,?_⟩
  have J:decide (V.str ⟨#[c]⟩=V.str (Str.ofString "\n"))=decide (c=10):=Fp c 10
  rw [J]
  unfold gy at k
  by_cases I:c=10
  ·rw [decide_eq_true I] at k ⊢
   exact eN k
  ·rw [decide_eq_false I] at k ⊢
   refine eD ?_
   refine⟨_,rfl,_,_,rfl,rfl,_,rfl,?_⟩
   have ab:(!decide ((⟨#[c]⟩:Str).cps.toList < (Str.ofString " ").cps.toList))=decide (32<=c):=by
    show(!decide (([c]:List Nat) < [32]))=_
    rw [w6]
    by_cases h:c < 32
    ·rw [decide_eq_true h,decide_eq_false (by(clear I J cp;omega))];rfl
    ·rw [decide_eq_false h,decide_eq_true (by(clear I J cp;omega))];rfl
   rw [ab]
   by_cases U:32<=c
   ·rw [decide_eq_true U] at k ⊢
    refine eN ⟨_,_,rfl,rfl,_,rfl,?_⟩
    have ae:(!decide ((Str.ofString "~").cps.toList < (⟨#[c]⟩:Str).cps.toList))=decide (c<=126):=by
     show(!decide (([126]:List Nat) < [c]))=_
     rw [w6]
     by_cases h:126 < c
     ·rw [decide_eq_true h,decide_eq_false (by(clear U ab I J cp;omega))];rfl
     ·rw [decide_eq_false h,decide_eq_true (by(clear U ab I J cp;omega))];rfl
    rw [ae]
    by_cases aa:c<=126
    ·rw [decide_eq_true aa] at k ⊢
     refine eN ⟨_,rfl,_,rfl,rfl,rfl,?_⟩
     have af:decide (V.int (((⟨#[c]⟩:Str).cps.getD 0 0:Nat):Int)=V.int 37)=decide (c=37):=by
      rw [uN]
      by_cases h:c=37
      ·subst h;rfl
      ·rw [decide_eq_false h]
       exact beq_eq_false_iff_ne.mpr fun z=>h (by have z':((c:Nat):Int)=37:=z;(clear z h aa ae U ab I J cp;omega))
     rw [af]
     exact k
    ·rw [decide_eq_false aa] at k ⊢
     exact eD k
   ·rw [decide_eq_false U] at k ⊢
    exact eD ⟨_,rfl,eD k⟩
theorem str_len(z:Str):z.cps.toList.length=z.length:=by simp [Str.length]
theorem u6{z:Str}{i c:Nat}(h:z.cps[i]? =some c):z.cps.toList[i]? =some c:=by simpa using h
theorem zF:(["sign"]:List Str).Nodup:=dk
def zm(K:W.Frag):Sp:=fun vs H Q _=>∃ x,vs=[x]/\Known K H x/\iH x/\∀ H',d3 H H'->Q (.bl (gL x)) H'
theorem EF:eX ["thing"] ["thing"] (er nM):=⟨rfl,rfl,rfl,dk,rfl,dk,dk⟩
theorem HL{x:V}(h:mU x=false):gL x=false:=by cases x<;>first | rfl | cases h
theorem HP{x:V}{m:Nat}(h:mU x=false):fV m x=false:=by cases x<;>first | rfl | cases h
theorem isStr{x:V}(h:mU x=true):∃ z,x= .str z:=by cases x<;>first | exact⟨_,rfl⟩ | cases h
seal eK PS PE PT PA PG PI eV eQ in
theorem CV{f fs:Addr}{fd fds:FuncData}(D:Df K mg "is_text" nM f fd)(DS:Df K mg "is_text_sign" oS fs fds)(T:Txt mg):d8 P w K mg base eu 2 f fd ["thing"] (zm K):=by
 obtain⟨tc,I⟩:=T.cText
 have GS:d8 P w K mg base eu 1 fs fds ["sign"] vG:=B5 DS T
 have bS:=fN (p:="sign") DS.F fun _ _ _ _ _ _ _=>rfl
 refine D.F.ok EF (fun vs H Q E h=>?_) (fun cdv A outer s H vs Q E hr h=>?_)
 ·obtain⟨x,rfl,_⟩:=h
  rfl
 ·obtain⟨x,rfl,⟨n,J⟩,U,k⟩:=h
  refine⟨_,d6 (fE (PW.pt (gU (gH (gC (fG jJ rfl T.isi jH (dY (pv 0) (dY (jE (v:= .ty "str") rfl T.str uT rfl) dZ)))))
    (ip (eY jq (fG ko rfl T.len gf (dY (pv 0) dZ)) (je (v:= .int 2000) rfl I ⟨_,rfl⟩) (eZ _))))) (d9 (eG gM)) fB)
   (d9 (eG (fG (uS rfl) rfl T.all sQ (dY (ik (own:=1) (caps:=[]) (N:=["sign"]) (N0:=["thing"]) (sc0:=er nM) rfl (za (pv 0))
    (fun _ _ _=>eO (i:=0) zF rfl (Or.inl rfl)) (fun _ _ _=>iG)
    (fun _ _ _=>eI GS hr rfl DS.m DS.F.kp bS .nil eM (dY (pv 0) dZ)) (gD (by decide)) rfl rfl
    dk rfl dk dk rfl dk) dZ)))),?_⟩
  refine⟨_,rfl,x,.ty "str",_,_,rfl,J,.inl ⟨_,rfl,zO J⟩,_,rfl,?_⟩
  cases hx:mU x with
  | false=>
   refine eN (eN ?_)
   have:=k H (d3.refl H)
   rw [HL hx] at this
   exact this
  | true=>
   obtain⟨z,rfl⟩:=isStr hx
   have hz:=U z rfl
   have hl:(sizeLine:Nat)=16777216:=sizeLine_eq
   refine eD ?_
   refine⟨_,rfl,z,rfl,by(clear hx I;omega),_,_,rfl,rfl,_,rfl,?_⟩
   by_cases hlen:(2000:Int) < (z.length:Int)
   ·rw [decide_eq_true hlen]
    refine eN ?_
    have:=k H (d3.refl H)
    have e:gL (.str z)=false:=by
     show(decide (z.length<=2000) && _)=false
     rw [decide_eq_false (by(clear hl hz hx I;omega)),Bool.false_and]
    rw [e] at this
    exact this
   ·rw [decide_eq_false hlen]
    refine eD ?_
    have sz:z.cps.size=z.length:=rfl
    refine⟨_,rfl,z,rfl,vR (x:=z) (fun i ys H'=>d3 H H'/\ys=((z.cps.toList.take i).map fun c=>V.bl (gy c))) (by(clear hlen hx I;omega)) ⟨d3.refl H,rfl⟩ ?_ ?_⟩
    ·rintro i c ys H' N hc ⟨sm,rfl⟩ hN
     refine g1 ?_
     refine⟨_,rfl,c,rfl,hN _ _ ⟨sm,?_⟩⟩
     rw [List.take_add_one,u6 hc,List.map_append]
     rfl
    ·rintro ys H' ⟨sm,rfl⟩ _ p hp
     refine⟨p,z.cps.toList.map gy,rfl,d4.of (by rw [d7,List.take_of_length_le (by simp)];simp),?_⟩
     have:=k (upd H' p (.lst ((z.cps.toList.take z.cps.size).map fun c=>V.bl (gy c)))) (d3.upd sm hp)
     have e:gL (.str z)=(z.cps.toList.map gy).all id:=by
      show(decide (z.length<=2000) && _)=_
      rw [decide_eq_true (by(clear hp sz hl hz hx I;omega)),Bool.true_and,List.all_map]
      rfl
     rw [e] at this
     exact this
def tD(K:W.Frag):Sp:=fun vs H Q _=>∃(x:V) (m:Nat),vs=[x,.int m]/\Known K H x/\iH x/\∀ H',d3 H H'->Q (.bl (fV m x)) H'
theorem AX:eX ["thing","most"] ["thing","most"] (er lT):=⟨rfl,rfl,rfl,dk,rfl,dk,dk⟩
theorem B7{f g:Nat->Bool}(h:∀ c,c < 128->f c=g c)(hf:∀ c,f c=true->c < 128)(hg:∀ c,g c=true->c < 128)(c:Nat):f c=g c:=by
 by_cases I:c < 128
 ·exact h c I
 ·cases ef:f c with
  | true=>exact absurd (hf c ef) I
  | false=>
   cases eg:g c with
   | true=>exact absurd (hg c eg) I
   | false=>rfl
theorem BB{l:List Nat}(h:l.all (fun x=>decide (x < 128))=true)(c:Nat)(e:decide (c∈l)=true):c < 128:=of_decide_eq_true (List.all_eq_true.mp h c (of_decide_eq_true e))
abbrev zV:Str:=Str.ofString "abcdefghijklmnopqrstuvwxyz0123456789"
theorem Cy:∀ c:Nat,decide (c∈zV.cps.toList)=fq c:=B7 dk (BB dk) fun c h=>lC h
theorem vc(c:Nat):(!(Builtin.Str.occurrences (Str.ofString "abcdefghijklmnopqrstuvwxyz0123456789") ⟨#[c]⟩ 0 (Str.ofString "abcdefghijklmnopqrstuvwxyz0123456789").length 1).isEmpty)=fq c:=by
 rw [PySem.StrLaws.found_one]
 exact Cy c
seal eK PS PE PT PA PG PI eV eQ in
theorem wb{f:Addr}{fd:FuncData}(D:Df K mg "is_small_row" lT f fd)(T:Txt mg):d8 P w K mg base eu 1 f fd ["thing","most"] (tD K):=by
 obtain⟨tc,J⟩:=T.cSmall
 refine D.F.ok AX (fun vs H Q E h=>?_) (fun cdv A outer s H vs Q E hr h=>?_)
 ·obtain⟨x,m,rfl,_⟩:=h
  rfl
 ·obtain⟨x,m,rfl,⟨n,aa⟩,ab,k⟩:=h
  refine⟨_,d6 (fE (PW.pt (gU (gH (gC (fG jJ rfl T.isi jH (dY (pv 0) (dY (jE (v:= .ty "str") rfl T.str uT rfl) dZ)))))
    (gU (eY jm (fG ko rfl T.len gf (dY (pv 0) dZ)) d5 (eZ _))
    (ip (eY jq (fG ko rfl T.len gf (dY (pv 0) dZ)) (pv 1) (eZ _)))))) (d9 (eG gM)) fB)
   (d9 (eG (fG (uS rfl) rfl T.all sQ (dY (ik (own:=1) (caps:=[]) (N:=["sign"]) (N0:=["thing","most"]) (sc0:=er lT) rfl (za (pv 0))
    (fun _ _ _=>eO (i:=0) zF rfl (Or.inl rfl)) (fun _ _ _=>iG)
    (fun _ _ _=>pP qz (pv 0) (je (v:= .str (Str.ofString "abcdefghijklmnopqrstuvwxyz0123456789")) rfl J ⟨_,rfl⟩) rfl) (gD (by decide)) rfl rfl
    dk rfl dk dk rfl dk) dZ)))),?_⟩
  refine⟨_,rfl,x,.ty "str",_,_,rfl,aa,.inl ⟨_,rfl,zO aa⟩,_,rfl,?_⟩
  have U:=k H (d3.refl H)
  cases hx:mU x with
  | false=>
   rw [HP hx] at U
   exact eN (eN U)
  | true=>
   obtain⟨z,rfl⟩:=isStr hx
   have hz:=ab z rfl
   have hl:(sizeLine:Nat)=16777216:=sizeLine_eq
   have I:fV m (.str z)=(decide (1<=z.length) && decide (z.length<=m) && z.cps.toList.all fq):=rfl
   refine eD ?_
   refine⟨_,rfl,z,rfl,by(clear I hx J;omega),_,_,rfl,rfl,_,rfl,?_⟩
   by_cases h1:(z.length:Int) < 1
   ·rw [decide_eq_true h1]
    rw [I,decide_eq_false (by(clear I hl hz hx J;omega)),Bool.false_and,Bool.false_and] at U
    exact eN (eN U)
   ·rw [decide_eq_false h1]
    refine eD ⟨_,rfl,z,rfl,by(clear h1 I hx J;omega),_,rfl,_,_,rfl,rfl,_,rfl,?_⟩
    by_cases hlen:(m:Int) < (z.length:Int)
    ·rw [decide_eq_true hlen]
     rw [I,decide_eq_false (show ¬ z.length<=m by(clear h1 I hl hz hx J;omega)),Bool.and_false,Bool.false_and] at U
     exact eN U
    ·rw [decide_eq_false hlen]
     refine eD ?_
     have sz:z.cps.size=z.length:=rfl
     refine⟨_,rfl,z,rfl,vR (x:=z) (fun i ys H'=>d3 H H'/\ys=((z.cps.toList.take i).map fun c=>V.bl (fq c))) (by(clear hlen h1 I hx J;omega)) ⟨d3.refl H,rfl⟩ ?_ ?_⟩
     ·rintro i c ys H' N hc ⟨sm,rfl⟩ hN
      refine g1 ?_
      refine⟨_,rfl,_,_,rfl,rfl,hN _ _ ⟨sm,?_⟩⟩
      rw [vc,List.take_add_one,u6 hc,List.map_append]
      rfl
     ·rintro ys H' ⟨sm,rfl⟩ _ p hp
      refine⟨p,z.cps.toList.map fq,rfl,d4.of (by rw [d7,List.take_of_length_le (by simp)];simp),?_⟩
      have:=k (upd H' p (.lst ((z.cps.toList.take z.cps.size).map fun c=>V.bl (fq c)))) (d3.upd sm hp)
      have e:fV m (.str z)=(z.cps.toList.map fq).all id:=by
       rw [I,decide_eq_true (by(clear hp sz hlen I hl hz hx J;omega)),decide_eq_true (by(clear hp sz h1 I hl hz hx J;omega)),Bool.true_and,Bool.true_and,List.all_map]
       rfl
      rw [e] at this
      exact this
def pW(K:W.Frag)(m:Nat):Sp:=fun vs H Q _=>∃ x,vs=[x]/\Known K H x/\iH x/\∀ H',d3 H H'->Q (.bl (fV m x)) H'
theorem EG:eX ["thing"] ["thing"] (er ng):=⟨rfl,rfl,rfl,dk,rfl,dk,dk⟩
theorem EI:eX ["thing"] ["thing"] (er pB):=⟨rfl,rfl,rfl,dk,rfl,dk,dk⟩
seal eK PS PE PT PA PG PI eV eQ in
theorem A6{f fr:Addr}{fd fdr:FuncData}(D:Df K mg "is_key" ng f fd)(DR:Df K mg "is_small_row" lT fr fdr)(T:Txt mg):d8 P w K mg base eu 2 f fd ["thing"] (pW K 12):=by
 obtain⟨tc,J⟩:=T.cKey
 have U:d8 P w K mg base eu 1 fr fdr ["thing","most"] (tD K):=wb DR T
 have bR:=DR.F.binds (ps:=["thing","most"]) fun _ _ _ _ _ _ us hl=>gG (fun _ _=>rfl) us hl
 refine D.F.ok EG (fun vs H Q E h=>?_) (fun cdv A outer s H vs Q E hr h=>?_)
 ·obtain⟨x,rfl,_⟩:=h
  rfl
 ·obtain⟨x,rfl,hk,I,k⟩:=h
  refine⟨_,d9 (eG (eI U hr rfl DR.m DR.F.kp bR .nil eM (dY (pv 0) (dY (je (v:= .int 12) rfl J ⟨_,rfl⟩) dZ)))),?_⟩
  exact⟨_,rfl,x,12,rfl,hk,I,k⟩
seal eK PS PE PT PA PG PI eV eQ in
theorem Be{f fr:Addr}{fd fdr:FuncData}(D:Df K mg "is_word" pB f fd)(DR:Df K mg "is_small_row" lT fr fdr)(T:Txt mg):d8 P w K mg base eu 2 f fd ["thing"] (pW K 2000):=by
 obtain⟨tc,J⟩:=T.cWord
 have U:d8 P w K mg base eu 1 fr fdr ["thing","most"] (tD K):=wb DR T
 have bR:=DR.F.binds (ps:=["thing","most"]) fun _ _ _ _ _ _ us hl=>gG (fun _ _=>rfl) us hl
 refine D.F.ok EI (fun vs H Q E h=>?_) (fun cdv A outer s H vs Q E hr h=>?_)
 ·obtain⟨x,rfl,_⟩:=h
  rfl
 ·obtain⟨x,rfl,hk,I,k⟩:=h
  refine⟨_,d9 (eG (eI U hr rfl DR.m DR.F.kp bR .nil eM (dY (pv 0) (dY (je (v:= .int 2000) rfl J ⟨_,rfl⟩) dZ)))),?_⟩
  exact⟨_,rfl,x,2000,rfl,hk,I,k⟩
def kC(K:W.Frag)(p:V->Bool)(C:Addr):Sp:=fun vs H Q E=>∃ x,vs=[x]/\Known K H x/\iH x/\(p x=true->∀ H',d3 H H'->Q x H')/\(p x=false->∀ H',d3 H H'->E (.ref C) none H')
theorem AL:eX ["thing"] ["thing"] (er nu):=⟨rfl,rfl,rfl,dk,rfl,dk,dk⟩
theorem z0:eX ["thing"] ["thing"] (er pF):=⟨rfl,rfl,rfl,dk,rfl,dk,dk⟩
theorem Ds:eX ["thing"] ["thing"] (er m8):=⟨rfl,rfl,rfl,dk,rfl,dk,dk⟩
seal eK PS PE PT PA PG PI eV eQ in
theorem D5{f ft C:Addr}{fd fdt:FuncData}(D:Df K mg "need_text" nu f fd)(DT:Df K mg "is_text" nM ft fdt)(X:Ex K mg "BadText" C)(GT:d8 P w K mg base eu 2 ft fdt ["thing"] (zm K)):d8 P w K mg base (eP P w) 3 f fd ["thing"] (kC K gL C):=by
 have U:=fN (p:="thing") DT.F fun _ _ _ _ _ _ _=>rfl
 refine D.F.ok1 AL (fun vs H Q E h=>?_) (fun cdv A outer s H vs Q E hr h=>?_)
 ·obtain⟨x,rfl,_⟩:=h
  rfl
 ·obtain⟨x,rfl,hk,I,k1,k2⟩:=h
  refine⟨_,d6 (fE (gH (gC (eI GT hr rfl DT.m DT.F.kp U .nil eM (dY (pv 0) dZ)))) (d9 (ki rfl X.q F.excBase_ValueError dk F.excBase_ValueError rfl X.m (dY fF dZ) kr)) fB)
   (d9 (eG (pv 0))),?_⟩
  refine⟨_,rfl,x,rfl,hk,I,fun H' J=>⟨_,rfl,?_⟩⟩
  cases hx:gL x with
  | false=>exact eN ⟨by show 1<=sizeLine;decide,k2 hx H' J⟩
  | true=>exact eD ⟨_,rfl,k1 hx H' J⟩
seal eK PS PE PT PA PG PI eV eQ in
theorem Eg{f ft C:Addr}{fd fdt:FuncData}(D:Df K mg "need_key" pF f fd)(DT:Df K mg "is_key" ng ft fdt)(X:Ex K mg "BadKey" C)(GT:d8 P w K mg base eu 2 ft fdt ["thing"] (pW K 12)):d8 P w K mg base (eP P w) 3 f fd ["thing"] (kC K (fV 12) C):=by
 have U:=fN (p:="thing") DT.F fun _ _ _ _ _ _ _=>rfl
 refine D.F.ok1 z0 (fun vs H Q E h=>?_) (fun cdv A outer s H vs Q E hr h=>?_)
 ·obtain⟨x,rfl,_⟩:=h
  rfl
 ·obtain⟨x,rfl,hk,I,k1,k2⟩:=h
  refine⟨_,d6 (fE (gH (gC (eI GT hr rfl DT.m DT.F.kp U .nil eM (dY (pv 0) dZ)))) (d9 (ki rfl X.q F.excBase_ValueError dk F.excBase_ValueError rfl X.m (dY fF dZ) kr)) fB)
   (d9 (eG (pv 0))),?_⟩
  refine⟨_,rfl,x,rfl,hk,I,fun H' J=>⟨_,rfl,?_⟩⟩
  cases hx:fV 12 x with
  | false=>exact eN ⟨by show 1<=sizeLine;decide,k2 hx H' J⟩
  | true=>exact eD ⟨_,rfl,k1 hx H' J⟩
seal eK PS PE PT PA PG PI eV eQ in
theorem Dx{f ft C:Addr}{fd fdt:FuncData}(D:Df K mg "need_word" m8 f fd)(DT:Df K mg "is_word" pB ft fdt)(X:Ex K mg "BadWord" C)(GT:d8 P w K mg base eu 2 ft fdt ["thing"] (pW K 2000)):d8 P w K mg base (eP P w) 3 f fd ["thing"] (kC K (fV 2000) C):=by
 have U:=fN (p:="thing") DT.F fun _ _ _ _ _ _ _=>rfl
 refine D.F.ok1 Ds (fun vs H Q E h=>?_) (fun cdv A outer s H vs Q E hr h=>?_)
 ·obtain⟨x,rfl,_⟩:=h
  rfl
 ·obtain⟨x,rfl,hk,I,k1,k2⟩:=h
  refine⟨_,d6 (fE (gH (gC (eI GT hr rfl DT.m DT.F.kp U .nil eM (dY (pv 0) dZ)))) (d9 (ki rfl X.q F.excBase_ValueError dk F.excBase_ValueError rfl X.m (dY fF dZ) kr)) fB)
   (d9 (eG (pv 0))),?_⟩
  refine⟨_,rfl,x,rfl,hk,I,fun H' J=>⟨_,rfl,?_⟩⟩
  cases hx:fV 2000 x with
  | false=>exact eN ⟨by show 1<=sizeLine;decide,k2 hx H' J⟩
  | true=>exact eD ⟨_,rfl,k1 hx H' J⟩
theorem yG:eX ["thing","least","most"] ["thing","least","most"] (er kS):=⟨rfl,rfl,rfl,dk,rfl,dk,dk⟩
seal eK PS PE PT PA PG PI eV eQ in
theorem E4{f fw C:Addr}{fd fdw:FuncData}(D:ir K mg "need_number" kS f fd #[.none])(DW:Df K mg "is_whole" km fw fdw)(X:Ex K mg "BadNumber" C)(T:Txt mg):d8 P w K mg base (eP P w) 2 f fd ["thing","least","most"] (tW K C):=by
 have J:d8 P w K mg base eu 1 fw fdw ["thing"] (ny K):=pJ DW T
 have U:=fN (p:="thing") DW.F fun _ _ _ _ _ _ _=>rfl
 refine D.ok1 yG (fun vs H Q E h=>?_) (fun cdv A outer s H vs Q E hr h=>?_)
 ·obtain⟨x,l,m,rfl,_⟩:=h
  rfl
 ·obtain⟨x,l,m,rfl,hk,k1,k2⟩:=h
  refine⟨_,d6 (fE (gH (gC (eI J hr rfl DW.m DW.F.kp U .nil eM (dY (pv 0) dZ)))) (d9 (ki rfl X.q F.excBase_ValueError dk F.excBase_ValueError rfl X.m (dY fF dZ) kr)) fB)
   (d6 (fE (eY jm (pv 0) (pv 1) (eZ _)) (d9 (ki rfl X.q F.excBase_ValueError dk F.excBase_ValueError rfl X.m (dY fF dZ) kr)) fB)
   (d6 (fE (PW.pt (mv (kH (xg (pv 2))) (mz (eY jq (pv 0) (pv 2) (eZ _))))) (d9 (ki rfl X.q F.excBase_ValueError dk F.excBase_ValueError rfl X.m (dY fF dZ) kr)) fB)
   (d9 (eG (pv 0))))),?_⟩
  refine⟨_,rfl,x,rfl,hk,_,rfl,?_⟩
  cases hx:qU x && !rO x with
  | false=>
   refine eN ⟨by show 1<=sizeLine;decide,k2 ?_⟩
   cases x<;>first | rfl | cases hx
  | true=>
   obtain⟨i,rfl⟩:∃ i,x= .int i:=by cases x<;>first | exact⟨_,rfl⟩ | cases hx
   refine eD ?_
   refine⟨_,rfl,_,rfl,_,_,rfl,rfl,_,rfl,?_⟩
   by_cases I:i < l
   ·rw [decide_eq_true I]
    refine eN ⟨by show 1<=sizeLine;decide,k2 ?_⟩
    show(decide (l<=i) && _)=false
    rw [decide_eq_false (by(clear hx;omega)),Bool.false_and]
   ·rw [decide_eq_false I]
    refine eD ⟨_,rfl,_,rfl,?_⟩
    cases m with
    | none=>
     refine eD (eD ⟨_,rfl,k1 ?_⟩)
     show(decide (l<=i) && true)=true
     rw [decide_eq_true (by(clear hx;omega))];rfl
    | some m=>
     refine eN ⟨_,rfl,_,rfl,_,_,rfl,rfl,_,rfl,?_⟩
     by_cases hm:m < i
     ·rw [decide_eq_true hm]
      refine eN ⟨by show 1<=sizeLine;decide,k2 ?_⟩
      show(decide (l<=i) && decide (i<=m))=false
      rw [decide_eq_false (show ¬ i<=m by(clear I hx;omega)),Bool.and_false]
     ·rw [decide_eq_false hm]
      refine eD ⟨_,rfl,k1 ?_⟩
      show(decide (l<=i) && decide (i<=m))=true
      rw [decide_eq_true (by(clear hm hx;omega)),decide_eq_true (by(clear I hx;omega))];rfl
def rZ:Sp:=fun vs H Q _=>∃ n k:Int,vs=[.int n,.int k]/\0<=k/\k<=1000000/\∀ r:Int,0<=r->r < 2147483629->Q (.int r) H
theorem rB:eX ["_law_number_here","_law_k"] ["_law_number_here","_law_k"] (er kY):=⟨rfl,rfl,rfl,dk,rfl,dk,dk⟩
seal eK PS PE PT PA PG PI eV eQ in
theorem wc{f:Addr}{fd:FuncData}(D:Df K mg "_law_mixed" kY f fd):d8 P w K mg base eu 1 f fd ["_law_number_here","_law_k"] rZ:=by
 refine D.F.ok rB (fun vs H Q E h=>?_) (fun cdv A outer s H vs Q E hr h=>?_)
 ·obtain⟨n,k,rfl,_⟩:=h
  rfl
 ·obtain⟨n,k,rfl,h0,h1,U⟩:=h
  refine⟨_,d6 (eE (i:=0) rB.nd rfl (Or.inl rfl) (ek fY (ek iD (ek fQ (ek fQ (ek fY (pv 0) d5) (ek iD (ek iD d5 (pv 1)) (pv 1))) (ek iD d5 (pv 1))) d5) d5))
   (d9 (eG (ek fY (ek iD (pv 0) (ek fQ d5 (ek iD d5 (pv 1)))) d5))),?_⟩
  refine⟨_,rfl,_,_,rfl,rfl,(by show(0:Int) < 2147483647;decide),_,rfl,_,_,rfl,rfl,.inl ⟨by decide,by decide⟩,_,rfl,_,_,rfl,rfl,.inr ⟨by(clear h1;omega),by(clear h0;omega)⟩,_,_,rfl,rfl,_,rfl,_,_,rfl,rfl,.inl ⟨by decide,by decide⟩,_,_,rfl,rfl,
   _,_,rfl,rfl,.inr ⟨by decide,by decide⟩,_,_,rfl,rfl,(by show(0:Int) < 2147483647;decide),?_⟩
  have I:=Int.emod_nonneg ((n % 2147483647 + 7919 * k * k + 31 * k) * 48271) (show(2147483647:Int)≠0 by decide)
  have J:=Int.emod_lt_of_pos ((n % 2147483647 + 7919 * k * k + 31 * k) * 48271) (show(0:Int) < 2147483647 by decide)
  refine⟨_,rfl,_,rfl,_,_,rfl,rfl,.inl ⟨by decide,by decide⟩,_,_,rfl,rfl,_,_,rfl,rfl,.inl ⟨by(clear J I h1 h0;omega),by(clear J I h1 h0;omega)⟩,_,_,rfl,rfl,(by show(0:Int) < 2147483629;decide),?_⟩
  exact U _ (Int.emod_nonneg _ (by decide)) (Int.emod_lt_of_pos _ (by decide))
theorem EA:eX ["_law_script","_law_k"] ["_law_script","_law_k"] (er lN):=⟨rfl,rfl,rfl,dk,rfl,dk,dk⟩
def j1(x:Wd):HO:= .tup [.str ⟨x.1.toArray⟩,.int x.2.1,.int x.2.2]
structure WL (H : Hp) (a : Addr) (ws : List Wd) : Prop where
 ex : ∃ ps : List Addr, H a = some (.lst (ps.map V.ref)) /\ Paired (fun p x => H p = some (j1 x)) ps ws
theorem WL.same {H H':Hp}{a:Addr}{ws:List Wd}(h:WL H a ws)(s:d3 H H'):WL H' a ws:=by
 obtain⟨ps,e,p⟩:=h.ex
 exact⟨ps,s _ _ e,Paired.imp2 p fun _ _ q=>s _ _ q⟩
theorem WL.more {H:Hp}{a t:Addr}{ws:List Wd}{x:Wd}{ps:List Addr}(e:H a=some (.lst (ps.map V.ref)))(p:Paired (fun p x=>H p=some (j1 x)) ps ws)(ht:H t=none):
  WL (upd (upd H t (j1 x)) a (.lst (ps.map V.ref++[.ref t]))) a (ws++[x]):=by
 have I:t≠a:=fun z=>by rw [z,e] at ht;cases ht
 refine⟨ps++[t],by rw [d7,List.map_append];rfl,?_⟩
 refine Paired.app (Paired.imp2 p fun q y h=>?_) (by rw [eC I,d7])
 have h1:q≠a:=fun z=>by rw [z,e] at h;cases h
 have h2:q≠t:=fv h ht
 rw [eC h1,eC h2]
 exact h
def codes(x:Str):List Nat:=x.cps.toList
def Drawn(x:Str):Prop:=x.length<=2000/\(codes x).all gy=true
theorem kO(a b:List Nat):(⟨a.toArray⟩:Str)++⟨b.toArray⟩=⟨(a++b).toArray⟩:=by
 show(⟨a.toArray++b.toArray⟩:Str)=_
 simp
theorem iK(a:List Nat):(⟨a.toArray⟩:Str).length=a.length:=by simp [Str.length]
theorem yS:Str.ofString ""=⟨([]:List Nat).toArray⟩:=rfl
theorem pj{a b:List Nat}(h:a.length + b.length<=5000):(⟨a.toArray⟩:Str).length + (⟨b.toArray⟩:Str).length<=sizeLine:=by
 rw [iK,iK,sizeLine_eq]
 omega
theorem sE(a b:List Nat):decide (V.str ⟨a.toArray⟩=V.str ⟨b.toArray⟩)=decide (a=b):=by
 by_cases h:a=b
 ·subst h;simp
 ·rw [decide_eq_false h]
  exact decide_eq_false fun z=>h (by injection z with z;injection z with z;simpa using z)
theorem EB(l:List Nat){a b:Nat}(hab:a<=b)(hb:b<=l.length):Txt.slice ⟨l.toArray⟩ (some (a:Int)) (some (b:Int))=⟨((l.drop a).take (b - a)).toArray⟩:=by
 have h:=PySem.StrLaws.sliceText_nat (⟨l.toArray⟩:Str) hab (by rw [iK];exact hb)
 have e:(⟨l.toArray⟩:Str).cps.toList=l:=by simp
 rw [e] at h
 exact h
theorem Gv{z:Str}(h:(codes z).all gy=true):Txt.lower z=⟨((codes z).map K01.lo).toArray⟩:=by
 rw [lower_ascii fun c I=>qE (List.all_eq_true.mp h c I)]
 show(⟨z.cps.map K01.lo⟩:Str)=_
 congr 1
 unfold codes
 apply Array.toList_inj.mp
 simp
theorem m4{z:Str}(h:gL (.str z)=true):Drawn z:=by
 have h':(decide (z.length<=2000) && z.cps.toList.all gy)=true:=h
 rw [Bool.and_eq_true] at h'
 exact⟨of_decide_eq_true h'.1,h'.2⟩
def vZ(K:W.Frag)(C:Addr):Sp:=fun vs H Q E=>∃ x,vs=[x]/\Known K H x/\iH x/\(∀ z,x= .str z->Drawn z->∀ a H',d3 H H'->H a=none->WL H' a (words (codes z))->Q (.ref a) H')/\(gL x=false->∀ H',d3 H H'->E (.ref C) none H')
theorem lu:eX ["text","small","found","begin","place","sign"] ["text"] (er oA):=⟨rfl,rfl,rfl,dk,rfl,dk,dk⟩
seal eK PS PE PT PA PG PI eV eQ in
theorem AQ{f ft C:Addr}{fd fdt:FuncData}(D:Df K mg "words_in" oA f fd)(DT:Df K mg "need_text" nu ft fdt)(GT:d8 P w K mg base (eP P w) 3 ft fdt ["thing"] (kC K gL C))(T:Txt mg):d8 P w K mg base (eP P w) 4 f fd ["text"] (vZ K C):=by
 obtain⟨tc,cc⟩:=T.cSmall
 have bT:=fN (p:="thing") DT.F fun _ _ _ _ _ _ _=>rfl
 refine D.F.ok1 lu (fun vs H Q E h=>?_) (fun cdv A outer s H vs Q E hr h=>?_)
 ·obtain⟨x,rfl,_⟩:=h
  rfl
 ·obtain⟨x,rfl,hk,aA,k1,k2⟩:=h
  have hl:(sizeLine:Nat)=16777216:=sizeLine_eq
  refine⟨_,d6 (eE (i:=1) lu.nd rfl (Or.inl rfl) (nE F.plainAttrs_str F.slot_str_lower F.type_str_lower Dn (eI GT hr rfl DT.m DT.F.kp bT .nil (iE (E':=E) (fun _ _ _ h=>h)) (dY (pv 0) dZ))))
   (d6 (eE (i:=2) lu.nd rfl (Or.inl rfl) (fJ dZ)) (d6 (eE (i:=3) lu.nd rfl (Or.inl rfl) d5)
   (d6 (PS.nox (fU PassesOwn.never rfl (HH rfl T.enum (dY (ek jl (pv 1) fF) dZ)) (iz rfl (gh (eO (i:=4) lu.nd rfl (Or.inl rfl)) (gh (eO (i:=5) lu.nd rfl (Or.inl rfl)) iC)))
    (d9 (fE (eY Fm (pv 5) (je (v:= .str (Str.ofString "abcdefghijklmnopqrstuvwxyz0123456789")) rfl cc ⟨_,rfl⟩) rfl)
     (d6 (fE (eY jm (pv 3) (pv 4) (eZ _))
      (d9 (gq (gj F.plainAttrs_list F.slot_list_append F.type_list_append gT (pv 2) (dY (g8 (dY (g7 jn (pv 1) (gR (pv 3)) (gR (pv 4))) (dY (pv 3) (dY (pv 4) dZ)))) dZ)))) fB)
     (d9 (eE (i:=3) lu.nd rfl (Or.inl rfl) (ek fQ (pv 4) d5)))) fB))))
   (d9 (eG (pv 2)))))),?_⟩
  refine⟨_,rfl,x,rfl,hk,aA,fun ht H1 s1=>?_,k2⟩
  obtain⟨z,rfl⟩:∃ z,x= .str z:=by cases x<;>first | exact⟨_,rfl⟩ | cases ht
  have hd:=m4 ht
  obtain⟨hlen,hok⟩:=id hd
  have J:(codes z).length=z.length:=by unfold codes;simp [Str.length]
  refine⟨rfl,z,rfl,rfl,by(clear J hok ht hl cc;omega),?_⟩
  rw [Gv hok]
  refine⟨Nat.zero_le _,fun a ha=>?_⟩
  have ah:H a=none:=s1.free ha
  refine⟨_,rfl,_,_,rfl,rfl,pj (b:=[32]) (by simp;(clear ah ha hok ht hl cc;omega)),_,rfl,?_⟩
  have ak:(⟨((codes z).map K01.lo).toArray⟩:Str)++Str.ofString " "=⟨((codes z).map K01.lo++[32]).toArray⟩:=kO _ [32]
  rw [ak]
  have U:gN ((codes z).map K01.lo++[32]) 0 []=words (codes z):=ue _ 0 []
  have hsz:(⟨((codes z).map K01.lo++[32]).toArray⟩:Str).cps.size=z.length + 1:=by simp [J]
  refine Bc (fun i σ H'=>∃(ds:List Wd) (wd:List Nat) (b:Nat) (v4 v5:Option V),σ=[some (.str z),some (.str ⟨((codes z).map K01.lo).toArray⟩),some (.ref a),some (.int b),v4,v5]/\d3 H H'/\WL H' a ds/\b + wd.length=i/\
    wd=(((codes z).map K01.lo++[32]).drop b).take wd.length/\ds.length<=i/\i<=z.length + 1/\(i=z.length + 1->wd=[])/\ds++gN (((codes z).map K01.lo++[32]).drop i) i wd=words (codes z)) ?_ ?_ ?_
  ·exact⟨[],[],0,none,none,rfl,d3.upd s1 ha,⟨[],d7,.nil⟩,rfl,rfl,Nat.le_refl _,Nat.zero_le _,fun _=>rfl,U⟩
  ·intro i c σ H' t hc hP ab
   refine uE fun B D' hB ax=>?_
   obtain⟨ds,wd,b,v4,v5,rfl,sm,hW,hb,af,ao,_,aw,heq⟩:=hP
   have ai:i < ((codes z).map K01.lo++[32]).length:=by
    have:i < (⟨((codes z).map K01.lo++[32]).toArray⟩:Str).cps.size:=(Array.getElem?_eq_some_iff.mp hc).1
    simpa using this
   have aj:i < z.length + 1:=by simpa [J] using ai
   have ae:((codes z).map K01.lo++[32])[i]? =some c:=by simpa using hc
   have I:((codes z).map K01.lo++[32]).drop i=c::((codes z).map K01.lo++[32]).drop (i + 1):=by
    rw [List.drop_eq_getElem_cons ai]
    congr 1
    rw [List.getElem?_eq_getElem ai] at ae
    exact Option.some.inj ae
   obtain⟨ps,eA,pA⟩:=hW.ex
   have aa:=Paired.len pA
   have ay:d3 H (upd H' t (.tup [.int i,.str ⟨#[c]⟩])):=d3.upd sm ab
   have ag:a≠t:=fv eA ab
   refine⟨t,_,rfl,eW.of d7,rfl,_,_,rfl,_,_,rfl,rfl,?_⟩
   refine lE (R:=B) hB ?_
   refine⟨_,rfl,_,_,rfl,rfl,_,rfl,?_⟩
   rw [vc]
   cases hS:fq c with
   | true=>
    refine eD ?_
    refine ax _ _ ⟨ds,wd++[c],b,_,_,rfl,ay,hW.same (eh ab),by simp;(clear hS ag aa eA I ae aj ai ab heq ao af hc hsz U ak ah ha J hok hlen ht hl cc;omega),?_,by(clear hS ag aa eA I ae aj ai ab heq af hb hc hsz U ak ah ha J hok hlen ht hl cc;omega),by(clear hS ag aa eA I ae ai ab heq ao af hb hc hsz U ak ah ha J hok hlen ht hl cc;omega),fun e=>?_,?_⟩
    ·have hg:(((codes z).map K01.lo++[32]).drop b)[wd.length]? =some c:=by rw [List.getElem?_drop,hb];exact ae
     rw [List.length_append,List.length_singleton,List.take_add_one,<-af,hg]
     rfl
    ·have e':i=((codes z).map K01.lo).length:=by rw [List.length_map,J];(clear hS ag aa eA I ae aj ai ab heq ao af hb hc hsz U ak ah ha J hok hlen ht hl cc;omega)
     rw [e',List.getElem?_append_right (Nat.le_refl _),Nat.sub_self] at ae
     have:c=32:=by simpa using ae.symm
     rw [this] at hS
     exact absurd hS (by decide)
    ·rw [I,md hS] at heq
     exact heq
   | false=>
    refine eN ?_
    rw [I,lj hS,<-List.append_assoc] at heq
    refine⟨_,rfl,_,rfl,_,_,rfl,rfl,_,rfl,?_⟩
    by_cases au:b < i
    ·rw [decide_eq_true (by(clear hS ag aa eA I ae aj ai ab heq ao af hb hc hsz U ak ah ha J hok hlen ht hl cc;omega))]
     refine eN ?_
     have aq:wd≠[]:=fun e=>by rw [e] at hb;simp at hb;(clear e hS ag aa eA I ae aj ai ab heq ao af hc hsz U ak ah ha J hok hlen ht hl cc;omega)
     refine⟨_,rfl,.inl ⟨rfl,_,d4.of (by rw [eC ag];exact eA)⟩,_,rfl,_,rfl,_,rfl,_,rfl,_,rfl,_,rfl,by rw [iK,List.length_map];(clear aq au hS ag aa eA I ae aj ai ab heq ao af hb hc hsz U ak ah ha hok ht cc;omega),?_⟩
     rw [EB _ (by(clear aq au hS ag aa eA I ae aj ai ab heq ao af hc hsz U ak ah ha J hok hlen ht hl cc;omega)) (by rw [List.length_map];(clear aq au hS ag aa eA I ae ai ab heq ao af hb hc hsz U ak ah ha hok hlen ht hl cc;omega))]
     refine⟨_,rfl,_,rfl,(by show 3<=sizeLine;decide),fun t2 av=>?_⟩
     have ar:a≠t2:=fv (show upd H' t (.tup [.int i,.str ⟨#[c]⟩]) a=some (.lst (ps.map V.ref)) by rw [eC ag];exact eA) av
     refine⟨a,_,_,rfl,rfl,by rw [eC ar,eC ag];exact eA,by simp;(clear ar av aq au hS ag eA I ae aj ai ab heq af hb hc hsz U ak ah ha J hok ht cc;omega),?_⟩
     have ew:((((codes z).map K01.lo).drop b).take (i - b))=wd:=by
      have e1:wd.length=i - b:=by(clear ar av aq au hS ag aa eA I ae aj ai ab heq ao af hc hsz U ak ah ha J hok hlen ht hl cc;omega)
      rw [e1,List.drop_append_of_le_length (by rw [List.length_map];(clear e1 ar av aq au hS ag aa eA I ae ai ab heq ao af hc hsz U ak ah ha hok hlen ht hl cc;omega)),List.take_append_of_le_length (by rw [List.length_drop,List.length_map];(clear e1 ar av aq au hS ag aa eA I ae ai ab heq ao af hb hc hsz U ak ah ha hok hlen ht hl cc;omega))] at af
      exact af.symm
     rw [ew]
     refine⟨_,rfl,_,_,rfl,rfl,?_⟩
     have et:HO.tup [V.str ⟨wd.toArray⟩,V.int (b:Int),V.int (i:Int)]=j1 (wd,i - wd.length,i):=by
      unfold j1
      show HO.tup [_,V.int ((b:Nat):Int),_]=HO.tup [_,V.int ((i - wd.length:Nat):Int),_]
      rw [show b=i - wd.length by(clear ew ar av aq au hS ag aa eA I ae aj ai ab heq ao af hc hsz U ak ah ha J hok hlen ht hl cc;omega)]
     rw [et]
     have az:flush i wd=[(wd,i - wd.length,i)]:=by unfold flush;rw [if_neg aq]
     rw [az] at heq
     refine ax _ _ ⟨ds++[(wd,i - wd.length,i)],[],i + 1,_,_,rfl,tT ay ah av,WL.more (by rw [eC ag];exact eA) (Paired.imp2 pA fun p y q=>by rw [eC (fv q ab)];exact q) av,by simp,by simp,by simp;(clear az et ew ar av aq au hS ag aa eA I ae aj ai ab heq af hb hc hsz U ak ah ha J hok hlen ht hl cc;omega),by(clear az et ew ar av aq au hS ag aa eA I ae ai ab heq ao af hb hc hsz U ak ah ha J hok hlen ht hl cc;omega),fun _=>rfl,heq⟩
    ·rw [decide_eq_false (by(clear hS ag aa eA I ae aj ai ab heq ao af hb hc hsz U ak ah ha J hok hlen ht hl cc;omega))]
     refine eD ?_
     have aq:wd=[]:=List.eq_nil_of_length_eq_zero (by(clear hS ag aa eA I ae aj ai ab heq ao af hc hsz U ak ah ha J hok hlen ht hl cc;omega))
     subst aq
     refine⟨_,rfl,_,_,rfl,rfl,?_⟩
     refine ax _ _ ⟨ds,[],i + 1,_,_,rfl,ay,hW.same (eh ab),by simp,by simp,by(clear heq af hb au hS ag aa eA I ae aj ai ab hc hsz U ak ah ha J hok hlen ht hl cc;omega),by(clear heq af hb au hS ag aa eA I ae ai ab ao hc hsz U ak ah ha J hok hlen ht hl cc;omega),fun _=>rfl,?_⟩
     simpa [flush] using heq
  ·rintro σ H' ⟨ds,wd,b,v4,v5,rfl,sm,hW,hb,af,ao,aB,aw,heq⟩
   rw [hsz] at aw heq
   have aq:=aw rfl
   subst aq
   rw [List.drop_of_length_le (by simp [J])] at heq
   have e:ds=words (codes z):=by simpa [gN,flush] using heq
   subst e
   exact⟨_,rfl,k1 z rfl hd a H' sm ah hW⟩
def om(ws:List Wd):List V:=ws.map fun x=> .str ⟨x.1.toArray⟩
def vL(K:W.Frag)(C:Addr):Sp:=fun vs H Q E=>∃ x,vs=[x]/\Known K H x/\iH x/\(∀ z,x= .str z->Drawn z->∀ a H',d3 H H'->H a=none->H' a=some (.lst (om (words (codes z))))->Q (.ref a) H')/\(gL x=false->∀ H',d3 H H'->E (.ref C) none H')
theorem Gk:eX ["text"] ["text"] (er nT):=⟨rfl,rfl,rfl,dk,rfl,dk,dk⟩
theorem p5:(["word","begin","end"]:List Str).Nodup:=dk
seal eK PS PE PT PA PG PI eV eQ in
theorem GZ{f ft C:Addr}{fd fdt:FuncData}(D:Df K mg "plain_words" nT f fd)(DT:Df K mg "words_in" oA ft fdt)(GT:d8 P w K mg base (eP P w) 4 ft fdt ["text"] (vZ K C)):d8 P w K mg base (eP P w) 5 f fd ["text"] (vL K C):=by
 have bT:=fN (p:="text") DT.F fun _ _ _ _ _ _ _=>rfl
 refine D.F.ok1 Gk (fun vs H Q E h=>?_) (fun cdv A outer s H vs Q E hr h=>?_)
 ·obtain⟨x,rfl,_⟩:=h
  rfl
 ·obtain⟨x,rfl,hk,J,k1,k2⟩:=h
  have hl:(sizeLine:Nat)=16777216:=sizeLine_eq
  refine⟨_,d9 (eG (ik (own:=3) (caps:=[]) (N:=["word","begin","end"]) (N0:=["text"]) (sc0:=er nT) rfl (gu (eI GT hr rfl DT.m DT.F.kp bT .nil (iE (E':=E) (fun _ _ _ h=>h)) (dY (pv 0) dZ)))
    (fun _ _ _=>iz (n:=3) rfl (gh (eO (i:=0) p5 rfl (Or.inl rfl)) (gh (eO (i:=1) p5 rfl (Or.inl rfl)) (gh (eO (i:=2) p5 rfl (Or.inl rfl)) iC)))) (fun _ _ _=>iG)
    (fun _ _ _=>pv 0) (oV (jD (gD (by decide)) (jD (gD (by decide)) (jD (gD (by decide)) pD)))) rfl rfl
    dk rfl dk dk rfl dk)),?_⟩
  refine⟨_,rfl,x,rfl,hk,J,?_,k2⟩
  rintro z rfl hd a H1 s1 ha hW
  obtain⟨ps,eA,pA⟩:=hW.ex
  have aa:=B4 (codes z)
  have af:=Paired.len pA
  have U:(codes z).length=z.length:=by unfold codes;simp [Str.length]
  have ab:=hd.1
  refine⟨a,rfl,⟨_,d4.of eA⟩,iL (xs:=ps.map V.ref) (fun i ys H'=>H'=H1/\ys=om ((words (codes z)).take i)) (by rw [List.length_map];(clear eA ha;omega)) (fun i ys H' p=>by rw [p.1];exact d4.of eA) ⟨rfl,rfl⟩ ?_ ?_⟩
  ·rintro i x ys H' N hx ⟨rfl,rfl⟩ hN
   rw [List.getElem?_map] at hx
   cases I:ps[i]? with
   | none=>rw [I] at hx;cases hx
   | some p=>
    rw [I] at hx
    have ae:x= .ref p:=(Option.some.inj hx).symm
    subst ae
    obtain⟨y,hy,hH⟩:=gK pA I
    refine⟨p,_,rfl,eW.of hH,rfl,_,_,rfl,_,_,rfl,_,_,rfl,rfl,qQ ?_⟩
    refine⟨_,rfl,hN _ _ ⟨rfl,?_⟩⟩
    unfold om
    rw [List.take_add_one,hy,List.map_append]
    rfl
  ·rintro ys H' ⟨rfl,rfl⟩ _ p I
   refine k1 z rfl hd p _ (d3.upd s1 I) (s1.free I) ?_
   rw [d7,List.length_map,List.take_of_length_le (by(clear I eA ab U aa ha hl;omega))]
abbrev nl(ns:List Nat):List V:=ns.map fun(n:Nat)=>V.int (n:Int)
theorem iw(a b:List Nat):nl (a++b)=nl a++nl b:=List.map_append
theorem fZ(a:List Nat):(nl a).length=a.length:=List.length_map _
def xR:Sp:=fun vs H Q _=>∃(a:Addr) (ps:List Nat),vs=[.ref a]/\H a=some (.lst (nl ps))/\(∀ p∈ps,p<=255)/\Q (.ref a) H
theorem zq:eX ["thing","part"] ["thing"] (er p4):=⟨rfl,rfl,rfl,dk,rfl,dk,dk⟩
theorem qv{H:Hp}(n:Int):Known K H (.int n):=⟨_,.int n⟩
theorem kx{ns:List Nat}{i:Nat}{x:V}(h:(nl ns)[i]? =some x):∃ c,ns[i]? =some c/\x= .int (c:Int):=by
 unfold nl at h
 rw [List.getElem?_map] at h
 cases hp:ns[i]? with
 | none=>rw [hp] at h;cases h
 | some c=>rw [hp] at h;exact⟨c,rfl,(Option.some.inj h).symm⟩
seal eK PS PE PT PA PG PI eV eQ in
theorem HQ{f fw:Addr}{fd fdw:FuncData}(D:Df K mg "need_parts" p4 f fd)(DW:Df K mg "is_whole" km fw fdw)(T:Txt mg):d8 P w K mg base eu 2 f fd ["thing"] xR:=by
 obtain⟨tg,cg⟩:=T.cGreat
 have GW:d8 P w K mg base eu 1 fw fdw ["thing"] (ny K):=pJ DW T
 have bW:=fN (p:="thing") DW.F fun _ _ _ _ _ _ _=>rfl
 refine D.F.ok zq (fun vs H Q E h=>?_) (fun cdv A outer s H vs Q E hr h=>?_)
 ·obtain⟨a,ps,rfl,_⟩:=h
  rfl
 ·obtain⟨a,ps,rfl,I,J,k⟩:=h
  refine⟨_,d6 (fE (gH (gC (fG jJ rfl T.isi jH (dY (pv 0) (dY (jE (v:= .ty "list") rfl T.list j7 rfl) dZ))))) (d9 jF) fB)
   (d6 (fU PassesOwn.never rfl (gu (pv 0)) (eO (i:=1) zq.nd rfl (Or.inl rfl))
    (d9 (fE (PW.pt (gU (gH (gC (eI GW hr rfl DW.m DW.F.kp bW .nil eM (dY (pv 1) dZ)))) (gU (eY jm (pv 1) d5 (eZ _)) (ip (eY jq (pv 1) (je (v:= .int 255) rfl cg ⟨_,rfl⟩) (eZ _)))))) (d9 jF) fB)))
   (d9 (eG (pv 0)))),?_⟩
  refine⟨_,rfl,.ref a,.ty "list",_,true,rfl,.lst I,.inl ⟨_,rfl,t8⟩,_,rfl,eD ?_⟩
  refine⟨_,rfl,a,rfl,⟨_,d4.of I⟩,?_⟩
  refine iS (xs:=nl ps) (fun i σ H'=>H'=H/\∃ o,σ=[some (.ref a),o]) ?_ ?_ ?_ ?_
  ·exact⟨rfl,none,rfl⟩
  ·rintro i σ H' _ ⟨rfl,_⟩
   exact d4.of I
  ·rintro i x σ H' U ⟨rfl,o,rfl⟩
   obtain⟨c,hc,rfl⟩:=kx U
   have aa:=J c (List.mem_of_getElem? hc)
   refine⟨_,rfl,.int c,rfl,qv _,_,rfl,eD ?_⟩
   refine⟨_,rfl,_,_,rfl,rfl,_,rfl,?_⟩
   rw [decide_eq_false (by omega)]
   refine eD ⟨_,rfl,_,_,rfl,rfl,_,rfl,?_⟩
   rw [decide_eq_false (by omega)]
   exact eD ⟨rfl,_,rfl⟩
  ·rintro σ H' ⟨rfl,o,rfl⟩
   exact⟨_,rfl,k⟩
def zr:Sp:=fun vs H Q _=>∃(a:Addr) (ns:List Nat),vs=[.ref a]/\H a=some (.lst (nl (pk ns)))/\ns.length<=2000/\∀ p H',d3 H H'->H p=none->H' p=some (.lst (nl ns))->Q (.ref p) H'
theorem j4:eX ["parts","numbers","number","weight","part"] ["parts"] (er ou):=⟨rfl,rfl,rfl,dk,rfl,dk,dk⟩
seal eK PS PE PT PA PG PI eV eQ in
theorem Fc{f fp:Addr}{fd fdp:FuncData}(D:Df K mg "unpacked" ou f fd)(DP:Df K mg "need_parts" p4 fp fdp)(GP:d8 P w K mg base eu 2 fp fdp ["thing"] xR)(T:Txt mg):d8 P w K mg base eu 3 f fd ["parts"] zr:=by
 obtain⟨tm,cm⟩:=T.cMore
 have bP:=fN (p:="thing") DP.F fun _ _ _ _ _ _ _=>rfl
 refine D.F.ok j4 (fun vs H Q E h=>?_) (fun cdv A outer s H vs Q E hr h=>?_)
 ·obtain⟨a,ns,rfl,_⟩:=h
  rfl
 ·obtain⟨a,ns,rfl,hA,hlen,k⟩:=h
  have hl:(sizeLine:Nat)=16777216:=sizeLine_eq
  refine⟨_,d6 (eE (i:=1) j4.nd rfl (Or.inl rfl) (fJ dZ))
   (d6 (eE (i:=2) j4.nd rfl (Or.inl rfl) d5)
   (d6 (eE (i:=3) j4.nd rfl (Or.inl rfl) d5)
   (d6 (fU PassesOwn.never rfl (gu (eI GP hr rfl DP.m DP.F.kp bP .nil eM (dY (pv 0) dZ))) (eO (i:=4) j4.nd rfl (Or.inl rfl))
    (d6 (Ca (i:=2) j4.nd rfl (Or.inl rfl) (ek iD (ek fY (pv 4) (je (v:= .int 128) rfl cm ⟨_,rfl⟩)) (pv 3)) El)
    (d9 (fE (eY zL (pv 4) (je (v:= .int 128) rfl cm ⟨_,rfl⟩) (eZ _))
     (d9 (eE (i:=3) j4.nd rfl (Or.inl rfl) (ek iD (pv 3) (je (v:= .int 128) rfl cm ⟨_,rfl⟩))))
     (d6 (fE (PW.pt (mv (eY ig (pv 4) d5 (eZ _)) (mz (eY jq (pv 3) d5 (eZ _))))) (d9 jF) fB)
     (d6 (gq (gj F.plainAttrs_list F.slot_list_append F.type_list_append gT (pv 1) (dY (pv 2) dZ)))
     (d6 (eE (i:=2) j4.nd rfl (Or.inl rfl) d5)
     (d9 (eE (i:=3) j4.nd rfl (Or.inl rfl) d5)))))))))
   (d6 (fE (eY jq (pv 3) d5 (eZ _)) (d9 jF) fB)
   (d9 (eG (pv 1))))))),?_⟩
  refine⟨(by show 0<=sizeLine;decide),fun p hp=>?_⟩
  have J:a≠p:=fv hA hp
  refine⟨_,rfl,a,pk ns,rfl,(by rw [eC J];exact hA),Bh ns,a,rfl,⟨_,d4.of (by rw [eC J];exact hA)⟩,?_⟩
  refine iS (xs:=nl (pk ns)) (fun i σ H'=>∃(done:List Nat) (num wt:Nat) (o:Option V),σ=[some (.ref a),some (.ref p),some (.int num),some (.int wt),o]/\H'=upd H p (.lst (nl done))/\Rd ns ((pk ns).drop i) done num wt) ?_ ?_ ?_ ?_
  ·exact⟨[],0,1,none,rfl,rfl,Rd.start ns⟩
  ·rintro i σ H' _ ⟨done,num,wt,o,_,rfl,_⟩
   exact d4.of (by rw [eC J];exact hA)
  ·rintro i x σ H' ab ⟨done,num,wt,o,rfl,rfl,U⟩
   obtain⟨c,hc,rfl⟩:=kx ab
   have hd:(pk ns).drop i=c::(pk ns).drop (i + 1):=by
    obtain⟨hi,e⟩:=List.getElem?_eq_some_iff.mp hc
    rw [List.drop_eq_getElem_cons hi,e]
   rw [hd] at U
   have af:=U.len
   have e1:(c:Int) % 128=((c % 128:Nat):Int):=by omega
   refine⟨_,rfl,_,rfl,_,_,rfl,rfl,(by show(0:Int) < 128;decide),_,rfl,_,_,rfl,rfl,.inl (by rw [e1];constructor<;>omega),_,_,rfl,rfl,?_⟩
   have e2:(num:Int) + (c:Int) % 128 * (wt:Int)=((num + c % 128 * wt:Nat):Int):=by rw [e1,Int.natCast_add,Int.natCast_mul]
   refine⟨_,rfl,_,_,rfl,rfl,_,rfl,?_⟩
   by_cases I:(128:Int)<=c
   ·rw [decide_eq_true I]
    refine eN ?_
    refine⟨_,rfl,_,_,rfl,rfl,.inr ⟨by decide,by decide⟩,done,num + c % 128 * wt,wt * 128,some (.int c),?_,rfl,U.more (by omega)⟩
    simp only [List.set]
    rw [e2,Int.natCast_mul]
    rfl
   ·rw [decide_eq_false I]
    refine eD ?_
    obtain⟨hz,aa⟩:=U.last (c:=c) (by omega)
    refine⟨_,rfl,rfl,_,rfl,?_⟩
    have e3:nl done++[V.int ((num:Int) + (c:Int) % 128 * (wt:Int))]=nl (done++[num + c % 128 * wt]):=by rw [iw,e2];rfl
    by_cases h0:c=0
    ·rw [iy (by omega)]
     refine eN ⟨_,rfl,_,_,rfl,rfl,_,rfl,?_⟩
     rw [decide_eq_false (by omega)]
     refine eD ?_
     refine⟨_,rfl,.inl ⟨rfl,_,d4.of d7⟩,_,rfl,p,_,_,rfl,rfl,d7,(by rw [fZ];omega),done++[num + c % 128 * wt],0,1,_,rfl,?_,aa⟩
     rw [ke]
     exact congrArg (fun z=>upd H p (.lst z)) e3
    ·rw [jg (by omega)]
     refine eD (eD ?_)
     refine⟨_,rfl,.inl ⟨rfl,_,d4.of d7⟩,_,rfl,p,_,_,rfl,rfl,d7,(by rw [fZ];omega),done++[num + c % 128 * wt],0,1,_,rfl,?_,aa⟩
     rw [ke]
     exact congrArg (fun z=>upd H p (.lst z)) e3
  ·rintro σ H' ⟨done,num,wt,o,rfl,rfl,U⟩
   rw [fZ,List.drop_length] at U
   obtain⟨hw,ae⟩:=U.done
   subst hw ae
   refine⟨_,rfl,_,_,rfl,rfl,_,rfl,?_⟩
   rw [decide_eq_false (by decide)]
   exact eD ⟨_,rfl,k p _ (eh hp) hp d7⟩
theorem Fv(n:Nat):(List.replicate n true).all id=true:=List.all_eq_true.mpr fun b hb=>List.eq_of_mem_replicate hb
theorem jX{α:Type}{xs:List α}{i:Nat}{x:α}(h:xs[i]? =some x):xs.drop i=x::xs.drop (i + 1):=by
 obtain⟨hi,e⟩:=List.getElem?_eq_some_iff.mp h
 rw [List.drop_eq_getElem_cons hi,e]
def Gp(ns done:List Nat)(l:Nat)(rest:List Nat):Prop:=gw 0 ns=done++gw l rest/\iX l rest
theorem Gp.step {ns done:List Nat}{l n:Nat}{r:List Nat}(h:Gp ns done l (n::r)):l<=n/\Gp ns (done++[n - l]) (n + 1) r:=by
 obtain⟨e,h⟩:=h
 refine⟨h.1,?_,h.2⟩
 rw [e,List.append_assoc]
 rfl
def xo:Sp:=fun vs H Q _=>∃(a:Addr) (gs:List Nat),vs=[.ref a]/\H a=some (.lst (nl gs))/\gs.length<=2000/\∀ p H',d3 H H'->H p=none->H' p=some (.lst (nl (nums 0 gs)))->Q (.ref p) H'
theorem oE:eX ["gaps","numbers","least","gap"] ["gaps"] (er oT):=⟨rfl,rfl,rfl,dk,rfl,dk,dk⟩
seal eK PS PE PT PA PG PI eV eQ in
theorem Hx{f:Addr}{fd:FuncData}(D:Df K mg "numbers_by" oT f fd):d8 P w K mg base eu 1 f fd ["gaps"] xo:=by
 refine D.F.ok oE (fun vs H Q E h=>?_) (fun cdv A outer s H vs Q E hr h=>?_)
 ·obtain⟨a,gs,rfl,_⟩:=h
  rfl
 ·obtain⟨a,gs,rfl,U,hlen,k⟩:=h
  have hl:(sizeLine:Nat)=16777216:=sizeLine_eq
  refine⟨_,d6 (eE (i:=1) oE.nd rfl (Or.inl rfl) (fJ dZ))
   (d6 (eE (i:=2) oE.nd rfl (Or.inl rfl) d5)
   (d6 (fU PassesOwn.never rfl (gu (pv 0)) (eO (i:=3) oE.nd rfl (Or.inl rfl))
    (d6 (gq (gj F.plainAttrs_list F.slot_list_append F.type_list_append gT (pv 1) (dY (ek fQ (pv 2) (pv 3)) dZ)))
    (d9 (eE (i:=2) oE.nd rfl (Or.inl rfl) (ek fQ (ek fQ (pv 2) (pv 3)) d5)))))
   (d9 (eG (pv 1))))),?_⟩
  refine⟨(by show 0<=sizeLine;decide),fun p J=>⟨_,rfl,a,rfl,⟨_,d4.of (eh J _ _ U)⟩,?_⟩⟩
  refine iS (xs:=nl gs) (fun i σ H'=>∃(done:List Nat) (l:Nat) (o:Option V),σ=[some (.ref a),some (.ref p),some (.int l),o]/\H'=upd H p (.lst (nl done))/\done.length=i/\nums 0 gs=done++nums l (gs.drop i)) ?_ ?_ ?_ ?_
  ·exact⟨[],0,none,rfl,rfl,rfl,rfl⟩
  ·rintro i σ H' _ ⟨done,l,o,_,rfl,_⟩
   exact d4.of (eh J _ _ U)
  ·rintro i x σ H' hx ⟨done,l,o,rfl,rfl,hd,I⟩
   obtain⟨n,hn,rfl⟩:=kx hx
   rw [jX hn] at I
   have aa:=(List.getElem?_eq_some_iff.mp hn).1
   refine⟨_,rfl,.inl ⟨rfl,_,d4.of d7⟩,_,rfl,_,rfl,_,_,rfl,rfl,p,_,_,rfl,rfl,d7,(by rw [fZ];omega),?_⟩
   refine⟨_,rfl,_,rfl,_,_,rfl,rfl,_,_,rfl,rfl,done++[l + n],l + n + 1,_,rfl,?_,by rw [List.length_append,hd];rfl,?_⟩
   ·rw [ke,iw]
    rfl
   ·rw [I,List.append_assoc]
    rfl
  ·rintro σ H' ⟨done,l,o,rfl,rfl,hd,I⟩
   rw [fZ,List.drop_length] at I
   have e:nums 0 gs=done:=by rw [I];exact List.append_nil _
   exact⟨_,rfl,k p _ (eh J) J (by rw [d7,e])⟩
inductive gB (H : Hp) : V -> Pr -> Prop where
 | mk {p t : Addr} {n : Nat} {pl : List Nat} (h : H p = some (.tup [.int (n : Int), .ref t])) (ht : H t = some (.tup (nl pl))) : gB H (.ref p) (n, pl)
theorem gB.same {H H':Hp}{x:V}{r:Pr}(h:gB H x r)(s:d3 H H'):gB H' x r:=by
 cases h with
 | mk h ht=>exact .mk (s _ _ h) (s _ _ ht)
def fj(H:Hp)(a:Addr)(row:List Pr):Prop:=∃ xs,H a=some (.lst xs)/\Paired (gB H) xs row
theorem fj.same {H H':Hp}{a:Addr}{r:List Pr}(h:fj H a r)(s:d3 H H'):fj H' a r:=let ⟨xs,h1,h2⟩:=h;⟨xs,s _ _ h1,Gn.Paired.imp2 h2 fun _ _ q=>q.same s⟩
theorem Ao(A M B:List V):iU (A++(M++B)) (some (A.length:Int)) (some ((A.length + M.length:Nat):Int))=M:=by
 unfold iU
 rw [HT.qu,HT.qu,List.length_append,List.length_append]
 rw [Nat.min_eq_left (by omega),Nat.min_eq_left (by omega),List.drop_left,Nat.add_sub_cancel_left,List.take_left]
theorem ET{α:Type}(A:List α)(x:α)(B:List α):(A++x::B)[A.length]? =some x:=by
 rw [List.getElem?_append_right (Nat.le_refl _),Nat.sub_self]
 rfl
theorem DZ{α:Type}(A:List α)(x y:α)(B:List α):(A++x::y::B)[A.length + 1]? =some y:=by
 rw [List.getElem?_append_right (by omega),Nat.add_sub_cancel_left]
 rfl
theorem yt{ns:List Nat}{i c:Nat}(h:ns[i]? =some c):(nl ns)[i]? =some (.int (c:Int)):=by rw [List.getElem?_map,h];rfl
theorem gB.lst {H H4:Hp}{x:V}{r:Pr}{pR:Addr}{ys zs:List V}(h:gB H x r)(s:d3 H H4)(hR:H pR=some (.lst ys)):gB (upd H4 pR (.lst zs)) x r:=by
 cases h with
 | mk h ht=>
  rename_i p t n pl
  refine .mk (t:=t) ?_ ?_
  ·rw [eC (fun z=>by rw [z,hR] at h;cases h)]
   exact s _ _ h
  ·rw [eC (fun z=>by rw [z,hR] at ht;cases ht)]
   exact s _ _ ht
def yA:Sp:=fun vs H Q _=>∃ n:Nat,vs=[.int (n:Int),.int 0,.non]/\Q (.int (n:Int)) H
seal eK PS PE PT PA PG PI eV eQ in
theorem HI{f fw:Addr}{fd fdw:FuncData}(D:ir K mg "need_number" kS f fd #[.none])(DW:Df K mg "is_whole" km fw fdw)(T:Txt mg):d8 P w K mg base (eP P w) 2 f fd ["thing","least","most"] yA:=by
 have I:d8 P w K mg base eu 1 fw fdw ["thing"] (ny K):=pJ DW T
 have J:=fN (p:="thing") DW.F fun _ _ _ _ _ _ _=>rfl
 refine D.ok1 yG (fun vs H Q E h=>?_) (fun cdv A outer s H vs Q E U h=>?_)
 ·obtain⟨n,rfl,_⟩:=h
  rfl
 ·obtain⟨n,rfl,k⟩:=h
  refine⟨_,d6 (fE (gH (gC (eI I U rfl DW.m DW.F.kp J .nil eM (dY (pv 0) dZ)))) (d9 jF) fB)
   (d6 (fE (eY jm (pv 0) (pv 1) (eZ _)) (d9 jF) fB)
   (d6 (fE (PW.pt (mv (kH (xg (pv 2))) (mz (eY jq (pv 0) (pv 2) (eZ _))))) (d9 jF) fB)
   (d9 (eG (pv 0))))),?_⟩
  refine⟨_,rfl,.int (n:Int),rfl,qv _,_,rfl,eD ?_⟩
  refine⟨_,rfl,_,rfl,_,_,rfl,rfl,_,rfl,?_⟩
  rw [decide_eq_false (by omega)]
  exact eD ⟨_,rfl,_,rfl,eD (eD ⟨_,rfl,k⟩)⟩
def y3:Sp:=fun vs H Q _=>∃ n:Nat,vs=[.int n]/\(gZ n).length<=2000/\∀ p H',d3 H H'->H p=none->H' p=some (.lst (nl (gZ n)))->Q (.ref p) H'
theorem qc:eX ["number","parts","rest"] ["number"] (er pO):=⟨rfl,rfl,rfl,dk,rfl,dk,dk⟩
seal eK PS PE PT PA PG PI eV eQ in
theorem Gm{f:Addr}{fd:FuncData}(D:Df K mg "parts_of_one" pO f fd)(T:Txt mg):d8 P w K mg base eu 1 f fd ["number"] y3:=by
 obtain⟨tm,J⟩:=T.cMore
 refine D.F.ok qc (fun vs H Q E h=>?_) (fun cdv A outer s H vs Q E U h=>?_)
 ·obtain⟨n,rfl,_⟩:=h
  rfl
 ·obtain⟨n,rfl,hn,k⟩:=h
  have hl:(sizeLine:Nat)=16777216:=sizeLine_eq
  refine⟨_,d6 (eE (i:=1) qc.nd rfl (Or.inl rfl) (fJ dZ))
   (d6 (eE (i:=2) qc.nd rfl (Or.inl rfl) (pv 0))
   (d6 (ux PassesOwn.never (eY zL (pv 2) (je (v:= .int 128) rfl J ⟨_,rfl⟩) (eZ _))
    (d6 (gq (gj F.plainAttrs_list F.slot_list_append F.type_list_append gT (pv 1) (dY (ek fQ (je (v:= .int 128) rfl J ⟨_,rfl⟩) (ek fY (pv 2) (je (v:= .int 128) rfl J ⟨_,rfl⟩))) dZ)))
    (d9 (eE (i:=2) qc.nd rfl (Or.inl rfl) (ek g9 (pv 2) (je (v:= .int 128) rfl J ⟨_,rfl⟩))))))
   (d6 (gq (gj F.plainAttrs_list F.slot_list_append F.type_list_append gT (pv 1) (dY (pv 2) dZ)))
   (d9 (eG (pv 1)))))),?_⟩
  refine⟨(by show 0<=sizeLine;decide),fun p hp=>⟨_,rfl,?_⟩⟩
  refine uK (fun σ H'=>∃(r:Nat) (ys:List Nat),σ=[some (.int n),some (.ref p),some (.int r)]/\H'=upd H p (.lst (nl ys))/\gZ n=ys++gZ r) (fun σ _=>match σ with | [_,_,some (.int r)]=>r.toNat | _=>0) ⟨n,[],rfl,rfl,rfl⟩ ?_ ?_
  ·rintro σ H' ⟨r,ys,rfl,rfl,he⟩
   have aa:ys.length<=2000:=by rw [he,List.length_append] at hn;omega
   refine⟨_,rfl,_,_,rfl,rfl,_,rfl,?_⟩
   by_cases U:(128:Int)<=r
   ·rw [decide_eq_true U]
    refine eN ?_
    have I:¬ r < 128:=by omega
    refine⟨_,rfl,.inl ⟨rfl,_,d4.of d7⟩,?_⟩
    refine⟨_,rfl,_,_,rfl,rfl,(by show(0:Int) < 128;decide),_,_,rfl,rfl,p,_,_,rfl,rfl,d7,(by rw [List.length_map];omega),?_⟩
    refine⟨_,rfl,_,_,rfl,rfl,⟨by decide,by decide⟩,?_⟩
    refine⟨⟨r / 128,ys++[128 + r % 128],?_,?_,?_⟩,?_⟩
    ·simp only [List.set]
     have:((r:Int) / 128)=((r / 128:Nat):Int):=by omega
     rw [this]
    ·rw [ke]
     congr 2
     unfold nl
     rw [List.map_append]
     congr 1
    ·rw [he,me I]
     simp
    ·show((r:Int) / 128).toNat < (r:Int).toNat
     omega
   ·rw [decide_eq_false U]
    refine eD ?_
    have I:r < 128:=by omega
    refine⟨_,rfl,.inl ⟨rfl,_,d4.of d7⟩,_,rfl,p,_,_,rfl,rfl,d7,(by rw [List.length_map];omega),?_⟩
    refine⟨_,rfl,k p _ ?_ hp ?_⟩
    ·rw [ke]
     exact eh hp
    ·rw [d7,he,kM I]
     unfold nl
     rw [List.map_append]
     rfl
  ·intro σ H' Q1 Q2 hq h
   obtain⟨x,h1,i,j,e1,e2,h2⟩:=h
   exact⟨x,h1,i,j,e1,e2,let ⟨b,e,z⟩:=h2;⟨b,e,hq _ _ z⟩⟩
def vd(K:W.Frag):Sp:=fun vs H Q _=>∃(a:Addr) (ns:List Nat),vs=[.ref a]/\d4 K H a (nl ns)/\(pk ns).length<=2000/\∀ p H',d3 H H'->H p=none->H' p=some (.lst (nl (pk ns)))->Q (.ref p) H'
theorem rW:eX ["numbers","parts","number"] ["numbers"] (er pd):=⟨rfl,rfl,rfl,dk,rfl,dk,dk⟩
seal eK PS PE PT PA PG PI eV eQ in
theorem D7{f fo fn:Addr}{fd fdo fdn:FuncData}(D:Df K mg "packed" pd f fd)(DO:Df K mg "parts_of_one" pO fo fdo)(GO:d8 P w K mg base eu 1 fo fdo ["number"] y3)
  (DN:ir K mg "need_number" kS fn fdn #[.none])(GN:d8 P w K mg base (eP P w) 2 fn fdn ["thing","least","most"] yA):d8 P w K mg base eu 3 f fd ["numbers"] (vd K):=by
 have bO:=fN (p:="number") DO.F fun _ _ _ _ _ _ _=>rfl
 have aa:=DN.binds (ps:=["thing","least","most"]) (ds:=[.none]) fun T kV doc pm an cdv ct us hl=>match us,(show us.length=2 by simpa using hl) with | [_,_],_=>⟨_,rfl,rfl⟩
 refine D.F.ok rW (fun vs H Q E h=>?_) (fun cdv A outer s H vs Q E hr h=>?_)
 ·obtain⟨a,ns,rfl,_⟩:=h
  rfl
 ·obtain⟨a,ns,rfl,hS,ab,k⟩:=h
  have hl:(sizeLine:Nat)=16777216:=sizeLine_eq
  refine⟨_,d6 (eE (i:=1) rW.nd rfl (Or.inl rfl) (fJ dZ))
   (d6 (fU PassesOwn.never rfl (gu (pv 0)) (eO (i:=2) rW.nd rfl (Or.inl rfl))
    (d9 (gq (gj F.plainAttrs_list F.slot_list_extend F.type_list_extend sZ (pv 1)
     (dY (eI (GO.mono (by decide)) hr rfl DO.m DO.F.kp bO .nil eM (dY (eI GN hr rfl DN.m DN.kp aa (dvs:=[.non]) (.cons rfl .nil) hV (dY (pv 2) (dY d5 dZ))) dZ)) dZ)))))
   (d9 (eG (pv 1)))),?_⟩
  refine⟨(by show 0<=sizeLine;decide),fun p U=>⟨_,rfl,a,rfl,⟨_,(eh U).seq hS⟩,?_⟩⟩
  refine iS (xs:=nl ns) (fun i σ H'=>∃(o:Option V),σ=[some (.ref a),some (.ref p),o]/\d3 H H'/\H' p=some (.lst (nl (pk (ns.take i))))) ?_ ?_ ?_ ?_
  ·exact⟨none,rfl,eh U,d7⟩
  ·rintro i σ H' _ ⟨o,_,I,_⟩
   exact I.seq hS
  ·rintro i x σ H' ae ⟨o,rfl,I,J⟩
   obtain⟨n,hn,rfl⟩:=kx ae
   have e1:pk (ns.take (i + 1))=pk (ns.take i)++gZ n:=by rw [List.take_add_one,hn,qC];exact congrArg _ (yV n)
   have e2:pk ns=pk (ns.take (i + 1))++pk (ns.drop (i + 1)):=by rw [<-qC,List.take_append_drop]
   have hle:(pk (ns.take i)).length + (gZ n).length<=2000:=by
    rw [e2,List.length_append,e1,List.length_append] at ab
    omega
   refine⟨_,rfl,.inl ⟨rfl,_,d4.of J⟩,_,rfl,n,rfl,n,rfl,by omega,fun p2 H2 s2 ag af=>?_⟩
   refine⟨p,p2,_,_,rfl,rfl,s2 _ _ J,af,(by rw [fZ,fZ];omega),_,rfl,fun b u e=>?_,?_⟩
   ·rw [eC (fv e U)]
    exact s2 _ _ (I _ _ e)
   ·rw [d7,e1,iw]
  ·rintro σ H' ⟨o,rfl,I,J⟩
   rw [fZ,List.take_length] at J
   exact⟨_,rfl,k p H' I U J⟩
theorem kE:eX ["numbers","least","number"] ["numbers"] (er mw):=⟨rfl,rfl,rfl,dk,rfl,dk,dk⟩
def qa(K:W.Frag)(S:W.Frag->Hp->Addr->List V->Prop):Sp:=fun vs H Q _=>∃(a:Addr) (ns:List Nat),vs=[.ref a]/\S K H a (nl ns)/\iX 0 ns/\Q (.bl true) H
seal eK PS PE PT PA PG PI eV eQ in
theorem E2{f fw:Addr}{fd fdw:FuncData}(D:Df K mg "is_rising" mw f fd)(DW:Df K mg "is_whole" km fw fdw)(T:Txt mg):d8 P w K mg base eu 2 f fd ["numbers"] (qa K d4):=by
 have U:d8 P w K mg base eu 1 fw fdw ["thing"] (ny K):=pJ DW T
 have bW:=fN (p:="thing") DW.F fun _ _ _ _ _ _ _=>rfl
 refine D.F.ok kE (fun vs H Q E h=>?_) (fun cdv A outer s H vs Q E hr h=>?_)
 ·obtain⟨a,xs,rfl,_⟩:=h
  rfl
 ·obtain⟨a,ns,rfl,J,I,k⟩:=h
  refine⟨_,d6 (eE (i:=1) kE.nd rfl (Or.inl rfl) d5)
   (d6 (fU PassesOwn.never rfl (gu (pv 0)) (eO (i:=2) kE.nd rfl (Or.inl rfl))
    (d6 (fE (PW.pt (gU (gH (gC (eI U hr rfl DW.m DW.F.kp bW .nil eM (dY (pv 2) dZ)))) (ip (eY jm (pv 2) (pv 1) (eZ _))))) (d9 (eG gM)) fB)
    (d9 (eE (i:=1) kE.nd rfl (Or.inl rfl) (ek fQ (pv 2) d5)))))
   (d9 (eG gM))),?_⟩
  refine⟨_,rfl,a,rfl,⟨_,J⟩,?_⟩
  refine iS (xs:=nl ns) (fun i σ H'=>H'=H/\∃(l:Nat) (o:Option V),σ=[some (.ref a),some (.int (l:Int)),o]/\iX l (ns.drop i)) ?_ ?_ ?_ ?_
  ·exact⟨rfl,0,none,rfl,I⟩
  ·rintro i σ H' _ ⟨rfl,_⟩
   exact J
  ·rintro i x σ H' hx ⟨rfl,l,o,rfl,he⟩
   obtain⟨n,hn,rfl⟩:=kx hx
   rw [jX hn] at he
   refine⟨_,rfl,.int (n:Int),rfl,qv _,_,rfl,eD ⟨_,rfl,_,rfl,_,_,rfl,rfl,_,rfl,?_⟩⟩
   have h1:=he.1
   rw [decide_eq_false (by omega)]
   exact eD ⟨_,rfl,_,_,rfl,rfl,rfl,n + 1,_,rfl,he.2⟩
  ·rintro σ H' ⟨rfl,l,o,rfl,he⟩
   exact k
seal eK PS PE PT PA PG PI eV eQ in
theorem Ak{f fw:Addr}{fd fdw:FuncData}(D:Df K mg "is_rising" mw f fd)(DW:Df K mg "is_whole" km fw fdw)(T:Txt mg):d8 P w K mg base eu 2 f fd ["numbers"] (qa K eW):=by
 have U:d8 P w K mg base eu 1 fw fdw ["thing"] (ny K):=pJ DW T
 have bW:=fN (p:="thing") DW.F fun _ _ _ _ _ _ _=>rfl
 refine D.F.ok kE (fun vs H Q E h=>?_) (fun cdv A outer s H vs Q E hr h=>?_)
 ·obtain⟨a,xs,rfl,_⟩:=h
  rfl
 ·obtain⟨a,ns,rfl,J,I,k⟩:=h
  refine⟨_,d6 (eE (i:=1) kE.nd rfl (Or.inl rfl) d5)
   (d6 (fU PassesOwn.never rfl (wK (pv 0)) (eO (i:=2) kE.nd rfl (Or.inl rfl))
    (d6 (fE (PW.pt (gU (gH (gC (eI U hr rfl DW.m DW.F.kp bW .nil eM (dY (pv 2) dZ)))) (ip (eY jm (pv 2) (pv 1) (eZ _))))) (d9 (eG gM)) fB)
    (d9 (eE (i:=1) kE.nd rfl (Or.inl rfl) (ek fQ (pv 2) d5)))))
   (d9 (eG gM))),?_⟩
  refine⟨_,rfl,a,rfl,⟨_,J⟩,?_⟩
  refine yQ (xs:=nl ns) (fun i σ H'=>H'=H/\∃(l:Nat) (o:Option V),σ=[some (.ref a),some (.int (l:Int)),o]/\iX l (ns.drop i)) ?_ ?_ ?_ ?_
  ·exact⟨rfl,0,none,rfl,I⟩
  ·rintro i σ H' _ ⟨rfl,_⟩
   exact J
  ·rintro i x σ H' hx ⟨rfl,l,o,rfl,he⟩
   obtain⟨n,hn,rfl⟩:=kx hx
   rw [jX hn] at he
   refine⟨_,rfl,.int (n:Int),rfl,qv _,_,rfl,eD ⟨_,rfl,_,rfl,_,_,rfl,rfl,_,rfl,?_⟩⟩
   have h1:=he.1
   rw [decide_eq_false (by omega)]
   exact eD ⟨_,rfl,_,_,rfl,rfl,rfl,n + 1,_,rfl,he.2⟩
  ·rintro σ H' ⟨rfl,l,o,rfl,he⟩
   exact k
def xj:Sp:=fun vs H Q _=>∃(x:V) (r:Pr),vs=[x]/\gB H x r/\r.2≠[]/\iX 0 r.2/\Q (.bl true) H
theorem vO:eX ["thing","places"] ["thing"] (er oN):=⟨rfl,rfl,rfl,dk,rfl,dk,dk⟩
seal eK PS PE PT PA PG PI eV eQ in
theorem Fd{f fr:Addr}{fd fdr:FuncData}(D:Df K mg "has_places" oN f fd)(DR:Df K mg "is_rising" mw fr fdr)(GR:d8 P w K mg base eu 2 fr fdr ["numbers"] (qa K eW))(T:Txt mg):d8 P w K mg base eu 3 f fd ["thing"] xj:=by
 have J:=fN (p:="numbers") DR.F fun _ _ _ _ _ _ _=>rfl
 refine D.F.ok vO (fun vs H Q E h=>?_) (fun cdv A outer s H vs Q E U h=>?_)
 ·obtain⟨x,b,rfl,_⟩:=h
  rfl
 ·obtain⟨x,r,rfl,hp,h0,I,k⟩:=h
  refine⟨_,d6 (fE (PW.pt (gU (gH (gC (fG jJ rfl T.isi jH (dY (pv 0) (dY (jE (v:= .ty "tuple") rfl T.tuple nJ rfl) dZ)))))
    (ip (eY jv (fG gQ rfl T.len gf (dY (pv 0) dZ)) d5 (eZ _))))) (d9 (eG gM)) fB)
   (d6 (eE (i:=1) vO.nd rfl (Or.inl rfl) (fb iu (pv 0) d5 (fun _ _=>rfl)))
   (d9 (eG (ql (fG jJ rfl T.isi jH (dY (pv 1) (dY (jE (v:= .ty "tuple") rfl T.tuple nJ rfl) dZ)))
    (ql (pP jq (fG gQ rfl T.len gf (dY (pv 1) dZ)) d5 (eZ _)) (qb (eI GR U rfl DR.m DR.F.kp J .nil eM (dY (pv 1) dZ)))))))),?_⟩
  cases hp with
  | mk h ht=>
   rename_i p t n pl
   refine⟨_,rfl,.ref p,.ty "tuple",_,_,rfl,.tup h,.inl ⟨_,rfl,qr⟩,_,rfl,eD ?_⟩
   refine⟨_,rfl,p,_,rfl,.inr (eW.of h),rfl,_,rfl,eD ?_⟩
   refine⟨_,rfl,p,_,_,_,rfl,rfl,eW.of h,fC (j:=1) rfl,?_⟩
   refine⟨_,rfl,.ref t,.ty "tuple",_,_,rfl,.tup ht,.inl ⟨_,rfl,qr⟩,_,rfl,eN ?_⟩
   refine⟨_,rfl,t,_,rfl,.inr (eW.of ht),_,_,rfl,rfl,_,rfl,?_⟩
   have h1:0 < (nl pl).length:=by rw [fZ];exact List.length_pos_iff.mpr h0
   rw [decide_eq_true (show(0:Int) < (((nl pl).length:Nat):Int) by omega)]
   exact eN ⟨_,rfl,t,pl,rfl,eW.of ht,I,k⟩
def yH:Sp:=fun vs H Q _=>∃(a:Addr) (row:List Pr),vs=[.ref a]/\fj H a row/\iJ 0 row/\row.length<=2000/\∀ H',d3 H H'->Q (.ref a) H'
theorem As:eX ["thing"] ["thing"] (er mr):=⟨rfl,rfl,rfl,dk,rfl,dk,dk⟩
theorem Dr:(["pair"]:List Str).Nodup:=dk
theorem qx:(["number","places"]:List Str).Nodup:=dk
seal eK PS PE PT PA PG PI eV eQ in
theorem Bg{f fr fh:Addr}{fd fdr fdh:FuncData}(D:Df K mg "need_row" mr f fd)(DR:Df K mg "is_rising" mw fr fdr)(GR:d8 P w K mg base eu 2 fr fdr ["numbers"] (qa K d4))
  (DH:Df K mg "has_places" oN fh fdh)(GH:d8 P w K mg base eu 3 fh fdh ["thing"] xj)(T:Txt mg):d8 P w K mg base eu 4 f fd ["thing"] yH:=by
 have bR:=fN (p:="numbers") DR.F fun _ _ _ _ _ _ _=>rfl
 have bH:=fN (p:="thing") DH.F fun _ _ _ _ _ _ _=>rfl
 refine D.F.ok As (fun vs H Q E h=>?_) (fun cdv A outer s H vs Q E hr h=>?_)
 ·obtain⟨a,row,rfl,_⟩:=h
  rfl
 ·obtain⟨a,row,rfl,⟨xs,U,hp⟩,ho,hlen,k⟩:=h
  have hl:(sizeLine:Nat)=16777216:=sizeLine_eq
  have ab:=Gn.Paired.len hp
  refine⟨_,d6 (fE (gH (gC (fG jJ rfl T.isi jH (dY (pv 0) (dY (jE (v:= .ty "list") rfl T.list j7 rfl) dZ))))) (d9 jF) fB)
   (d6 (fE (gH (gC (fG (uS rfl) rfl T.all sQ (dY (ik (own:=1) (caps:=[]) (N:=["pair"]) (N0:=["thing"]) (sc0:=er mr) rfl (gu (pv 0))
    (fun _ _ _=>eO (i:=0) Dr rfl (Or.inl rfl)) (fun _ _ _=>iG) (fun _ _ _=>eI (GH.mono (by decide)) hr rfl DH.m DH.F.kp bH .nil eM (dY (pv 0) dZ)) (gD (by decide)) rfl rfl
    dk rfl dk dk rfl dk) dZ)))) (d9 jF) fB)
   (d6 (fE (gH (gC (eI (GR.mono (by decide)) hr rfl DR.m DR.F.kp bR .nil eM (dY (ik (own:=2) (caps:=[]) (N:=["number","places"]) (N0:=["thing"]) (sc0:=er mr) rfl (gu (pv 0))
    (fun _ _ _=>iz (n:=2) rfl (gh (eO (i:=0) qx rfl (Or.inl rfl)) (gh (eO (i:=1) qx rfl (Or.inl rfl)) iC))) (fun _ _ _=>iG) (fun _ _ _=>pv 0) (oV (jD (gD (by decide)) (jD (gD (by decide)) pD))) rfl rfl
    dk rfl dk dk rfl dk) dZ)))) (d9 jF) fB)
   (d9 (eG (pv 0))))),?_⟩
  refine⟨_,rfl,.ref a,.ty "list",_,_,rfl,.lst U,.inl ⟨_,rfl,t8⟩,_,rfl,eD ?_⟩
  refine⟨_,rfl,a,rfl,⟨_,d4.of U⟩,iL (xs:=xs) (fun i ys H'=>H'=H/\ys=(List.replicate i true).map V.bl) (by omega) (fun i ys H' q=>by rw [q.1];exact d4.of U) ⟨rfl,rfl⟩ ?_ ?_⟩
  ·rintro i v ys H' N hv ⟨rfl,rfl⟩ hN
   obtain⟨r,I,J⟩:=gK hp hv
   have hm:=ho.p r (List.mem_of_getElem? I)
   refine g1 ?_
   exact⟨_,rfl,v,r,rfl,J,hm.1,hm.2,hN _ _ ⟨rfl,by rw [List.replicate_succ',List.map_append];rfl⟩⟩
  ·rintro ys H' ⟨rfl,rfl⟩ _ q hq
   refine⟨q,List.replicate xs.length true,rfl,d4.of d7,?_⟩
   rw [Fv]
   refine⟨_,rfl,eD ?_⟩
   have s1:d3 H' (upd H' q (.lst ((List.replicate xs.length true).map V.bl))):=eh hq
   generalize upd H' q (.lst ((List.replicate xs.length true).map V.bl))=H1 at s1 ⊢
   refine⟨_,rfl,a,rfl,⟨_,d4.of (s1 _ _ U)⟩,iL (xs:=xs) (fun i ys H2=>H2=H1/\ys=(nl (row.map (·.1))).take i) (by omega) (fun i ys H2 q=>by rw [q.1];exact d4.of (s1 _ _ U)) ⟨rfl,rfl⟩ ?_ ?_⟩
   ·rintro i v ys H2 N hv ⟨rfl,rfl⟩ hN
    obtain⟨r,I,J⟩:=gK hp hv
    cases J with
    | mk h ht=>
     refine⟨_,_,rfl,eW.of (s1 _ _ h),rfl,_,_,rfl,_,_,rfl,rfl,qQ ?_⟩
     refine⟨_,rfl,hN _ _ ⟨rfl,?_⟩⟩
     rw [List.take_add_one,List.getElem?_map,List.getElem?_map,I]
     rfl
   ·rintro ys H2 ⟨rfl,rfl⟩ _ q2 aa
    have ae:(nl (row.map (·.1))).length=row.length:=by rw [fZ,List.length_map]
    rw [List.take_of_length_le (by omega)]
    exact⟨q2,row.map (·.1),rfl,d4.of d7,ho.n,_,rfl,eD ⟨_,rfl,k _ (d3.upd s1 aa)⟩⟩
def rA(K:W.Frag)(S:W.Frag->Hp->Addr->List V->Prop):Sp:=fun vs H Q _=>∃(a:Addr) (ns:List Nat),vs=[.ref a]/\S K H a (nl ns)/\iX 0 ns/\ns.length<=2000/\∀ p H',d3 H H'->H p=none->H' p=some (.lst (nl (gw 0 ns)))->Q (.ref p) H'
theorem jV:eX ["numbers","gaps","least","number"] ["numbers"] (er mJ):=⟨rfl,rfl,rfl,dk,rfl,dk,dk⟩
seal eK PS PE PT PA PG PI eV eQ in
theorem DY{f:Addr}{fd:FuncData}(D:Df K mg "gaps_of" mJ f fd):d8 P w K mg base eu 1 f fd ["numbers"] (rA K d4):=by
 refine D.F.ok jV (fun vs H Q E h=>?_) (fun cdv A outer s H vs Q E hr h=>?_)
 ·obtain⟨a,ns,rfl,_⟩:=h
  rfl
 ·obtain⟨a,ns,rfl,hS,I,hlen,k⟩:=h
  have hl:(sizeLine:Nat)=16777216:=sizeLine_eq
  refine⟨_,d6 (eE (i:=1) jV.nd rfl (Or.inl rfl) (fJ dZ))
   (d6 (eE (i:=2) jV.nd rfl (Or.inl rfl) d5)
   (d6 (fU PassesOwn.never rfl (gu (pv 0)) (eO (i:=3) jV.nd rfl (Or.inl rfl))
    (d6 (gq (gj F.plainAttrs_list F.slot_list_append F.type_list_append gT (pv 1) (dY (ek jc (pv 3) (pv 2)) dZ)))
    (d9 (eE (i:=2) jV.nd rfl (Or.inl rfl) (ek fQ (pv 3) d5)))))
   (d9 (eG (pv 1))))),?_⟩
  refine⟨(by show 0<=sizeLine;decide),fun p U=>⟨_,rfl,a,rfl,⟨_,(eh U).seq hS⟩,?_⟩⟩
  refine iS (xs:=nl ns) (fun i σ H'=>∃(done:List Nat) (l:Nat) (o:Option V),σ=[some (.ref a),some (.ref p),some (.int l),o]/\H'=upd H p (.lst (nl done))/\done.length=i/\Gp ns done l (ns.drop i)) ?_ ?_ ?_ ?_
  ·exact⟨[],0,none,rfl,rfl,rfl,rfl,I⟩
  ·rintro i σ H' _ ⟨done,l,o,_,rfl,_⟩
   exact(eh U).seq hS
  ·rintro i x σ H' hx ⟨done,l,o,rfl,rfl,hd,J⟩
   obtain⟨n,hn,rfl⟩:=kx hx
   rw [jX hn] at J
   obtain⟨hle,aa⟩:=J.step
   have ab:=(List.getElem?_eq_some_iff.mp hn).1
   refine⟨_,rfl,.inl ⟨rfl,_,d4.of d7⟩,_,rfl,_,rfl,_,_,rfl,rfl,p,_,_,rfl,rfl,d7,(by rw [fZ];omega),?_⟩
   have e:((n:Int) - (l:Int))=((n - l:Nat):Int):=by omega
   refine⟨_,rfl,_,_,rfl,rfl,done++[n - l],n + 1,_,rfl,?_,by rw [List.length_append,hd];rfl,aa⟩
   rw [ke,iw]
   exact congrArg (fun z=>upd H p (.lst (nl done++[V.int z]))) e
  ·rintro σ H' ⟨done,l,o,rfl,rfl,hd,J⟩
   rw [fZ,List.drop_length] at J
   have e:gw 0 ns=done:=by rw [J.1];exact List.append_nil _
   exact⟨_,rfl,k p _ (eh U) U (by rw [d7,e])⟩
seal eK PS PE PT PA PG PI eV eQ in
theorem C4{f:Addr}{fd:FuncData}(D:Df K mg "gaps_of" mJ f fd):d8 P w K mg base eu 1 f fd ["numbers"] (rA K fun _ H a xs=>H a=some (.tup xs)):=by
 refine D.F.ok jV (fun vs H Q E h=>?_) (fun cdv A outer s H vs Q E hr h=>?_)
 ·obtain⟨a,ns,rfl,_⟩:=h
  rfl
 ·obtain⟨a,ns,rfl,hS,I,hlen,k⟩:=h
  have hl:(sizeLine:Nat)=16777216:=sizeLine_eq
  refine⟨_,d6 (eE (i:=1) jV.nd rfl (Or.inl rfl) (fJ dZ))
   (d6 (eE (i:=2) jV.nd rfl (Or.inl rfl) d5)
   (d6 (fU PassesOwn.never rfl (wK (pv 0)) (eO (i:=3) jV.nd rfl (Or.inl rfl))
    (d6 (gq (gj F.plainAttrs_list F.slot_list_append F.type_list_append gT (pv 1) (dY (ek jc (pv 3) (pv 2)) dZ)))
    (d9 (eE (i:=2) jV.nd rfl (Or.inl rfl) (ek fQ (pv 3) d5)))))
   (d9 (eG (pv 1))))),?_⟩
  refine⟨(by show 0<=sizeLine;decide),fun p U=>⟨_,rfl,a,rfl,⟨_,eW.of (eh U _ _ hS)⟩,?_⟩⟩
  refine yQ (xs:=nl ns) (fun i σ H'=>∃(done:List Nat) (l:Nat) (o:Option V),σ=[some (.ref a),some (.ref p),some (.int l),o]/\H'=upd H p (.lst (nl done))/\done.length=i/\Gp ns done l (ns.drop i)) ?_ ?_ ?_ ?_
  ·exact⟨[],0,none,rfl,rfl,rfl,rfl,I⟩
  ·rintro i σ H' _ ⟨done,l,o,_,rfl,_⟩
   exact eW.of (eh U _ _ hS)
  ·rintro i x σ H' hx ⟨done,l,o,rfl,rfl,hd,J⟩
   obtain⟨n,hn,rfl⟩:=kx hx
   rw [jX hn] at J
   obtain⟨hle,aa⟩:=J.step
   have ab:=(List.getElem?_eq_some_iff.mp hn).1
   refine⟨_,rfl,.inl ⟨rfl,_,d4.of d7⟩,_,rfl,_,rfl,_,_,rfl,rfl,p,_,_,rfl,rfl,d7,(by rw [fZ];omega),?_⟩
   have e:((n:Int) - (l:Int))=((n - l:Nat):Int):=by omega
   refine⟨_,rfl,_,_,rfl,rfl,done++[n - l],n + 1,_,rfl,?_,by rw [List.length_append,hd];rfl,aa⟩
   rw [ke,iw]
   exact congrArg (fun z=>upd H p (.lst (nl done++[V.int z]))) e
  ·rintro σ H' ⟨done,l,o,rfl,rfl,hd,J⟩
   rw [fZ,List.drop_length] at J
   have e:gw 0 ns=done:=by rw [J.1];exact List.append_nil _
   exact⟨_,rfl,k p _ (eh U) U (by rw [d7,e])⟩
structure Sz (row : List Pr) : Prop where
 l : row.length <= 2000
 r : (rn 0 row).length <= 2000
 p : (pk (rn 0 row)).length <= 2000
def yb:Sp:=fun vs H Q _=>∃(a:Addr) (row:List Pr),vs=[.ref a]/\fj H a row/\iJ 0 row/\Sz row/\∀ p H',d3 H H'->H p=none->H' p=some (.lst (nl (pk (rn 0 row))))->Q (.ref p) H'
theorem nV:eX ["row","gaps","told","at","pair","places"] ["row"] (er nH):=⟨rfl,rfl,rfl,dk,rfl,dk,dk⟩
structure Rp (row : List Pr) (gs done : List Nat) (l i : Nat) : Prop where
 r : rn 0 row = done ++ rn l (row.drop i)
 g : gs.drop i = gw l ((row.drop i).map (·.1))
 o : iJ l (row.drop i)
theorem Rp.step {row:List Pr}{gs done:List Nat}{l i n:Nat}{pl:List Nat}(h:Rp row gs done l i)(hx:row[i]? =some (n,pl)):
  gs[i]? =some (n - l)/\pl≠[]/\iX 0 pl/\Rp row gs (done++[n - l,pl.length - 1]++gw 0 pl) (n + 1) (i + 1):=by
 obtain⟨U,hg,J⟩:=h
 rw [jX hx] at U hg J
 have I:gs.drop i=(n - l)::gw (n + 1) ((row.drop (i + 1)).map (·.1)):=hg
 have h1:gs[i]? =some (n - l):=by
  have:=congrArg (fun z=>z[0]?) I
  simpa using this
 refine⟨h1,J.head.2.1,J.head.2.2,?_,?_,J.tail⟩
 ·rw [U]
  show done++(n - l)::(pl.length - 1)::(gw 0 pl++rn (n + 1) (row.drop (i + 1)))=_
  simp [List.append_assoc]
 ·have:=jX h1
  rw [this] at I
  exact(List.cons.inj I).2
seal eK PS PE PT PA PG PI eV eQ in
theorem Dw{f fn fg fp:Addr}{fd fdn fdg fdp:FuncData}(D:Df K mg "packed_row" nH f fd)(DN:Df K mg "need_row" mr fn fdn)(GN:d8 P w K mg base eu 4 fn fdn ["thing"] yH)
  (DG:Df K mg "gaps_of" mJ fg fdg)(DP:Df K mg "packed" pd fp fdp)(GP:d8 P w K mg base eu 3 fp fdp ["numbers"] (vd K))(T:Txt mg):d8 P w K mg base eu 5 f fd ["row"] yb:=by
 have GL:d8 P w K mg base eu 1 fg fdg ["numbers"] (rA K d4):=DY DG
 have GT:d8 P w K mg base eu 1 fg fdg ["numbers"] (rA K fun _ H a xs=>H a=some (.tup xs)):=C4 DG
 have bN:=fN (p:="thing") DN.F fun _ _ _ _ _ _ _=>rfl
 have bG:=fN (p:="numbers") DG.F fun _ _ _ _ _ _ _=>rfl
 have bP:=fN (p:="numbers") DP.F fun _ _ _ _ _ _ _=>rfl
 refine D.F.ok nV (fun vs H Q E h=>?_) (fun cdv A outer s H vs Q E hr h=>?_)
 ·obtain⟨a,row,rfl,_⟩:=h
  rfl
 ·obtain⟨a,row,rfl,hR,ho,hs,k⟩:=h
  have hl:(sizeLine:Nat)=16777216:=sizeLine_eq
  refine⟨_,d6 (eE (i:=1) nV.nd rfl (Or.inl rfl) (eI (GL.mono (by decide)) hr rfl DG.m DG.F.kp bG .nil eM (dY (ik (own:=2) (caps:=[]) (N:=["number","places"]) (N0:=["row","gaps","told","at","pair","places"]) (sc0:=er nH) rfl (gu (eI GN hr rfl DN.m DN.F.kp bN .nil eM (dY (pv 0) dZ)))
    (fun _ _ _=>iz (n:=2) rfl (gh (eO (i:=0) qx rfl (Or.inl rfl)) (gh (eO (i:=1) qx rfl (Or.inl rfl)) iC))) (fun _ _ _=>iG) (fun _ _ _=>pv 0) (oV (jD (gD (by decide)) (jD (gD (by decide)) pD))) rfl rfl
    dk rfl dk dk rfl dk) dZ)))
   (d6 (eE (i:=2) nV.nd rfl (Or.inl rfl) (fJ dZ))
   (d6 (fU PassesOwn.never rfl (kd rfl T.enum (dY (pv 0) dZ)) (iz (n:=2) rfl (gh (eO (i:=3) nV.nd rfl (Or.inl rfl)) (gh (eO (i:=4) nV.nd rfl (Or.inl rfl)) iC)))
    (d6 (eE (i:=5) nV.nd rfl (Or.inl rfl) (fb iu (pv 4) d5 (fun _ _=>rfl)))
    (d6 (gq (gj F.plainAttrs_list F.slot_list_extend F.type_list_extend sZ (pv 2) (dY (fJ (dY (fb fS (pv 1) (pv 3) (fun _ _=>rfl)) (dY (ek jc (fG gQ rfl T.len gf (dY (pv 5) dZ)) d5) dZ))) dZ)))
    (d9 (gq (gj F.plainAttrs_list F.slot_list_extend F.type_list_extend sZ (pv 2) (dY (eI (GT.mono (by decide)) hr rfl DG.m DG.F.kp bG .nil eM (dY (pv 5) dZ)) dZ)))))))
   (d9 (eG (eI (GP.mono (by decide)) hr rfl DP.m DP.F.kp bP .nil eM (dY (pv 2) dZ)))))),?_⟩
  refine⟨_,rfl,?_⟩
  refine⟨a,row,rfl,hR,ho,hs.l,fun H1 s1=>?_⟩
  obtain⟨xs,hA,hp⟩:=hR.same s1
  have aq:=Gn.Paired.len hp
  have aA:=hs.l
  refine⟨a,rfl,⟨_,d4.of hA⟩,iL (xs:=xs) (fun i ys H'=>H'=H1/\ys=(nl (row.map (·.1))).take i) (by omega) (fun i ys H' q=>by rw [q.1];exact d4.of hA) ⟨rfl,rfl⟩ ?_ ?_⟩
  ·rintro i v ys H' N hv ⟨rfl,rfl⟩ hN
   obtain⟨r,ar,ab⟩:=gK hp hv
   cases ab with
   | mk h ht=>
    refine⟨_,_,rfl,eW.of h,rfl,_,_,rfl,_,_,rfl,rfl,qQ ?_⟩
    refine⟨_,rfl,hN _ _ ⟨rfl,?_⟩⟩
    rw [List.take_add_one,List.getElem?_map,List.getElem?_map,ar]
    rfl
  ·rintro ys H' ⟨rfl,rfl⟩ _ q hq
   have aB:(nl (row.map (·.1))).length=row.length:=by rw [fZ,List.length_map]
   rw [List.take_of_length_le (by omega)]
   refine⟨q,row.map (·.1),rfl,d4.of d7,ho.n,by rw [List.length_map];omega,fun pG H2 s2 aC hG=>?_⟩
   have ae:d3 H' H2:=(eh hq).trans s2
   replace hA:=ae _ _ hA
   replace hp:=Gn.Paired.imp2 hp fun _ _ q=>gB.same q ae
   refine⟨(by show 0<=sizeLine;decide),fun I U=>?_⟩
   have au:=eh (o:= .lst []) U _ _ hA
   refine⟨_,rfl,a,xs,rfl,au,?_⟩
   refine kN (xs:=xs) (fun i σ H'=>∃(done:List Nat) (l:Nat) (o3 o4 o5:Option V),σ=[some (.ref a),some (.ref pG),some (.ref I),o3,o4,o5]/\d3 H2 H'/\H' I=some (.lst (nl done))/\Rp row (gw 0 (row.map (·.1))) done l i) ?_ ?_ ?_ ?_
   ·exact⟨[],0,none,none,none,rfl,eh U,d7,rfl,rfl,ho⟩
   ·rintro i σ H3 _ ⟨_,_,_,_,_,_,J,_⟩
    exact J _ _ hA
   ·rintro i x σ H3 T hx ⟨done,l,o3,o4,o5,rfl,J,hT,af⟩ av
    obtain⟨r,aw,ab⟩:=gK hp hx
    cases ab with
    | mk h ht=>
     rename_i p t n pl
     obtain⟨ax,ah,ai,aa⟩:=af.step aw
     have aj:(done++[n - l,pl.length - 1]++gw 0 pl).length<=2000:=by
      have h1:=hs.r
      rw [aa.r,List.length_append] at h1
      omega
     rw [List.length_append,List.length_append,ku] at aj
     have az:done.length + 2 + pl.length<=2000:=aj
     have sT:d3 H3 (upd H3 T (.tup [.int i,.ref p])):=eh av
     refine⟨T,_,rfl,eW.of d7,rfl,_,_,rfl,_,_,rfl,rfl,?_⟩
     generalize upd H3 T (.tup [.int i,.ref p])=H4 at sT ⊢
     replace J:=J.trans sT
     replace hT:=sT _ _ hT
     refine⟨_,rfl,p,_,_,_,rfl,rfl,eW.of (J _ _ h),fC (j:=1) rfl,?_⟩
     refine⟨_,rfl,.inl ⟨rfl,_,d4.of hT⟩,?_⟩
     refine⟨_,rfl,_,rfl,pG,_,_,.int ((n - l:Nat):Int),rfl,rfl,d4.of (J _ _ hG),fC (by rw [List.getElem?_map,ax];rfl),?_⟩
     refine⟨_,rfl,t,_,rfl,.inr (eW.of (J _ _ ht)),_,_,rfl,rfl,(by show 2<=sizeLine;decide),fun z hz=>?_⟩
     have sz:=eh (o:= .lst [.int ((n - l:Nat):Int),.int (((nl pl).length:Nat) - 1)]) hz
     refine⟨I,z,_,_,rfl,rfl,sz _ _ hT,d7,(by rw [fZ];show _ + 2<=sizeLine;omega),?_⟩
     have aD:0 < pl.length:=List.length_pos_iff.mpr ah
     have e1:nl done++[V.int ((n - l:Nat):Int),V.int (((nl pl).length:Nat) - 1)]=nl (done++[n - l,pl.length - 1]):=by
      rw [iw]
      have:((((nl pl).length:Nat):Int) - 1)=((pl.length - 1:Nat):Int):=by rw [fZ];omega
      rw [this]
      rfl
     have aE:I≠z:=fv hT hz
     have s5:d3 H2 (upd (upd H4 z (.lst [.int ((n - l:Nat):Int),.int (((nl pl).length:Nat) - 1)])) I (.lst (nl (done++[n - l,pl.length - 1])))):=fun b u e=>by
      rw [eC (fv e U)]
      exact sz _ _ (J _ _ e)
     rw [e1]
     have ag:(upd (upd H4 z (.lst [.int ((n - l:Nat):Int),.int (((nl pl).length:Nat) - 1)])) I (.lst (nl (done++[n - l,pl.length - 1])))) I=some (.lst (nl (done++[n - l,pl.length - 1]))):=d7
     generalize upd (upd H4 z (.lst [.int ((n - l:Nat):Int),.int (((nl pl).length:Nat) - 1)])) I (.lst (nl (done++[n - l,pl.length - 1])))=H5 at s5 ag ⊢
     refine⟨_,rfl,.inl ⟨rfl,_,d4.of ag⟩,?_⟩
     refine⟨_,rfl,t,pl,rfl,s5 _ _ ht,ai,by omega,fun pg H6 s6 aF hg=>?_⟩
     refine⟨I,pg,_,_,rfl,rfl,s6 _ _ ag,hg,(by rw [fZ,fZ,ku,List.length_append];show _ + 2 + _<=sizeLine;omega),?_⟩
     refine⟨_,n + 1,_,_,_,rfl,fun b u e=>?_,?_,aa⟩
     ·rw [eC (fv e U)]
      exact s6 _ _ (s5 _ _ e)
     ·rw [d7,<-iw]
   ·rintro σ H3 ⟨done,l,o3,o4,o5,rfl,J,hT,af⟩
    have ak:=af.r
    rw [aq,List.drop_length] at ak
    have hd:rn 0 row=done:=by rw [ak];exact List.append_nil _
    subst hd
    have ao:=(s1.trans ae).trans J
    exact⟨_,rfl,I,rn 0 row,rfl,d4.of hT,hs.p,fun p H4 s4 ay hP=>k p H4 (ao.trans s4) (ao.free ay) hP⟩
def sL:Sp:=fun vs H Q _=>∃(a:Addr) (row:List Pr),vs=[.ref a]/\H a=some (.lst (nl (pk (rn 0 row))))/\iJ 0 row/\Sz row/\∀ p H',d3 H H'->H p=none->fj H' p row->Q (.ref p) H'
theorem ky:eX ["parts","told","row","least","begin","end","number"] ["parts"] (er nh):=⟨rfl,rfl,rfl,dk,rfl,dk,dk⟩
seal eK PS PE PT PA PG PI eV eQ in
theorem BY{f fu fn:Addr}{fd fdu fdn:FuncData}(D:Df K mg "unpacked_row" nh f fd)(DU:Df K mg "unpacked" ou fu fdu)(GU:d8 P w K mg base eu 3 fu fdu ["parts"] zr)
  (DN:Df K mg "numbers_by" oT fn fdn)(T:Txt mg):d8 P w K mg base eu 4 f fd ["parts"] sL:=by
 have GN:d8 P w K mg base eu 1 fn fdn ["gaps"] xo:=Hx DN
 have bU:=fN (p:="parts") DU.F fun _ _ _ _ _ _ _=>rfl
 have bN:=fN (p:="gaps") DN.F fun _ _ _ _ _ _ _=>rfl
 refine D.F.ok ky (fun vs H Q E h=>?_) (fun cdv A outer s H vs Q E hr h=>?_)
 ·obtain⟨a,row,rfl,_⟩:=h
  rfl
 ·obtain⟨a,row,rfl,hA,ho,hs,k⟩:=h
  have hl:(sizeLine:Nat)=16777216:=sizeLine_eq
  refine⟨_,d6 (eE (i:=1) ky.nd rfl (Or.inl rfl) (eI GU hr rfl DU.m DU.F.kp bU .nil eM (dY (pv 0) dZ)))
   (d6 (eE (i:=2) ky.nd rfl (Or.inl rfl) (fJ dZ))
   (d6 (eE (i:=3) ky.nd rfl (Or.inl rfl) d5)
   (d6 (eE (i:=4) ky.nd rfl (Or.inl rfl) d5)
   (d6 (ux PassesOwn.never (eY jm (pv 4) (fG gQ rfl T.len gf (dY (pv 1) dZ)) (eZ _))
    (d6 (fE (PW.pt (gU (eY jq (ek fQ (pv 4) d5) (fG gQ rfl T.len gf (dY (pv 1) dZ)) (eZ _))
     (ip (eY jq (ek fQ (ek fQ (pv 4) d5) (fb fS (pv 1) (ek fQ (pv 4) d5) (fun _ _=>rfl))) (fG gQ rfl T.len gf (dY (pv 1) dZ)) (eZ _))))) (d9 jF) fB)
    (d6 (eE (i:=5) ky.nd rfl (Or.inl rfl) (ek fQ (ek fQ (pv 4) d5) (fb fS (pv 1) (ek fQ (pv 4) d5) (fun _ _=>rfl))))
    (d6 (eE (i:=6) ky.nd rfl (Or.inl rfl) (ek fQ (pv 3) (fb fS (pv 1) (pv 4) (fun _ _=>rfl))))
    (d6 (gq (gj F.plainAttrs_list F.slot_list_append F.type_list_append gT (pv 2) (dY (g8 (dY (pv 6) (dY (jA tN rfl T.tuple nJ (dY (eI (GN.mono (by decide)) hr rfl DN.m DN.F.kp bN .nil eM (dY (g7 kB (pv 1) (gR (ek fQ (pv 4) d5)) (gR (pv 5))) dZ)) dZ)) dZ))) dZ)))
    (d6 (eE (i:=3) ky.nd rfl (Or.inl rfl) (ek fQ (pv 6) d5))
    (d9 (eE (i:=4) ky.nd rfl (Or.inl rfl) (pv 5)))))))))
   (d9 (eG (pv 2))))))),?_⟩
  have av:=hs.r
  have au:=hs.l
  refine⟨_,rfl,a,rn 0 row,rfl,hA,by omega,fun pU H1 s1 aw U=>?_⟩
  refine⟨(by show 0<=sizeLine;decide),fun pR ae=>?_⟩
  refine uK (fun σ H'=>∃(pre:List Nat) (l:Nat) (done rest:List Pr) (o5 o6:Option V) (ys:List V),σ=[some (.ref a),some (.ref pU),some (.ref pR),some (.int (l:Int)),some (.int (pre.length:Int)),o5,o6]/\rn 0 row=pre++rn l rest/\row=done++rest/\iJ l rest/\d3 H1 H'/\H' pR=some (.lst ys)/\Paired (gB H') ys done)
   (fun σ _=>match σ with | [_,_,_,_,some (.int b),_,_]=>(3000 - b).toNat | _=>0) ⟨[],0,[],row,none,none,[],rfl,rfl,rfl,ho,eh ae,d7,.nil⟩ ?_ ?_
  ·rintro σ H' ⟨pre,l,done,rest,o5,o6,ys,rfl,ag,J,hok,sm,hR,af⟩
   refine⟨_,rfl,_,rfl,pU,_,rfl,.inl (d4.of (sm _ _ U)),_,_,rfl,rfl,_,rfl,?_⟩
   cases rest with
   | nil=>
    have e:rn 0 row=pre:=by rw [ag];exact List.append_nil _
    have ed:row=done:=by rw [J,List.append_nil]
    rw [decide_eq_false (by rw [fZ,e];omega)]
    refine eD ⟨_,rfl,k pR H' (s1.trans sm) (s1.free ae) ⟨ys,hR,?_⟩⟩
    rw [ed]
    exact af
   | cons x rest=>
    obtain⟨n,pl⟩:=x
    obtain⟨ax,ah,ai⟩:=hok.head
    have ay:0 < pl.length:=List.length_pos_iff.mpr ah
    have I:rn 0 row=pre++(n - l)::(pl.length - 1)::(gw 0 pl++rn (n + 1) rest):=ag
    have az:(rn 0 row).length=pre.length + (pl.length + (rn (n + 1) rest).length + 1 + 1):=by
     rw [I,List.length_append,List.length_cons,List.length_cons,List.length_append,ku]
    have aA:done.length<=2000:=by
     have:=congrArg List.length J
     rw [List.length_append] at this
     omega
    have aB:=Gn.Paired.len af
    have a0:(nl (rn 0 row))[pre.length]? =some (.int ((n - l:Nat):Int)):=yt (by rw [I];exact ET _ _ _)
    have a1:(nl (rn 0 row))[pre.length + 1]? =some (.int ((pl.length - 1:Nat):Int)):=yt (by rw [I];exact DZ _ _ _ _)
    rw [decide_eq_true (by rw [fZ];omega)]
    refine eN ?_
    replace U:=sm _ _ U
    refine⟨_,rfl,_,_,rfl,rfl,_,rfl,pU,_,rfl,.inl (d4.of U),_,_,rfl,rfl,_,rfl,?_⟩
    rw [decide_eq_false (by rw [fZ];omega)]
    refine eD ?_
    refine⟨_,rfl,_,_,rfl,rfl,_,rfl,_,rfl,_,_,rfl,rfl,pU,_,_,_,rfl,rfl,d4.of U,fC (j:=pre.length + 1) a1,_,_,rfl,rfl,_,rfl,pU,_,rfl,.inl (d4.of U),_,_,rfl,rfl,_,rfl,?_⟩
    rw [decide_eq_false (by rw [fZ];omega)]
    refine eD ?_
    have en:((l:Int) + ((n - l:Nat):Int))=(n:Int):=by omega
    have ee:((pre.length:Int) + 3 + ((pl.length - 1:Nat):Int))=((pre.length + 2 + pl.length:Nat):Int):=by omega
    refine⟨_,rfl,_,_,rfl,rfl,_,rfl,_,rfl,_,_,rfl,rfl,pU,_,_,_,rfl,rfl,d4.of U,fC (j:=pre.length + 1) a1,_,_,rfl,rfl,?_⟩
    show jT 5 (V.int ((pre.length:Int) + 3 + ((pl.length - 1:Nat):Int))) _ _ _
    rw [ee]
    refine⟨_,rfl,_,rfl,_,rfl,pU,_,_,_,rfl,rfl,d4.of U,fC (j:=pre.length) a0,_,_,rfl,rfl,?_⟩
    show jT 6 (V.int ((l:Int) + ((n - l:Nat):Int))) _ _ _
    rw [en]
    refine⟨_,rfl,.inl ⟨rfl,_,d4.of hR⟩,?_⟩
    have aj:iU (nl (rn 0 row)) (some ((pre.length:Int) + 2)) (some ((pre.length + 2 + pl.length:Nat):Int))=nl (gw 0 pl):=by
     have e1:nl (rn 0 row)=nl (pre++[n - l,pl.length - 1])++(nl (gw 0 pl)++nl (rn (n + 1) rest)):=by
      rw [<-iw,<-iw,I]
      congr 1
      simp [List.append_assoc]
     have e2:(nl (pre++[n - l,pl.length - 1])).length=pre.length + 2:=by rw [fZ,List.length_append];rfl
     have e3:(nl (gw 0 pl)).length=pl.length:=by rw [fZ,ku]
     have:=Ao (nl (pre++[n - l,pl.length - 1])) (nl (gw 0 pl)) (nl (rn (n + 1) rest))
     rw [<-e1,e2,e3] at this
     exact this
    refine⟨_,rfl,_,rfl,_,rfl,_,_,rfl,rfl,_,rfl,_,rfl,_,rfl,?_⟩
    refine⟨pU,_,rfl,d4.of U,fun pz aq=>?_⟩
    refine⟨pz,gw 0 pl,rfl,d7.trans (congrArg (fun z=>some (HO.lst z)) aj),by rw [ku];omega,fun pN H2 s2 aC hN=>?_⟩
    have ak:d3 H' H2:=(eh aq).trans s2
    rw [wF 0 pl ai] at hN
    refine⟨pN,_,rfl,.inl ⟨d4.of hN,fun pt ar=>?_⟩⟩
    refine⟨(by show 2<=sizeLine;decide),fun pp ao=>?_⟩
    have st:d3 H2 (upd H2 pt (.tup (nl pl))):=eh ar
    have ht:(upd H2 pt (.tup (nl pl))) pt=some (.tup (nl pl)):=d7
    generalize upd H2 pt (.tup (nl pl))=H3 at st ht ao ⊢
    have sp:d3 H3 (upd H3 pp (.tup [.int (n:Int),.ref pt])):=eh ao
    have aa:(upd H3 pp (.tup [.int (n:Int),.ref pt])) pp=some (.tup [.int (n:Int),.ref pt]):=d7
    generalize upd H3 pp (.tup [.int (n:Int),.ref pt])=H4 at sp aa ⊢
    have ab:=(ak.trans st).trans sp
    refine⟨pR,_,_,rfl,rfl,ab _ _ hR,(by omega),?_⟩
    refine⟨_,rfl,_,_,rfl,rfl,_,rfl,⟨pre++[n - l,pl.length - 1]++gw 0 pl,n + 1,done++[(n,pl)],rest,some (.int ((pre.length + 2 + pl.length:Nat):Int)),some (.int (n:Int)),_,?_,?_,?_,hok.tail,?_,d7,?_⟩,?_⟩
    ·have eL:(pre++[n - l,pl.length - 1]++gw 0 pl).length=pre.length + 2 + pl.length:=by rw [List.length_append,List.length_append,ku];rfl
     rw [eL]
     rfl
    ·rw [I]
     simp [List.append_assoc]
    ·rw [J,List.append_assoc]
     rfl
    ·intro b u e
     rw [eC (fv e ae)]
     exact ab _ _ (sm _ _ e)
    ·refine Gn.Paired.app (Gn.Paired.imp2 af fun x r q=>q.lst ab hR) ?_
     have n1:pp≠pR:=fun z=>by rw [z,ab _ _ hR] at aa;cases aa
     have n2:pt≠pR:=fun z=>by rw [z,(ak.trans st) _ _ hR] at ht;cases ht
     exact .mk (by rw [eC n1];exact aa) (by rw [eC n2];exact sp _ _ ht)
    ·show(3000 - ((pre.length + 2 + pl.length:Nat):Int)).toNat < (3000 - (pre.length:Int)).toNat
     omega
  ·intro σ H' Q1 Q2 hq h
   obtain⟨x,h1,y,h2,p,xs,e1,hs,i,j,e2,e3,b,e4,z⟩:=h
   exact⟨x,h1,y,h2,p,xs,e1,hs,i,j,e2,e3,b,e4,hq _ _ z⟩
end
open PySem L2 PyProof.Rows PySem.Spec Gn K04 K01 BK
section
variable {P : Program} {w : World} {K : PySem.W.Frag} {mg : Str -> Option Value} {base : Heap}
def FP(ws:List Str):Hp->Addr->Str->Prop:=fun H a w=>H a=some (.lst (nl (fz w ws 0)))
def y9:Sp:=fun vs H Q _=>∃(a:Addr) (ws:List Str),vs=[.ref a]/\H a=some (.lst (sl ws))/\ws.length<=3000/\
 ∀ p es H',d3 H H'->H p=none->DL H H' p es (FP ws)->es.length<=ws.length->(∀ x,x∈es.map (·.1)↔x∈ws)->Q (.ref p) H'
theorem qL:eX ["words","places","place","word"] ["words"] (er oZ):=⟨rfl,rfl,rfl,dk,rfl,dk,dk⟩
seal eK PS PE PT PA PG PI eV eQ in
theorem E3{f:Addr}{fd:FuncData}(D:Df K mg "places_by_word" oZ f fd)(T:Txt mg):d8 P w K mg base eu 1 f fd ["words"] y9:=by
 refine D.F.ok qL (fun vs H Q E h=>?_) (fun cdv A outer s H vs Q E hr h=>?_)
 ·obtain⟨a,ws,rfl,_⟩:=h
  rfl
 ·obtain⟨a,ws,rfl,hA,hlen,k⟩:=h
  have hl:(sizeLine:Nat)=16777216:=sizeLine_eq
  refine⟨_,d6 (eE (i:=1) qL.nd rfl (Or.inl rfl) kZ)
   (d6 (fU PassesOwn.never rfl (kd rfl T.enum (dY (pv 0) dZ)) (iz (n:=2) rfl (gh (eO (i:=2) qL.nd rfl (Or.inl rfl)) (gh (eO (i:=3) qL.nd rfl (Or.inl rfl)) iC)))
    (d9 (gq (gj F.plainAttrs_list F.slot_list_append F.type_list_append gT
     (PE.imp (t':=pZ 1 3) (gj F.plainAttrs_dict F.slot_dict_setdefault F.type_dict_setdefault qV (pv 1) (dY (pv 3) (dY (fJ dZ) dZ))) fun _ _ _=>getL) (dY (pv 2) dZ)))))
   (d9 (eG (pv 1)))),?_⟩
  intro d hd
  refine⟨_,rfl,a,sl ws,rfl,eh hd _ _ hA,?_⟩
  refine kN (xs:=sl ws) (fun i σ H'=>∃(es:En) (o2 o3:Option V),σ=[some (.ref a),some (.ref d),o2,o3]/\d3 H H'/\DL H H' d es (FP (ws.take i))/\es.length<=i/\(∀ x,x∈es.map (·.1)↔x∈ws.take i)) ?_ ?_ ?_ ?_
  ·exact⟨[],none,none,rfl,eh hd,⟨d7,List.nodup_nil,List.nodup_nil,(fun e he=>nomatch he),(fun e he=>nomatch he)⟩,Nat.le_refl _,fun x=>by simp⟩
  ·rintro i σ H' _ ⟨es,o2,o3,_,sm,_⟩
   exact sm _ _ hA
  ·rintro i x σ H' t hx ⟨es,o2,o3,rfl,sm,U,ae,I⟩ ht
   obtain⟨J,af,rfl⟩:=j9 hx
   have st:d3 H' (upd H' t (.tup [.int i,.str J])):=eh ht
   have ar:=(List.getElem?_eq_some_iff.mp af).1
   refine⟨t,_,rfl,eW.of d7,rfl,_,_,rfl,_,_,rfl,rfl,?_⟩
   generalize upd H' t (.tup [.int i,.str J])=H1 at st ⊢
   have ai:=sm.trans st
   have e1:ws.take (i + 1)=ws.take i++[J]:=take_snoc af
   have e2:(ws.take i).length=i:=lh af
   have ag:∀ u:Str,u≠J->fz u (ws.take (i + 1)) 0=fz u (ws.take i) 0:=fun u hu=>by
    rw [e1,qw,if_neg (fun q=>hu q.symm),List.append_nil]
   have ah:fz J (ws.take (i + 1)) 0=fz J (ws.take i) 0++[i]:=by
    rw [e1,qw,if_pos rfl,e2,Nat.zero_add]
   refine⟨H,d,es,J,FP (ws.take i),rfl,rfl,⟨st _ _ U.d,U.k,U.a,U.n,fun e he=>st _ _ (U.f e he)⟩,by omega,fun z hz=>ai.free hz,fun e he=>⟨_,st _ _ (U.f e he)⟩,?_,?_,?_⟩
   ·intro G b y l sb hb hf
    exact sb _ _ hf fun q=>by rw [q,st _ _ U.d] at hb;cases hb
   ·intro G z hn hz
    show G z=_
    rw [hz,(su J _ 0).mpr fun q=>hn ((I J).mpr q)]
    rfl
   ·rintro p aj H2 sb aa hp ak ⟨l,ao⟩
    have ab:H2 p=some (.lst (nl (fz J (ws.take i) 0))):=aa.f _ hp
    refine⟨.inl ⟨rfl,_,d4.of ab⟩,_,rfl,p,_,_,rfl,rfl,ab,(by rw [fZ];have:=pf J (ws.take i) 0;omega),?_⟩
    have aq:d≠p:=fun q=>by rw [<-q,aa.d] at ao;cases ao
    refine⟨aj,_,_,rfl,fun b u q=>?_,aa.put hp (by rw [eC aq];exact aa.d) (fun e he n1 n2 hf=>?_) ?_,?_,fun x=>?_⟩
    ·rw [eC (fv q (aa.n _ hp))]
     exact sb.new ai hd _ _ q
    ·show upd H2 p _ e.2=_
     rw [eC n2,ag e.1 n1]
     exact hf
    ·show upd H2 p _ p=_
     rw [d7,ah,iw]
     rfl
    ·rcases ak with rfl | ⟨_,rfl,_⟩
     ·omega
     ·rw [List.length_append]
      show es.length + 1<=i + 1
      omega
    ·have hm:x∈aj.map (·.1)↔x∈es.map (·.1)\/x=J:=by
      rcases ak with rfl | ⟨_,rfl,_⟩
      ·exact⟨.inl,fun q=>q.elim id fun z=>by rw [z];exact List.mem_map.mpr ⟨_,hp,rfl⟩⟩
      ·rw [List.map_append,List.mem_append]
       show(_\/x∈[J])↔_
       rw [List.mem_singleton]
     rw [hm,I,e1,List.mem_append,List.mem_singleton]
  ·rintro σ H' ⟨es,o2,o3,rfl,sm,U,ae,I⟩
   have e:(sl ws).length=ws.length:=List.length_map _
   rw [e] at U ae I
   rw [List.take_length] at U I
   exact⟨_,rfl,k d es H' sm hd U ae I⟩
end
theorem gB.but {H H':Hp}{v:V}{r:Pr}{x:Addr}(h:gB H v r)(s:SameBut x H H')(nt:∀ ts,H x≠some (.tup ts)):gB H' v r:=by
 cases h with
 | mk h ht=>exact .mk (s _ _ h fun z=>nt _ (by rw [<-z];exact h)) (s _ _ ht fun z=>nt _ (by rw [<-z];exact ht))
theorem fj.but {H H':Hp}{a x:Addr}{row:List Pr}(h:fj H a row)(s:SameBut x H H')(na:a≠x)(nt:∀ ts,H x≠some (.tup ts)):fj H' a row:=by
 obtain⟨xs,h1,h2⟩:=h
 exact⟨xs,s _ _ h1 na,Gn.Paired.imp2 h2 fun _ _ q=>q.but s nt⟩
theorem fj.snoc {H:Hp}{p:Addr}{xs:List V}{row:List Pr}{v:V}{r:Pr}(hp:H p=some (.lst xs))(h:Paired (gB H) xs row)(hv:gB H v r):fj (upd H p (.lst (xs++[v]))) p (row++[r]):=by
 have s:SameBut p H (upd H p (.lst (xs++[v]))):=fun b u e hb=>by rw [eC hb];exact e
 have I:∀ J,H p≠some (.tup J):=fun J z=>by rw [hp] at z;cases z
 exact⟨_,d7,Gn.Paired.app (Gn.Paired.imp2 h fun _ _ q=>q.but s I) (hv.but s I)⟩
section
variable {P : Program} {w : World} {K : PySem.W.Frag} {mg : Str -> Option Value} {base : Heap}
def FK(ro:Str->List Pr):Hp->Addr->Str->Prop:=fun H a w=>H a=some (.lst (nl (pk (rn 0 (ro w)))))
def tH:Sp:=fun vs H Q _=>∃(d:Addr) (es:En) (J:Str->List Pr),vs=[.ref d]/\H d=some (.dK (fP es))/\(es.map (·.1)).Nodup/\es.length<=3000/\(∀ e∈es,fj H e.2 (J e.1)/\iJ 0 (J e.1)/\Sz (J e.1))/\
 ∀ p I H',SameBut d H H'->H p=none->DL H H' p I (FK J)->I.map (·.1)=es.map (·.1)->Q (.ref p) H'
theorem sP:eX ["rows","packed","word"] ["rows"] (er ni):=⟨rfl,rfl,rfl,dk,rfl,dk,dk⟩
seal eK PS PE PT PA PG PI eV eQ in
theorem Hm{f fp:Addr}{fd fdp:FuncData}(D:Df K mg "packed_rows" ni f fd)(DP:Df K mg "packed_row" nH fp fdp)(GP:d8 P w K mg base eu 5 fp fdp ["row"] yb):d8 P w K mg base eu 6 f fd ["rows"] tH:=by
 have bP:=fN (p:="row") DP.F fun _ _ _ _ _ _ _=>rfl
 refine D.F.ok sP (fun vs H Q E h=>?_) (fun cdv A outer s H vs Q E hr h=>?_)
 ·obtain⟨d,es,ro,rfl,_⟩:=h
  rfl
 ·obtain⟨d,es,ro,rfl,hd,hn,hlen,ae,k⟩:=h
  have hl:(sizeLine:Nat)=16777216:=sizeLine_eq
  have hu:=jZ hr
  refine⟨_,d6 (eE (i:=1) sP.nd rfl (Or.inl rfl) kZ)
   (d6 (fU PassesOwn.never rfl (sx (pv 0)) (eO (i:=2) sP.nd rfl (Or.inl rfl))
    (d9 (oH hu (pv 1) (pv 2) (eI GP hr rfl DP.m DP.F.kp bP .nil eM (dY (oK hu (pv 0) (pv 2) (fun _ _=>rfl)) dZ)) rfl)))
   (d9 (eG (pv 1)))),?_⟩
  intro p hp
  have aa:d≠p:=fv hd hp
  refine⟨_,rfl,d,fP es,rfl,(by rw [eC aa];exact hd),fun o=>?_⟩
  refine tE (kvs:=fP es) (fun i σ H'=>∃(I:En) (o2:Option V),σ=[some (.ref d),some (.ref p),o2]/\SameBut d H H'/\H' d=some (.frz o (.dK (fP es)))/\DL H H' p I (FK ro)/\I.map (·.1)=(es.map (·.1)).take i) ?_ ?_ ?_ ?_
  ·refine⟨[],none,rfl,fun b u e hb=>?_,d7,⟨?_,List.nodup_nil,List.nodup_nil,(fun e he=>nomatch he),(fun e he=>nomatch he)⟩,rfl⟩
   ·rw [eC hb,eC (fv e hp)]
    exact e
   ·rw [eC (Ne.symm aa),d7]
    rfl
  ·rintro i σ H' _ ⟨_,_,_,_,h,_⟩
   exact h
  ·rintro i kv σ H' ai ⟨I,o2,rfl,sm,U,hD,J⟩
   obtain⟨e,he,rfl⟩:=tV ai
   have af:=List.mem_of_getElem? he
   obtain⟨hR,hok,hsz⟩:=ae e af
   have aj:e.2≠d:=fun z=>by
    obtain⟨xs,h1,_⟩:=hR
    rw [z,hd] at h1
    cases h1
   have ak:fj H' e.2 (ro e.1):=hR.but sm aj fun ts z=>by rw [hd] at z;cases z
   refine⟨_,rfl,_,rfl,d,.ref e.2,rfl,.inl ⟨fP es,Sum.inr e.1,.inr ⟨o,U⟩,rfl,(tq hn af).symm⟩,?_⟩
   refine⟨e.2,ro e.1,rfl,ak,hok,hsz,fun q H2 s2 hq hQ=>?_⟩
   have ab:=s2 _ _ hD.d
   have ao:I.length<=i:=by
    have:=congrArg List.length J
    rw [List.length_map,List.length_take] at this
    omega
   have au:=(List.getElem?_eq_some_iff.mp he).1
   refine⟨_,rfl,_,rfl,p,_,rfl,jG.k (k:=Sum.inr e.1) ab (by rw [nY];omega),?_⟩
   have ag:e.1∉I.map (·.1):=by
    rw [J]
    exact pI hn (pV he)
   have aq:H q=none:=sm.free U hq
   have ar:q≠p:=fun z=>by rw [z,ab] at hQ;cases hQ
   refine⟨I++[(e.1,q)],_,rfl,fun b u q1 q2=>?_,?_,hD.new ag aq (fun z=>?_) ?_ (fun e' ah n1 n2 hf=>?_) ?_,?_⟩
   ·rw [eC (fv q1 hp)]
    exact s2 _ _ (sm _ _ q1 q2)
   ·rw [eC aa]
    exact s2 _ _ U
   ·obtain⟨e',ah,z⟩:=List.mem_map.mp z
    have:=hD.f e' ah
    rw [z,FK,hq] at this
    cases this
   ·rw [d7,sq (oF ag)]
   ·have h1:H2 e'.2=_:=s2 _ _ hf
    show upd H2 p _ e'.2=_
    rw [eC (fun z=>by rw [z,ab] at h1;cases h1)]
    exact h1
   ·show upd H2 p _ q=_
    rw [eC ar]
    exact hQ
   ·rw [List.map_append,J,take_snoc (pV he)]
    rfl
  ·rintro σ H' ⟨I,o2,rfl,sm,U,hD,J⟩
   rw [nY] at J
   refine⟨_,rfl,k p I H' sm hp hD ?_⟩
   rw [J,List.take_of_length_le (by rw [List.length_map];exact Nat.le_refl _)]
def FX(f:Str->List V):Hp->Addr->Str->Prop:=fun H a w=>H a=some (.lst (f w))
def xT:Sp:=fun vs H Q _=>∃(d:Addr) (es:En) (f:Str->List V),vs=[.ref d]/\H d=some (.dK (fP es))/\(es.map (·.1)).Nodup/\es.length<=3000/\(∀ e∈es,H e.2=some (.lst (f e.1)))/\
 ∀ p I H',SameBut d H H'->H p=none->DL H H' p I (FX f)->I.map (·.1)=es.map (·.1)->Q (.ref p) H'
theorem si:eX ["rows","copies","word"] ["rows"] (er oO):=⟨rfl,rfl,rfl,dk,rfl,dk,dk⟩
seal eK PS PE PT PA PG PI eV eQ in
theorem EJ{f:Addr}{fd:FuncData}(D:Df K mg "copied_rows" oO f fd)(T:Txt mg):d8 P w K mg base eu 1 f fd ["rows"] xT:=by
 refine D.F.ok si (fun vs H Q E h=>?_) (fun cdv A outer s H vs Q E hr h=>?_)
 ·obtain⟨d,es,ro,rfl,_⟩:=h
  rfl
 ·obtain⟨d,es,fl,rfl,hd,hn,hlen,ae,k⟩:=h
  have hl:(sizeLine:Nat)=16777216:=sizeLine_eq
  have hu:=jZ hr
  refine⟨_,d6 (eE (i:=1) si.nd rfl (Or.inl rfl) kZ)
   (d6 (fU PassesOwn.never rfl (sx (pv 0)) (eO (i:=2) si.nd rfl (Or.inl rfl))
    (d9 (oH hu (pv 1) (pv 2) (jA nq rfl T.list j7 (dY (oK hu (pv 0) (pv 2) (fun _ _=>rfl)) dZ)) rfl)))
   (d9 (eG (pv 1)))),?_⟩
  intro p hp
  have aa:d≠p:=fv hd hp
  refine⟨_,rfl,d,fP es,rfl,(by rw [eC aa];exact hd),fun o=>?_⟩
  refine tE (kvs:=fP es) (fun i σ H'=>∃(I:En) (o2:Option V),σ=[some (.ref d),some (.ref p),o2]/\SameBut d H H'/\H' d=some (.frz o (.dK (fP es)))/\DL H H' p I (FX fl)/\I.map (·.1)=(es.map (·.1)).take i) ?_ ?_ ?_ ?_
  ·refine⟨[],none,rfl,fun b u e hb=>?_,d7,⟨?_,List.nodup_nil,List.nodup_nil,(fun e he=>nomatch he),(fun e he=>nomatch he)⟩,rfl⟩
   ·rw [eC hb,eC (fv e hp)]
    exact e
   ·rw [eC (Ne.symm aa),d7]
    rfl
  ·rintro i σ H' _ ⟨_,_,_,_,h,_⟩
   exact h
  ·rintro i kv σ H' ai ⟨I,o2,rfl,sm,U,hD,J⟩
   obtain⟨e,he,rfl⟩:=tV ai
   have af:=List.mem_of_getElem? he
   have hR:=ae e af
   have aj:e.2≠d:=fun z=>by rw [z,hd] at hR;cases hR
   have ak:=sm _ _ hR aj
   refine⟨_,rfl,_,rfl,d,.ref e.2,rfl,.inl ⟨fP es,Sum.inr e.1,.inr ⟨o,U⟩,rfl,(tq hn af).symm⟩,?_⟩
   refine⟨e.2,fl e.1,rfl,.inl (d4.of ak),fun q hq=>?_⟩
   have s2:d3 H' (upd H' q (.lst (fl e.1))):=eh hq
   have hQ:upd H' q (.lst (fl e.1)) q=some (.lst (fl e.1)):=d7
   generalize upd H' q (.lst (fl e.1))=H2 at s2 hQ ⊢
   have ab:=s2 _ _ hD.d
   have ao:I.length<=i:=by
    have:=congrArg List.length J
    rw [List.length_map,List.length_take] at this
    omega
   have au:=(List.getElem?_eq_some_iff.mp he).1
   refine⟨_,rfl,_,rfl,p,_,rfl,jG.k (k:=Sum.inr e.1) ab (by rw [nY];omega),?_⟩
   have ag:e.1∉I.map (·.1):=by
    rw [J]
    exact pI hn (pV he)
   have aq:H q=none:=sm.free U hq
   have ar:q≠p:=fun z=>by rw [z,ab] at hQ;cases hQ
   refine⟨I++[(e.1,q)],_,rfl,fun b u q1 q2=>?_,?_,hD.new ag aq (fun z=>?_) ?_ (fun e' ah n1 n2 hf=>?_) ?_,?_⟩
   ·rw [eC (fv q1 hp)]
    exact s2 _ _ (sm _ _ q1 q2)
   ·rw [eC aa]
    exact s2 _ _ U
   ·obtain⟨e',ah,z⟩:=List.mem_map.mp z
    have:=hD.f e' ah
    rw [z,FX,hq] at this
    cases this
   ·rw [d7,sq (oF ag)]
   ·have h1:H2 e'.2=_:=s2 _ _ hf
    show upd H2 p _ e'.2=_
    rw [eC (fun z=>by rw [z,ab] at h1;cases h1)]
    exact h1
   ·show upd H2 p _ q=_
    rw [eC ar]
    exact hQ
   ·rw [List.map_append,J,take_snoc (pV he)]
    rfl
  ·rintro σ H' ⟨I,o2,rfl,sm,U,hD,J⟩
   rw [nY] at J
   refine⟨_,rfl,k p I H' sm hp hD ?_⟩
   rw [J,List.take_of_length_le (by rw [List.length_map];exact Nat.le_refl _)]
end
structure gJ (d0 : List (List Str)) : Prop where
 l : d0.length <= 300
 t : fO d0 <= 330
theorem gJ.sz {d0:List (List Str)}(h:gJ d0)(x:Str):Sz (rowOf x d0 0):=by
 have h1:=(lO x d0 0).1
 have h2:=ub x d0 0 0
 have U:=h.l
 have h4:=h.t
 have I:∀ y∈rn 0 (rowOf x d0 0),y < 128 ^ (1 + 1):=fun y J=>by
  have:=xE x 1000 d0 0 0 (by omega) (fun ws hw=>by have:=oq hw;omega) y J
  have e:128 ^ (1 + 1)=16384:=rfl
  omega
 have h6:=vt 1 _ I
 exact⟨by omega,by omega,by omega⟩
theorem gJ.ok {d0:List (List Str)}(x:Str):iJ 0 (rowOf x d0 0):=EV x d0 0 0 (Nat.le_refl _)
section
variable {P : Program} {w : World} {K : PySem.W.Frag} {mg : Str -> Option Value} {base : Heap}
def kl(H:Hp):List V->List (List Str)->Prop:=Paired fun v ws=>∃ p,v= .ref p/\H p=some (.lst (sl ws))
theorem kl.same {H H':Hp}{xs:List V}{t:List (List Str)}(h:kl H xs t)(s:d3 H H'):kl H' xs t:=Gn.Paired.imp2 h fun _ _ ⟨p,e,q⟩=>⟨p,e,s _ _ q⟩
def FR(d0:List (List Str)):Hp->Addr->Str->Prop:=fun H a w=>fj H a (rowOf w d0 0)
def wU:Sp:=fun vs H Q _=>∃(a:Addr) (xs:List V) (d0:List (List Str)),vs=[.ref a]/\H a=some (.lst xs)/\kl H xs d0/\gJ d0/\
 ∀ p es H',d3 H H'->H p=none->DL H H' p es (FK fun x=>rowOf x d0 0)->es.length<=fO d0->(∀ x,x∈es.map (·.1)↔∃ ws∈d0,x∈ws)->Q (.ref p) H'
theorem nj:eX ["texts_words","rows","number","words","places","word"] ["texts_words"] (er oJ):=⟨rfl,rfl,rfl,dk,rfl,dk,dk⟩
def mid(t1 t2:List (List Str))(ks:List Str)(x:Str):List Pr:=if x∈ks then rowOf x t2 0 else rowOf x t1 0
def FM(t1 t2:List (List Str))(ks:List Str):Hp->Addr->Str->Prop:=fun H a w=>fj H a (mid t1 t2 ks w)
theorem uc{t1 t2:List (List Str)}{ks:List Str}{x y:Str}(h:y≠x):mid t1 t2 (ks++[x]) y=mid t1 t2 ks y:=by
 unfold mid
 have e:(y∈ks++[x])↔y∈ks:=by
  rw [List.mem_append,List.mem_singleton]
  exact⟨fun q=>q.elim id fun z=>absurd z h,.inl⟩
 by_cases q:y∈ks
 ·rw [if_pos q,if_pos (e.mpr q)]
 ·rw [if_neg q,if_neg (fun z=>q (e.mp z))]
theorem uu{t1 t2:List (List Str)}{ks:List Str}{x:Str}:mid t1 t2 (ks++[x]) x=rowOf x t2 0:=if_pos (by simp)
theorem kG{t1 t2:List (List Str)}{ks:List Str}{x:Str}(h:x∉ks):mid t1 t2 ks x=rowOf x t1 0:=if_neg h
seal eK PS PE PT PA PG PI eV eQ in
theorem Ee{f fp fr:Addr}{fd fdp fdr:FuncData}(D:Df K mg "rows_by_word" oJ f fd)(DP:Df K mg "places_by_word" oZ fp fdp)(GP:d8 P w K mg base eu 1 fp fdp ["words"] y9)
  (DR:Df K mg "packed_rows" ni fr fdr)(GR:d8 P w K mg base eu 6 fr fdr ["rows"] tH)(T:Txt mg):d8 P w K mg base eu 7 f fd ["texts_words"] wU:=by
 have bP:=fN (p:="words") DP.F fun _ _ _ _ _ _ _=>rfl
 have bR:=fN (p:="rows") DR.F fun _ _ _ _ _ _ _=>rfl
 refine D.F.ok nj (fun vs H Q E h=>?_) (fun cdv A outer s H vs Q E hr h=>?_)
 ·obtain⟨a,xs,d0,rfl,_⟩:=h
  rfl
 ·obtain⟨a,xs,d0,rfl,hA,hW,ai,k⟩:=h
  have hl:(sizeLine:Nat)=16777216:=sizeLine_eq
  have hu:=jZ hr
  have aW:=Gn.Paired.len hW
  have bb:=ai.l
  have bc:=ai.t
  refine⟨_,d6 (eE (i:=1) nj.nd rfl (Or.inl rfl) kZ)
   (d6 (fU PassesOwn.never rfl (kd rfl T.enum (dY (pv 0) dZ)) (iz (n:=2) rfl (gh (eO (i:=2) nj.nd rfl (Or.inl rfl)) (gh (eO (i:=3) nj.nd rfl (Or.inl rfl)) iC)))
    (d6 (eE (i:=4) nj.nd rfl (Or.inl rfl) (eI (GP.mono (by decide)) hr rfl DP.m DP.F.kp bP .nil eM (dY (pv 3) dZ)))
    (d9 (fU PassesOwn.never rfl (sx (pv 4)) (eO (i:=5) nj.nd rfl (Or.inl rfl))
     (d9 (gq (gj F.plainAttrs_list F.slot_list_append F.type_list_append gT
      (PE.imp (t':=pZ 1 5) (gj F.plainAttrs_dict F.slot_dict_setdefault F.type_dict_setdefault qV (pv 1) (dY (pv 5) (dY (fJ dZ) dZ))) fun _ _ _=>getL)
      (dY (g8 (dY (pv 2) (dY (jA tN rfl T.tuple nJ (dY (oK hu (pv 4) (pv 5) (fun _ _=>rfl)) dZ)) dZ))) dZ))))))))
   (d9 (eG (eI GR hr rfl DR.m DR.F.kp bR .nil eM (dY (pv 1) dZ))))),?_⟩
  intro d hd
  refine⟨_,rfl,a,xs,rfl,eh hd _ _ hA,?_⟩
  refine kN (xs:=xs) (fun i σ H'=>∃(es:En) (o2 o3 o4 o5:Option V),σ=[some (.ref a),some (.ref d),o2,o3,o4,o5]/\d3 H H'/\DL H H' d es (FR (d0.take i))/\es.length<=fO (d0.take i)/\(∀ x,x∈es.map (·.1)↔∃ ws∈d0.take i,x∈ws)) ?_ ?_ ?_ ?_
  ·exact⟨[],none,none,none,none,rfl,eh hd,⟨d7,List.nodup_nil,List.nodup_nil,(fun e he=>nomatch he),(fun e he=>nomatch he)⟩,Nat.le_refl _,fun x=>by simp⟩
  ·rintro i σ H' _ ⟨_,_,_,_,_,_,sm,_⟩
   exact sm _ _ hA
  ·rintro i x σ H' t hx ⟨es,o2,o3,o4,o5,rfl,sm,U,af,aa⟩ ht
   obtain⟨ws,av,pw,rfl,aX⟩:=gK hW hx
   have st:d3 H' (upd H' t (.tup [.int i,.ref pw])):=eh ht
   refine⟨t,_,rfl,eW.of d7,rfl,_,_,rfl,_,_,rfl,rfl,?_⟩
   generalize upd H' t (.tup [.int i,.ref pw])=H1 at st ⊢
   have bf:ws.length<=330:=by have:=oq (List.mem_of_getElem? av);omega
   have aB:=sm.trans st
   refine⟨_,rfl,pw,ws,rfl,aB _ _ aX,by omega,fun dp ep H2 s2 aC hP aY ab=>?_⟩
   have aZ:=aB.trans s2
   have aK:=st.trans s2
   refine⟨_,rfl,dp,fP ep,rfl,hP.d,fun o=>?_⟩
   have e1:d0.take (i + 1)=d0.take i++[ws]:=take_snoc av
   have e2:(d0.take i).length=i:=lh av
   have aL:H dp=none:=aB.free aC
   have aM:d≠dp:=fun z=>by rw [<-z,st _ _ U.d] at aC;cases aC
   have aw:∀ u,u∈ws->rowOf u (d0.take (i + 1)) 0=rowOf u (d0.take i) 0++[(i,fz u ws 0)]:=fun u aD=>by
    rw [e1,oB,if_pos aD,e2,Nat.zero_add]
   have aj:∀ u,u∉ws->rowOf u (d0.take (i + 1)) 0=rowOf u (d0.take i) 0:=fun u aD=>by
    rw [e1,oB,if_neg aD,List.append_nil]
   refine tE (kvs:=fP ep) (fun j σ H3=>∃(es:En) (o5:Option V),σ=[some (.ref a),some (.ref d),some (.int (i:Int)),some (.ref pw),some (.ref dp),o5]/\d3 H H3/\H3 dp=some (.frz o (.dK (fP ep)))/\
    (∀ e∈ep,H3 e.2=some (.lst (nl (fz e.1 ws 0))))/\(∀ e∈ep,∀ J∈es,e.2≠J.2)/\DL H H3 d es (FM (d0.take i) (d0.take (i + 1)) ((ep.map (·.1)).take j))/\es.length<=fO (d0.take i) + j/\
    (∀ x,x∈es.map (·.1)↔(∃ ws∈d0.take i,x∈ws)\/x∈(ep.map (·.1)).take j)) ?_ ?_ ?_ ?_
   ·have a0:=aK _ _ U.d
    refine⟨es,_,rfl,fun b u e=>?_,d7,fun e he=>?_,fun e he J I z=>?_,⟨?_,U.k,U.a,U.n,fun e he=>?_⟩,af,fun x=>?_⟩
    ·rw [eC (fv e aL)]
     exact aZ _ _ e
    ·have h1:H2 e.2=_:=hP.f e he
     rw [eC (fun z=>by rw [z,hP.d] at h1;cases h1)]
     exact h1
    ·obtain⟨ys,h1,_⟩:=U.f J I
     have h2:=hP.n e he
     rw [z,st _ _ h1] at h2
     cases h2
    ·rw [eC aM]
     exact a0
    ·show fj _ e.2 (mid _ _ _ e.1)
     rw [kG (by simp)]
     have hR:fj H2 e.2 (rowOf e.1 (d0.take i) 0):=(U.f e he).same aK
     refine hR.but (x:=dp) (fun b u q hb=>by rw [eC hb];exact q) (fun z=>?_) fun ts z=>by rw [hP.d] at z;cases z
     obtain⟨ys,h1,_⟩:=hR
     rw [z,hP.d] at h1
     cases h1
    ·rw [aa]
     simp
   ·rintro j σ H3 _ ⟨_,_,_,_,h,_⟩
    exact h
   ·rintro j kv σ H3 a3 ⟨es,o5,rfl,ax,aN,ay,aE,U,af,aa⟩
    obtain⟨e,he,rfl⟩:=tV a3
    have aF:=List.mem_of_getElem? he
    have aO:=pV he
    have aG:(ep.map (·.1)).take (j + 1)=(ep.map (·.1)).take j++[e.1]:=take_snoc aO
    have ak:e.1∉(ep.map (·.1)).take j:=pI hP.k aO
    have aP:e.1∈ws:=(ab e.1).mp (List.mem_map.mpr ⟨e,aF,rfl⟩)
    have bg:=(List.getElem?_eq_some_iff.mp he).1
    have bh:=uI d0 i
    have a4:∀ J∈es,∃ l,H3 J.2=some (.lst l):=fun J I=>let ⟨ys,h1,_⟩:=U.f J I;⟨ys,h1⟩
    refine⟨H,d,es,e.1,FM (d0.take i) (d0.take (i + 1)) ((ep.map (·.1)).take j),rfl,rfl,U,by omega,fun z hz=>ax.free hz,a4,?_,?_,?_⟩
    ·intro G b y l sb hb hf
     exact fj.but hf sb (fun q=>by rw [q,U.d] at hb;cases hb) fun ts q=>by rw [U.d] at q;cases q
    ·intro G z hn hz
     refine⟨[],hz,?_⟩
     rw [kG ak,(kT e.1 _ 0).mpr fun ao a5 q=>hn ((aa e.1).mpr (.inl ⟨ao,a5,q⟩))]
     exact .nil
    ·rintro p aq H4 sb ar hp aH ⟨l,aY⟩
     obtain⟨ys,ag,aI⟩:=ar.f _ hp
     rw [kG ak] at aI
     have a6:dp≠d:=Ne.symm aM
     have ae:=sb _ _ aN a6
     have aQ:∀ J∈ep,J.2≠d:=fun J I q=>by
      have:=ay J I
      rw [q,U.d] at this
      cases this
     have az:∀ J∈ep,H4 J.2=some (.lst (nl (fz J.1 ws 0))):=fun J I=>sb _ _ (ay J I) (aQ J I)
     have aA:∀ J∈ep,∀ e2∈aq,J.2≠e2.2:=fun J I e2 he2=>by
      rcases aH with rfl | ⟨_,rfl,a7⟩
      ·exact aE J I e2 he2
      ·rcases List.mem_append.mp he2 with he2 | he2
       ·exact aE J I e2 he2
       ·rw [List.mem_singleton.mp he2]
        exact fv (ay J I) a7
     have bj:ys.length<=300:=by
      have h1:=Gn.Paired.len aI
      have h2:=(lO e.1 (d0.take i) 0).1
      have h3:=(List.getElem?_eq_some_iff.mp av).1
      rw [h1]
      show(rowOf e.1 (d0.take i) 0).length<=300
      omega
     refine⟨.inl ⟨rfl,_,d4.of ag⟩,?_⟩
     refine⟨_,rfl,_,rfl,_,rfl,dp,.ref e.2,rfl,.inl ⟨fP ep,Sum.inr e.1,.inr ⟨o,ae⟩,rfl,(tq hP.k aF).symm⟩,?_⟩
     refine⟨e.2,_,rfl,.inl ⟨d4.of (az e aF),fun pt a8=>⟨(by show 2<=sizeLine;decide),fun pp aR=>?_⟩⟩⟩
     have s5:d3 H4 (upd H4 pt (.tup (nl (fz e.1 ws 0)))):=eh a8
     have h5:(upd H4 pt (.tup (nl (fz e.1 ws 0)))) pt=some (.tup (nl (fz e.1 ws 0))):=d7
     generalize upd H4 pt (.tup (nl (fz e.1 ws 0)))=H5 at s5 h5 aR ⊢
     have s6:d3 H5 (upd H5 pp (.tup [.int (i:Int),.ref pt])):=eh aR
     have h6:(upd H5 pp (.tup [.int (i:Int),.ref pt])) pp=some (.tup [.int (i:Int),.ref pt]):=d7
     generalize upd H5 pp (.tup [.int (i:Int),.ref pt])=H6 at s6 h6 ⊢
     have aJ:=s5.trans s6
     have hv:gB H6 (.ref pp) (i,fz e.1 ws 0):= .mk h6 (s6 _ _ h5)
     have aS:Paired (gB H6) ys (rowOf e.1 (d0.take i) 0):=Gn.Paired.imp2 aI fun _ _ q=>q.same aJ
     have aT:=aJ _ _ ag
     refine⟨p,ys,_,rfl,rfl,aT,by omega,?_⟩
     have ah:SameBut p H4 (upd H6 p (.lst (ys++[.ref pp]))):=fun b u q hb=>by rw [eC hb];exact aJ _ _ q
     have aU:=fj.snoc aT aS hv
     generalize upd H6 p (.lst (ys++[.ref pp]))=H7 at ah aU ⊢
     have a9:d≠p:=fun q=>by rw [<-q,ar.d] at ag;cases ag
     have nt:∀ ts,H4 p≠some (.tup ts):=fun ts q=>by rw [ag] at q;cases q
     refine⟨aq,_,rfl,fun b u q=>?_,?_,fun J I=>?_,aA,ar.put hp (ah _ _ ar.d a9) (fun J I n1 n2 hf=>?_) ?_,?_,fun x=>?_⟩
     ·exact ah _ _ (sb.new ax hd _ _ q) (fv q (ar.n _ hp))
     ·exact ah _ _ ae fun q=>by rw [q,ag] at ae;cases ae
     ·exact ah _ _ (az J I) (aA J I _ hp)
     ·show fj H7 J.2 (mid _ _ _ J.1)
      rw [aG,uc n1]
      exact fj.but hf ah n2 nt
     ·show fj H7 p (mid _ _ _ e.1)
      rw [aG,uu,aw e.1 aP]
      exact aU
     ·rcases aH with rfl | ⟨_,rfl,_⟩
      ·omega
      ·rw [List.length_append]
       show es.length + 1<=_
       omega
     ·have hm:x∈aq.map (·.1)↔x∈es.map (·.1)\/x=e.1:=by
       rcases aH with rfl | ⟨_,rfl,_⟩
       ·exact⟨.inl,fun q=>q.elim id fun z=>by rw [z];exact List.mem_map.mpr ⟨_,hp,rfl⟩⟩
       ·rw [List.map_append,List.mem_append]
        show(_\/x∈[e.1])↔_
        rw [List.mem_singleton]
      rw [hm,aa,aG,List.mem_append,List.mem_singleton,or_assoc]
   ·rintro σ H3 ⟨es,o5,rfl,ax,aN,ay,aE,U,af,aa⟩
    rw [nY] at U af aa
    have ba:(ep.map (·.1)).take ep.length=ep.map (·.1):=List.take_of_length_le (by rw [List.length_map];exact Nat.le_refl _)
    rw [ba] at U aa
    refine⟨es,_,_,_,_,rfl,ax,⟨U.d,U.k,U.a,U.n,fun e he=>?_⟩,?_,fun x=>?_⟩
    ·have hf:fj H3 e.2 (mid _ _ _ e.1):=U.f e he
     show fj H3 e.2 _
     by_cases q:e.1∈ep.map (·.1)
     ·rw [mid,if_pos q] at hf
      exact hf
     ·rw [kG q] at hf
      rw [aj e.1 fun z=>q ((ab e.1).mpr z)]
      exact hf
    ·rw [e1,xF]
     omega
    ·rw [aa,e1]
     constructor
     ·rintro(⟨ao,h1,h2⟩ | q)
      ·exact⟨ao,List.mem_append_left _ h1,h2⟩
      ·exact⟨ws,List.mem_append_right _ (List.mem_singleton.mpr rfl),(ab x).mp q⟩
     ·rintro⟨ao,h1,h2⟩
      rcases List.mem_append.mp h1 with h1 | h1
      ·exact .inl ⟨ao,h1,h2⟩
      ·rw [List.mem_singleton.mp h1] at h2
       exact .inr ((ab x).mpr h2)
  ·rintro σ H' ⟨es,o2,o3,o4,o5,rfl,sm,U,af,aa⟩
   rw [aW,List.take_length] at U af aa
   refine⟨_,rfl,d,es,fun x=>rowOf x d0 0,rfl,U.d,U.k,by omega,fun e he=>⟨U.f e he,gJ.ok e.1,ai.sz e.1⟩,fun p aq H2 sb hp au aV=>?_⟩
   have hle:=congrArg List.length aV
   rw [List.length_map,List.length_map] at hle
   exact k p aq H2 (sb.new sm hd) (sm.free hp) ⟨au.d,au.k,au.a,fun e he=>sm.free (au.n e he),au.f⟩ (by omega) fun x=>by rw [aV];exact aa x
end
def fX(H:Hp):List V->List (V×V)->Prop:=Paired fun v kt=>∃ p,v= .ref p/\H p=some (.tup [kt.1,kt.2])
theorem fX.same {H H':Hp}{xs:List V}{t:List (V×V)}(h:fX H xs t)(s:d3 H H'):fX H' xs t:=Gn.Paired.imp2 h fun _ _ ⟨p,e,q⟩=>⟨p,e,s _ _ q⟩
def iR:V->Str
 | .str z=>z
 | _=>Str.empty
def iV:List Str->List (V×V)->Option Nat
 | _,[]=>none
 | seen,(k,t)::r=>if fV 12 k=false then some 0 else if gL t=false then some 1 else if iR k∈seen then some 2 else iV (seen++[iR k]) r
def kp(p:Str×Str):V×V:=(.str p.1,.str p.2)
structure jh (ps : List (Str × Str)) : Prop where
 g : ∀ p ∈ ps, fV 12 (.str p.1) = true /\ gL (.str p.2) = true
 n : (ps.map (·.1)).Nodup
theorem rN{m:Nat}{v:V}(h:fV m v=true):∃ z,v= .str z:=by cases v<;>first | exact⟨_,rfl⟩ | cases h
theorem Fi{v:V}(h:gL v=true):∃ z,v= .str z:=by cases v<;>first | exact⟨_,rfl⟩ | cases h
theorem yI:∀{kts:List (V×V)} {seen:List Str},iV seen kts=none->∃ ps:List (Str×Str),kts=ps.map kp/\(∀ p∈ps,fV 12 (.str p.1)=true/\gL (.str p.2)=true)/\(∀ p∈ps,p.1∉seen)/\(ps.map (·.1)).Nodup
 | [],_,_=>⟨[],rfl,(fun p hp=>nomatch hp),(fun p hp=>nomatch hp),List.nodup_nil⟩
 | (k,t)::r,seen,h=>by
  unfold iV at h
  by_cases h1:fV 12 k=false
  ·rw [if_pos h1] at h;cases h
  ·rw [if_neg h1] at h
   by_cases h2:gL t=false
   ·rw [if_pos h2] at h;cases h
   ·rw [if_neg h2] at h
    by_cases I:iR k∈seen
    ·rw [if_pos I] at h;cases h
    ·rw [if_neg I] at h
     obtain⟨ps,e,a,b,c⟩:=yI h
     obtain⟨z,rfl⟩:=rN (by simpa using h1)
     obtain⟨y,rfl⟩:=Fi (by simpa using h2)
     refine⟨(z,y)::ps,by rw [e];rfl,fun p hp=>?_,fun p hp=>?_,?_⟩
     ·rcases List.mem_cons.mp hp with rfl | hp
      ·exact⟨by simpa using h1,by simpa using h2⟩
      ·exact a p hp
     ·rcases List.mem_cons.mp hp with rfl | hp
      ·exact I
      ·exact fun q=>b p hp (List.mem_append_left _ q)
     ·show(z::ps.map (·.1)).Nodup
      refine List.nodup_cons.mpr ⟨fun q=>?_,c⟩
      obtain⟨p,hp,e⟩:=List.mem_map.mp q
      exact b p hp (by rw [e];exact List.mem_append_right _ (List.mem_singleton.mpr rfl))
def hJ(ks:List Str):List (Key×V):=ks.zipIdx.map fun p=>((Sum.inr p.1:Key),V.int (p.2:Int))
theorem Cg(ks:List Str)(z:Str):hJ (ks++[z])=hJ ks++[((Sum.inr z:Key),V.int (ks.length:Int))]:=by
 unfold hJ
 rw [List.zipIdx_append,List.map_append]
 simp
theorem ym(ks:List Str):(hJ ks).length=ks.length:=by unfold hJ;simp
theorem wj(ks:List Str):(hJ ks).map (·.1)=ks.map Sum.inr:=by
 unfold hJ
 rw [List.map_map]
 have:((fun x:Key×V=>x.1) ∘ fun p:Str×Nat=>((Sum.inr p.1:Key),V.int (p.2:Int)))=(Sum.inr ∘ Prod.fst:Str×Nat->Key):=rfl
 rw [this,<-List.map_map,List.zipIdx_map_fst]
theorem tK{ks:List Str}{z:Str}(h:z∉ks):fH (hJ ks) (Sum.inr z)=none:=by
 cases q:fH (hJ ks) (Sum.inr z) with
 | none=>rfl
 | some v=>
  have:=Cw q
  rw [wj] at this
  obtain⟨y,I,e⟩:=List.mem_map.mp this
  rw [Sum.inr.inj e] at I
  exact absurd I h
theorem Hy{ks:List Str}{z:Str}(h:z∈ks):∃ v,fH (hJ ks) (Sum.inr z)=some v:=by
 cases q:fH (hJ ks) (Sum.inr z) with
 | some v=>exact⟨v,rfl⟩
 | none=>
  have:=v9 q
  rw [wj] at this
  exact absurd (List.mem_map.mpr ⟨z,h,rfl⟩) this
def yE(C0 C1 C2:Addr):Nat->Addr
 | 0=>C0
 | 1=>C1
 | _=>C2
section
variable {P : Program} {w : World} {K : PySem.W.Frag} {mg : Str -> Option Value} {base : Heap} {CK CT CW : Addr}
def xN(K:W.Frag)(H:Hp)(kt:V×V):Prop:=Known K H kt.1/\iH kt.1/\Known K H kt.2/\iH kt.2
def xB(K:W.Frag)(CK CT CW:Addr):Sp:=fun vs H Q E=>∃(a:Addr) (xs:List V) (I:List (V×V)),vs=[.ref a]/\H a=some (.lst xs)/\fX H xs I/\I.length<=1000/\(∀ kt∈I,xN K H kt)/\
 (iV [] I=none->∀ p H',d3 H H'->H p=none->H' p=some (.dK (hJ (I.map fun kt=>iR kt.1)))->Q (.ref p) H')/\(∀ i,iV [] I=some i->∀ H',d3 H H'->E (.ref (yE CK CT CW i)) none H')
theorem qo:eX ["pairs","numbers","key","text"] ["pairs"] (er oh):=⟨rfl,rfl,rfl,dk,rfl,dk,dk⟩
seal eK PS PE PT PA PG PI eV eQ in
theorem Ey{f fk ft:Addr}{fd fdk fdt:FuncData}(D:Df K mg "numbers_by_key" oh f fd)(DK:Df K mg "need_key" pF fk fdk)(GK:d8 P w K mg base (eP P w) 3 fk fdk ["thing"] (kC K (fV 12) CK))
  (DT:Df K mg "need_text" nu ft fdt)(GT:d8 P w K mg base (eP P w) 3 ft fdt ["thing"] (kC K gL CT))(X:Ex K mg "Twice" CW)(T:Txt mg):d8 P w K mg base (eP P w) 4 f fd ["pairs"] (xB K CK CT CW):=by
 have bK:=fN (p:="thing") DK.F fun _ _ _ _ _ _ _=>rfl
 have bT:=fN (p:="thing") DT.F fun _ _ _ _ _ _ _=>rfl
 refine D.F.ok1 qo (fun vs H Q E h=>?_) (fun cdv A outer s H vs Q E hr h=>?_)
 ·obtain⟨a,xs,J,rfl,_⟩:=h
  rfl
 ·obtain⟨a,xs,J,rfl,hA,hP,hlen,hk,k1,k2⟩:=h
  have hl:(sizeLine:Nat)=16777216:=sizeLine_eq
  have hu:=jZ hr
  have af:=Gn.Paired.len hP
  refine⟨_,d6 (eE (i:=1) qo.nd rfl (Or.inl rfl) kZ)
   (d6 (fU PassesOwn.leaving rfl (gu (pv 0)) (iz (n:=2) rfl (gh (eO (i:=2) qo.nd rfl (Or.inl rfl)) (gh (eO (i:=3) qo.nd rfl (Or.inl rfl)) iC)))
    (d6 (gq (eI GK hr rfl DK.m DK.F.kp bK .nil (iE (E':=E) (fun _ _ _ h=>h)) (dY (pv 2) dZ)))
    (d6 (gq (eI GT hr rfl DT.m DT.F.kp bT .nil (iE (E':=E) (fun _ _ _ h=>h)) (dY (pv 3) dZ)))
    (d6 (fE (kH (yn hu (pv 2) (pv 1))) (d9 (ki rfl X.q F.excBase_ValueError dk F.excBase_ValueError rfl X.m (dY fF dZ) kr)) fB)
    (d9 (oH hu (pv 1) (pv 2) (fG GA rfl T.len gf (dY (pv 1) dZ)) rfl))))))
   (d9 (eG (pv 1)))),?_⟩
  intro d hd
  refine⟨_,rfl,a,rfl,⟨_,d4.of (eh hd _ _ hA)⟩,?_⟩
  refine iS (xs:=xs) (fun i σ H'=>∃(o2 o3:Option V),σ=[some (.ref a),some (.ref d),o2,o3]/\d3 H H'/\H' d=some (.dK (hJ ((J.take i).map fun kt=>iR kt.1)))/\iV [] J=iV ((J.take i).map fun kt=>iR kt.1) (J.drop i)) ?_ ?_ ?_ ?_
  ·exact⟨none,none,rfl,eh hd,d7,rfl⟩
  ·rintro i σ H' _ ⟨_,_,_,sm,_⟩
   exact d4.of (sm _ _ hA)
  ·rintro i x σ H' hx ⟨o2,o3,rfl,sm,aa,I⟩
   obtain⟨kt,U,p,rfl,hp⟩:=gK hP hx
   obtain⟨kv,tv⟩:=kt
   obtain⟨c1,c2,c3,c4⟩:=hk _ (List.mem_of_getElem? U)
   have ai:=(List.getElem?_eq_some_iff.mp U).1
   rw [jX U] at I
   replace I:iV [] J=(if fV 12 kv=false then some 0 else if gL tv=false then some 1 else if iR kv∈((J.take i).map fun kt=>iR kt.1) then some 2 else iV (((J.take i).map fun kt=>iR kt.1)++[iR kv]) (J.drop (i + 1))):=I
   refine⟨p,_,rfl,eW.of (sm _ _ hp),rfl,_,_,rfl,_,_,rfl,rfl,?_⟩
   refine⟨_,rfl,kv,rfl,c1.same sm,c2,fun hg H1 s1=>?_,fun hg H1 s1=>?_⟩
   ·rw [if_neg (by rw [hg];decide)] at I
    have ab:=sm.trans s1
    refine⟨_,rfl,tv,rfl,c3.same ab,c4,fun ae H2 s2=>?_,fun ae H2 s2=>?_⟩
    ·rw [if_neg (by rw [ae];decide)] at I
     have ag:=ab.trans s2
     obtain⟨z,rfl⟩:=rN hg
     have hd2:=s2 _ _ (s1 _ _ aa)
     refine⟨_,rfl,_,rfl,d,_,rfl,ic.k (k:=Sum.inr z) hd2,_,rfl,?_⟩
     by_cases hz:z∈(J.take i).map fun kt=>iR kt.1
     ·obtain⟨v,hv⟩:=Hy hz
      rw [hv]
      refine eN ⟨by show 1<=sizeLine;decide,k2 2 ?_ H2 ag⟩
      rw [I,if_pos (show iR (V.str z)∈_ from hz)]
     ·rw [tK hz]
      rw [if_neg (show ¬ iR (V.str z)∈_ from hz)] at I
      have ah:((J.take i).map fun kt=>iR kt.1).length=i:=by rw [List.length_map,lh U]
      refine eD ⟨_,rfl,d,_,rfl,hd2,_,rfl,_,rfl,d,_,rfl,jG.k (k:=Sum.inr z) hd2 (by rw [ym,ah];omega),?_⟩
      refine⟨_,_,rfl,fun b u e=>?_,?_,?_⟩
      ·rw [eC (fv e hd)]
       exact ag _ _ e
      ·rw [d7,xO _ (tK hz),take_snoc U,List.map_append]
       show some (HO.dK (hJ _++[((Sum.inr z:Key),V.int ((hJ _).length:Int))]))=some (HO.dK (hJ (_++[z])))
       rw [Cg,ym]
      ·rw [I,take_snoc U,List.map_append]
       rfl
    ·rw [if_pos ae] at I
     exact k2 1 I H2 (ab.trans s2)
   ·rw [if_pos hg] at I
    exact k2 0 I H1 (sm.trans s1)
  ·rintro σ H' ⟨o2,o3,rfl,sm,aa,I⟩
   rw [af,List.take_length] at aa
   rw [af,List.drop_length] at I
   exact⟨_,rfl,k1 I d H' sm hd aa⟩
end
end K09
namespace Gn
open PySem L2 PyProof.Rows PySem.Spec
def EW(K:W.Frag):List V->Hp->VK->Prop:=fun xs H Q=>∃ p ys,xs=[.ref p]/\(d4 K H p ys\/eW K H p ys)/\Q (.int ys.length) H
theorem zH{X:Cx}{K:W.Frag}(h:X.K=K):iB X (.builtin "len") (EW K):=by subst h;exact gQ
structure kR (K : W.Frag) (x qual : Str) (st : Stmt) (f : Addr) (fd : FuncData) (items : Array Value) : Prop where
 ex : ∃ (oc : Value) (od : Option Addr) (kV doc pm : Value) (an : Option Addr) (cdv ct : Value) (osl : Array (Option Value)) (T : Addr) (o : Obj) (n : Nat),
  fd = W.fnOf x qual (gF st) (gm st) (er st) (.ref T) kV doc pm an cdv ct /\ K.lookup f = some ⟨oc, od, .func fd, osl⟩ /\ W.codeIn K cdv qual = true /\ K.lookup T = some o /\ o.data = .seq items n
section
variable {P : Program} {w : World} {K : PySem.W.Frag} {mg : Str -> Option Value} {base : Heap}
theorem kR.ok1 {x qual:Str}{st:Stmt}{f:Addr}{fd:FuncData}{items:Array Value}{N ps:List Str}{k:Nat}{sp:Sp}(F:kR K x qual st f fd items)(S:eX N ps (er st))(len:∀ vs H Q E,sp vs H Q E->vs.length=ps.length)
  (hbody:∀(cdv:Value) (A:Around) (outer:List Env) (s:Shared) (H:Hp) (vs:List V) (Q:VK) (E:XK),gn k (A.deeper (envOfC qual (er st) s.heap.objs.size f cdv))->sp vs H Q E->
   ∃ t,eK (gO (eP P w) P w K mg base N qual (er st) f cdv A outer s H E) (gm st) t/\t {nx:=fun _ H'=>Q .non H',rt:=Q} (L2.start N vs) H):d8 P w K mg base (eP P w) (k + 1) f fd ps sp:=by
 obtain⟨oc,od,kV,doc,pm,an,cdv,ct,U,T,o,n,rfl,lk,I,_⟩:=F.ex
 exact qg lk I S len fun A outer s H vs Q E hr J=>hbody cdv A outer s H vs Q E hr J
theorem kR.binds {x qual:Str}{st:Stmt}{f:Addr}{fd:FuncData}{items:Array Value}{ps:List Str}{ds:List Value}(F:kR K x qual st f fd items)
  (h:∀(T:Addr) (kV doc pm:Value) (an:Option Addr) (cdv ct:Value) (us:List Value),(us++ds).length=ps.length->∃ k:Option (Array Value)->Sem (List (Str×Value)),
   bindArgs (W.fnOf x qual (gF st) (gm st) (er st) (.ref T) kV doc pm an cdv ct) ⟨us,[]⟩=seqItems? (.ref T) >>= k/\k (some items)=pure (ps.zip (us++ds))):Binds K fd ps ds:=by
 obtain⟨oc,od,kV,doc,pm,an,cdv,ct,I,T,o,n,rfl,lk,J,U,hd⟩:=F.ex
 intro s us X hl
 obtain⟨k,h1,h2⟩:=h T kV doc pm an cdv ct us hl
 exact BindsTo.of_defaults (T:=T) rfl (X _ _ U) hd h1 h2
end
end Gn
namespace K09
open PySem L2 PyProof.Rows PySem.Spec Gn K04 K01 BK
def ja(dn pa sz dr ri:Addr):List (Str×V):=fA "rising" (.ref ri) (fA "rows" (.ref dr) (fA "sizes" (.ref sz) (fA "pairs" (.ref pa) (fA "numbers" (.ref dn) []))))
section
variable {dn pa sz dr ri : Addr}
theorem vD:(ja dn pa sz dr ri).lookup ("rising":Str)=some (.ref ri):=by
 unfold ja
 rw [gE,if_pos rfl]
theorem FU:(ja dn pa sz dr ri).lookup ("rows":Str)=some (.ref dr):=by
 unfold ja
 rw [gE,if_neg dk,gE,if_pos rfl]
theorem uY:(ja dn pa sz dr ri).lookup ("sizes":Str)=some (.ref sz):=by
 unfold ja
 rw [gE,if_neg dk,gE,if_neg dk,gE,if_pos rfl]
theorem uQ:(ja dn pa sz dr ri).lookup ("pairs":Str)=some (.ref pa):=by
 unfold ja
 rw [gE,if_neg dk,gE,if_neg dk,gE,if_neg dk,gE,if_pos rfl]
theorem vj:(ja dn pa sz dr ri).lookup ("numbers":Str)=some (.ref dn):=by
 unfold ja
 rw [gE,if_neg dk,gE,if_neg dk,gE,if_neg dk,gE,if_neg dk,gE,if_pos rfl]
theorem jj{m:Str}(h1:¬ m="rising")(h2:¬ m="rows")(h3:¬ m="sizes")(h4:¬ m="pairs")(h5:¬ m="numbers"):(ja dn pa sz dr ri).lookup m=none:=by
 unfold ja
 rw [gE,if_neg h1,gE,if_neg h2,gE,if_neg h3,gE,if_neg h4,gE,if_neg h5]
 rfl
end
def tw(z:Str):List Str:=(words (codes z)).map fun x=>(⟨x.1.toArray⟩:Str)
theorem D2(z:Str):om (words (codes z))=sl (tw z):=by
 unfold om sl tw
 rw [List.map_map]
 rfl
def d0(ps:List (Str×Str)):List (List Str):=ps.map fun p=>tw p.2
structure kU (H : Hp) (dr : Addr) (t : List (List Str)) (es : En) : Prop where
 d : H dr = some (.dK (fP es))
 k : (es.map (·.1)).Nodup
 w : ∀ x, x ∈ es.map (·.1) ↔ ∃ ws ∈ t, x ∈ ws
 f : ∀ e ∈ es, H e.2 = some (.lst (nl (pk (rn 0 (rowOf e.1 t 0)))))
theorem kU.same {H H':Hp}{dr:Addr}{t:List (List Str)}{es:En}(h:kU H dr t es)(s:d3 H H'):kU H' dr t es:=⟨s _ _ h.d,h.k,h.w,fun e he=>s _ _ (h.f e he)⟩
structure gc (C : Addr) (H : Hp) (x : Addr) (ps : List (Str × Str)) : Prop where
 ex : ∃ (dx dn pa sz dr ri : Addr) (xs : List V) (es : En) (ts : List Str), H x = some (.ins C dx (ja dn pa sz dr ri)) /\ H dn = some (.dK (hJ (ps.map (·.1)))) /\ H pa = some (.lst xs) /\ fX H xs (ps.map kp) /\
  H sz = some (.lst (nl ((d0 ps).map List.length))) /\ kU H dr (d0 ps) es /\ H ri = some (.lst (sl ts)) /\ ts.Perm (es.map (·.1)) /\ sortedS ts = true
theorem gc.same {C:Addr}{H H':Hp}{x:Addr}{ps:List (Str×Str)}(h:gc C H x ps)(s:d3 H H'):gc C H' x ps:=by
 obtain⟨dx,dn,pa,sz,dr,ri,xs,es,I,h1,h2,J,U,h5,h6,h7,h8,h9⟩:=h.ex
 exact⟨dx,dn,pa,sz,dr,ri,xs,es,I,s _ _ h1,s _ _ h2,s _ _ J,U.same s,s _ _ h5,h6.same s,s _ _ h7,h8,h9⟩
structure iF (K : W.Frag) (mg : Str -> Option Value) (C : Addr) : Prop where
 cl : jt K C
 nN : jf K C "numbers"
 nP : jf K C "pairs"
 nS : jf K C "sizes"
 nR : jf K C "rows"
 nI : jf K C "rising"
 mgC : mg "Book" = some (.ref C)
theorem oX{α:Type} [DecidableEq α]:∀{l m:List α},l.Nodup->(∀ x∈l,x∈m)->l.length<=m.length
 | [],_,_,_=>Nat.zero_le _
 | a::l,m,hn,h=>by
  obtain⟨J,U⟩:=List.nodup_cons.mp hn
  have ha:=h a List.mem_cons_self
  have:=oX (m:=m.erase a) U fun x I=>(List.mem_erase_of_ne fun z=>J (by rw [<-z];exact I)).mpr (h x (List.mem_cons_of_mem _ I))
  rw [List.length_erase_of_mem ha] at this
  have:=List.length_pos_of_mem ha
  rw [List.length_cons]
  omega
def js(t:List (List Str)):Prop:=∃ us:List Str,us.length < 64/\∀ ws∈t,∀ x∈ws,x∈us
def z8(H:Hp)(r:V)(t:List (List Str)):Prop:=r= .non\/∃ d es,r= .ref d/\kU H d t es
section
variable {P : Program} {w : World} {K : PySem.W.Frag} {mg : Str -> Option Value} {base : Heap} {C CK CT CW : Addr}
def qf(K:W.Frag)(C CK CT CW:Addr):Sp:=fun vs H Q E=>∃(x a dx:Addr) (r:V) (xs:List V) (I:List (V×V)),vs=[.ref x,.ref a,r]/\H x=some (.ins C dx [])/\H a=some (.lst xs)/\fX H xs I/\I.length<=300/\(∀ kt∈I,xN K H kt)/\
 (∀ ps,I=ps.map kp->jh ps->gJ (d0 ps)/\js (d0 ps)/\z8 H r (d0 ps))/\
 (∀ i,iV [] I=some i->∀ H',d3 H H'->E (.ref (yE CK CT CW i)) none H')/\
 (∀ ps,I=ps.map kp->jh ps->∀ H',gc C H' x ps->(∀ J,(∀ b u,H' b=some u->(∀ U,H b≠some (.lst U))->J b=some u)->gc C J x ps)->(∀ b u,H b=some u->b≠x->r≠ .ref b->H' b=some u)->Q .non H')
theorem zy:eX ["self","pairs","rows","texts_words"] ["self","pairs","rows"] (er jW):=⟨rfl,rfl,rfl,dk,rfl,dk,dk⟩
theorem vS:(["key","text"]:List Str).Nodup:=dk
theorem HK:(["words"]:List Str).Nodup:=dk
def BV:TE:=fun σ H Q=>∃(a:Addr) (xs:List V) (ps:List (Str×Str)),σ[1]? =some (some (.ref a))/\H a=some (.lst xs)/\fX H xs (ps.map kp)/\ps.length<=300/\(∀ p∈ps,gL (.str p.2)=true)/\
 ∀ l ys H',d3 H H'->H l=none->H' l=some (.lst ys)->kl H' ys (d0 ps)->Q (.ref l) H'
def BS:TE:=fun σ H Q=>∃(a:Addr) (xs:List V) (t:List (List Str)),σ[3]? =some (some (.ref a))/\H a=some (.lst xs)/\kl H xs t/\t.length<=300/\
 ∀ l,H l=none->Q (.ref l) (upd H l (.lst (nl (t.map List.length))))
theorem sf:bootBuiltins "sorted"=some (.builtin "sorted"):=dk
abbrev N4:List Str:=["self","pairs","rows","texts_words"]
seal eK PS PE PT PA PG PI eV eQ in
theorem Dt{f fn fl fr fc:Addr}{fd fdn fdl fdr fdc:FuncData}(F:kR K "__init__" "Book.__init__" jW f fd #[.none])(B:iF K mg C)(T:Txt mg)
  (DN:Df K mg "numbers_by_key" oh fn fdn)(GN:d8 P w K mg base (eP P w) 4 fn fdn ["pairs"] (xB K CK CT CW))
  (DL:Df K mg "plain_words" nT fl fdl)(GL:d8 P w K mg base (eP P w) 5 fl fdl ["text"] (vL K CT))
  (DR:Df K mg "rows_by_word" oJ fr fdr)(GR:d8 P w K mg base eu 7 fr fdr ["texts_words"] wU)
  (DC:Df K mg "copied_rows" oO fc fdc)(GC:d8 P w K mg base eu 1 fc fdc ["rows"] xT):d8 P w K mg base (eP P w) 8 f fd ["self","pairs","rows"] (qf K C CK CT CW):=by
 have bN:=fN (p:="pairs") DN.F fun _ _ _ _ _ _ _=>rfl
 have bL:=fN (p:="text") DL.F fun _ _ _ _ _ _ _=>rfl
 have bR:=fN (p:="texts_words") DR.F fun _ _ _ _ _ _ _=>rfl
 have bC:=fN (p:="rows") DC.F fun _ _ _ _ _ _ _=>rfl
 refine F.ok1 zy (fun vs H Q E h=>?_) (fun cdv A outer s H vs Q E hr h=>?_)
 ·obtain⟨x,a,dx,r,xs,a4,rfl,_⟩:=h
  rfl
 ·obtain⟨x,a,dx,r,xs,a4,rfl,hx,hA,hP,hlen,hk,jR,a5,aj⟩:=h
  have hl:(sizeLine:Nat)=16777216:=sizeLine_eq
  refine⟨_,d6 (ml (pv 0) (eI (GN.mono (by decide)) hr rfl DN.m DN.F.kp bN .nil (iE (E':=E) (fun _ _ _ h=>h)) (dY (pv 1) dZ)) rfl)
   (d6 (ml (pv 0) (jA nq rfl T.list j7 (dY (pv 1) dZ)) rfl)
   (d6 (oP (i:=3) (t':=BV) zy.nd rfl (Or.inl rfl) (own:=2) (caps:=[]) (N:=["key","text"]) (N0:=N4) (sc0:=er jW) rfl (gu (pv 1))
    (fun _ _ _=>iz (n:=2) rfl (gh (eO (i:=0) vS rfl (Or.inl rfl)) (gh (eO (i:=1) vS rfl (Or.inl rfl)) iC))) (fun _ _ _=>iG)
    (fun _ _ _=>eI (GL.mono (by decide)) hr rfl DL.m DL.F.kp bL .nil hV (dY (pv 1) dZ)) (oV (jD (gD (by decide)) (jD (gD (by decide)) pD))) rfl rfl
    dk rfl dk dk rfl dk ?mT)
   (d6 (ml (pv 0) (PE.imp (t':=BS) (ik (own:=1) (caps:=[]) (N:=["words"]) (N0:=N4) (sc0:=er jW) rfl (gu (pv 3))
    (fun _ _ _=>eO (i:=0) HK rfl (Or.inl rfl)) (fun _ _ _=>iG) (fun _ _ _=>fG (zH (K:=K) rfl) rfl T.len gf (dY (pv 0) dZ)) (gD (by decide)) rfl rfl
    dk rfl dk dk rfl dk) ?mS) rfl)
   (d6 (ml (pv 0) (oR (kH (yp (pv 2))) (eI GR hr rfl DR.m DR.F.kp bR .nil eM (dY (pv 3) dZ)) (eI (GC.mono (by decide)) hr rfl DC.m DC.F.kp bC .nil eM (dY (pv 2) dZ))) rfl)
   (d9 (ml (pv 0) (fG (sj rfl) rfl T.sorted sf (dY (ji (pv 0) rfl) dZ)) rfl)))))),?_⟩
  case mT=>
   rintro σ H1 Q1 ⟨a,xs,ps,h1,hA,hP,hlen,bA,q⟩
   have aE:=Gn.Paired.len hP
   rw [List.length_map] at aE
   refine⟨_,h1,a,rfl,⟨_,d4.of hA⟩,iL (xs:=xs) (fun i ys H'=>d3 H1 H'/\kl H' ys (d0 (ps.take i))/\(∀ y∈ys,∃ p,y=V.ref p/\H1 p=none)) (by omega) (fun i ys H' p=>d4.of (p.1 _ _ hA)) ⟨d3.refl _,.nil,(fun y hy=>nomatch hy)⟩ ?_ ?_⟩
   ·rintro i v ys H' N hv ⟨sm,hW,a6⟩ hN
    obtain⟨kt,aw,p,rfl,hp⟩:=gK hP hv
    rw [List.getElem?_map] at aw
    cases hps:ps[i]? with
    | none=>rw [hps] at aw;cases aw
    | some pr=>
     rw [hps] at aw
     have e:kp pr=kt:=Option.some.inj aw
     subst e
     have ht:=bA pr (List.mem_of_getElem? hps)
     have hd:=m4 ht
     refine⟨p,_,rfl,eW.of (sm _ _ hp),rfl,_,_,rfl,_,_,rfl,rfl,qQ ?_⟩
     refine⟨_,rfl,.str pr.2,rfl,⟨_,.str _⟩,(fun z e=>by injection e with e;rw [<-e];have:=hd.1;omega),fun z e bX l H2 s2 hl hL=>?_,fun e=>by rw [ht] at e;cases e⟩
     injection e with e
     subst e
     refine hN _ _ ⟨sm.trans s2,?_,fun y hy=>?_⟩
     ·show kl H2 _ ((ps.take (i + 1)).map _)
      rw [take_snoc hps,List.map_append]
      refine Gn.Paired.app (hW.same s2) ⟨l,rfl,?_⟩
      rw [hL,D2]
     ·rcases List.mem_append.mp hy with hy | hy
      ·exact a6 y hy
      ·rw [List.mem_singleton.mp hy]
       exact⟨l,rfl,sm.free hl⟩
   ·rintro ys H' ⟨sm,hW,_⟩ _ l hl
    rw [aE,List.take_length] at hW
    exact q l ys _ (d3.upd sm hl) (sm.free hl) d7 (hW.same (eh hl))
  case mS=>
   rintro σ H1 Q1 ⟨a,xs,t,h3,hA,hW,hlen,q⟩
   have aE:=Gn.Paired.len hW
   refine⟨_,h3,a,rfl,⟨_,d4.of hA⟩,iL (xs:=xs) (fun i ys H'=>H'=H1/\ys=nl ((t.take i).map List.length)) (by omega) (fun i ys H' p=>by rw [p.1];exact d4.of hA) ⟨rfl,rfl⟩ ?_ ?_⟩
   ·rintro i v ys H' N hv ⟨rfl,rfl⟩ hN
    obtain⟨ws,bB,p,rfl,hp⟩:=gK hW hv
    refine g1 ?_
    refine⟨_,rfl,p,_,rfl,.inl (d4.of hp),hN _ _ ⟨rfl,?_⟩⟩
    rw [take_snoc bB,List.map_append,iw]
    show _++[V.int ((sl ws).length:Nat)]=_
    rw [List.length_map]
    rfl
   ·rintro ys H' ⟨rfl,rfl⟩ _ l hl
    rw [aE,List.take_length]
    exact q l hl
  refine⟨_,rfl,a,xs,a4,rfl,hA,hP,by omega,hk,fun hb dn H1 s1 aF aG=>?_,fun i hi H1 s1=>a5 i hi H1 s1⟩
  obtain⟨ps,rfl,bD,_,g3⟩:=yI hb
  have hg:jh ps:=⟨bD,g3⟩
  obtain⟨aP,⟨us,bY,a7⟩,a8⟩:=jR ps rfl hg
  replace aj:=aj ps rfl hg
  rw [List.length_map] at hlen
  have aS:((ps.map kp).map fun kt=>iR kt.1)=ps.map (·.1):=by rw [List.map_map];rfl
  rw [aS] at aG
  have a9:=s1 _ _ hx
  refine⟨_,rfl,x,C,dx,[],rfl,a9,B.cl,B.nN,(by show 0 < 1000;decide),?_⟩
  have aT:dn≠x:=fun z=>by rw [z,a9] at aG;cases aG
  have ax:SameBut x H (upd H1 x (.ins C dx (fA "numbers" (.ref dn) []))):=fun b u e hb=>by rw [eC hb];exact s1 _ _ e
  have aU:upd H1 x (.ins C dx (fA "numbers" (.ref dn) [])) x=some (.ins C dx (fA "numbers" (.ref dn) [])):=d7
  have ba:upd H1 x (.ins C dx (fA "numbers" (.ref dn) [])) dn=_:=(eC aT).trans aG
  generalize upd H1 x (.ins C dx (fA "numbers" (.ref dn) []))=H2 at ax aU ba ⊢
  have bb:a≠x:=fun z=>by rw [z,hx] at hA;cases hA
  have bE:=ax _ _ hA bb
  have bZ:fX H2 xs (ps.map kp):=Gn.Paired.imp2 hP fun _ _ ⟨p,e,q⟩=>⟨p,e,ax _ _ q fun z=>by rw [z,hx] at q;cases q⟩
  refine⟨_,rfl,a,xs,rfl,.inl (d4.of bE),fun pa bc=>?_⟩
  have s3:d3 H2 (upd H2 pa (.lst xs)):=eh bc
  have aq:upd H2 pa (.lst xs) pa=some (.lst xs):=d7
  generalize upd H2 pa (.lst xs)=H3 at s3 aq ⊢
  have bf:=s3 _ _ aU
  refine⟨_,rfl,x,C,dx,_,rfl,bf,B.cl,B.nP,(by show 1 < 1000;decide),?_⟩
  have bg:pa≠x:=fun z=>by rw [z,bf] at aq;cases aq
  have aH:SameBut x H3 (upd H3 x (.ins C dx (fA "pairs" (.ref pa) (fA "numbers" (.ref dn) [])))):=fun b u e hb=>by rw [eC hb];exact e
  have bh:upd H3 x (.ins C dx (fA "pairs" (.ref pa) (fA "numbers" (.ref dn) []))) x=_:=d7
  generalize upd H3 x (.ins C dx (fA "pairs" (.ref pa) (fA "numbers" (.ref dn) [])))=H4 at aH bh ⊢
  have ar:SameBut x H H4:=(ax.tr s3).trb aH
  have bF:=aH _ _ (s3 _ _ ba) aT
  have bj:=aH _ _ aq bg
  have bG:=ar _ _ hA bb
  have bH:fX H4 xs (ps.map kp):=Gn.Paired.imp2 hP fun _ _ ⟨p,e,q⟩=>⟨p,e,ar _ _ q fun z=>by rw [z,hx] at q;cases q⟩
  refine⟨a,xs,ps,rfl,bG,bH,hlen,fun p hp=>(hg.g p hp).2,fun lt ys H5 s5 b0 aI bo=>?_⟩
  have bp:=ar.tr s5
  have aV:=s5 _ _ bh
  refine⟨lt,ys,d0 ps,rfl,aI,bo,aP.l,fun sz hsz=>?_⟩
  have s6:d3 H5 (upd H5 sz (.lst (nl ((d0 ps).map List.length)))):=eh hsz
  have au:upd H5 sz (.lst (nl ((d0 ps).map List.length))) sz=_:=d7
  generalize upd H5 sz (.lst (nl ((d0 ps).map List.length)))=H6 at s6 au ⊢
  have aW:=s6 _ _ aV
  refine⟨_,rfl,x,C,dx,_,rfl,aW,B.cl,B.nS,(by show 2 < 1000;decide),?_⟩
  have bI:sz≠x:=fun z=>by rw [z,aW] at au;cases au
  have ak:SameBut x H6 (upd H6 x (.ins C dx (fA "sizes" (.ref sz) (fA "pairs" (.ref pa) (fA "numbers" (.ref dn) []))))):=fun b u e hb=>by rw [eC hb];exact e
  have ag:upd H6 x (.ins C dx (fA "sizes" (.ref sz) (fA "pairs" (.ref pa) (fA "numbers" (.ref dn) [])))) x=_:=d7
  generalize upd H6 x (.ins C dx (fA "sizes" (.ref sz) (fA "pairs" (.ref pa) (fA "numbers" (.ref dn) []))))=H7 at ak ag ⊢
  have aX:=s5.trans s6
  have aa:SameBut x H H7:=(ar.tr aX).trb ak
  have bq:=ak _ _ (aX _ _ bF) aT
  have aQ:=ak _ _ (aX _ _ bj) bg
  have aR:=ak _ _ au bI
  have br:fX H7 xs (ps.map kp):=Gn.Paired.imp2 hP fun _ _ ⟨p,e,q⟩=>⟨p,e,aa _ _ q fun z=>by rw [z,hx] at q;cases q⟩
  have bJ:lt≠x:=fun z=>by rw [z,aV] at aI;cases aI
  have bK:=ak _ _ (s6 _ _ aI) bJ
  have bM:kl H7 ys (d0 ps):=Gn.Paired.imp2 (bo.same s6) fun _ _ ⟨p,e,q⟩=>⟨p,e,ak _ _ q fun z=>by rw [z,aW] at q;cases q⟩
  have nr:∀ p l0,H p=some (.lst l0)->r≠ .ref p:=fun p l0 z e=>by
   rcases a8 with e' | ⟨d,es,e',ab⟩
   ·rw [e'] at e;cases e
   ·rw [e'] at e
    injection e with e
    have:=ab.d
    rw [e,z] at this
    cases this
  have nn:∀{b:Addr},H b=none->∀ l0,H b≠some (.lst l0):=fun{b} e l0 z=>by rw [e] at z;cases z
  have last:∀(dr:Addr) (es:En) (H8:Hp),kU H8 dr (d0 ps) es->H8 x=some (.ins C dx (fA "sizes" (.ref sz) (fA "pairs" (.ref pa) (fA "numbers" (.ref dn) []))))->H8 dn=some (.dK (hJ (ps.map (·.1))))->H8 pa=some (.lst xs)->fX H8 xs (ps.map kp)->
    H8 sz=some (.lst (nl ((d0 ps).map List.length)))->(∀ b u,H b=some u->b≠x->r≠ .ref b->H8 b=some u)->(H dr=none/\∀ e∈es,H e.2=none)->∀ σ:L2.St,σ[0]? =some (some (.ref x))->
    yu K (ie 0) (sO (fun xs H Q=>∃(d:Addr) (kvs:List (Key×V)) (ss:List Str),xs=[.ref d]/\Rd H d (.dK kvs)/\kvs.map (·.1)=ss.map Sum.inr/\ss.length < 64/\∀(l:Addr) (ts:List Str),H l=none->ts.Perm ss->sortedS ts=true->Q (.ref l) (upd H l (.lst (ts.map V.str)))) (jd (xc K (ie 0) "rows") jU)) "rising"
     {nx:=fun _ H'=>Q .non H',rt:=Q} σ (upd H8 x (.ins C dx (fA "rows" (.ref dr) (fA "sizes" (.ref sz) (fA "pairs" (.ref pa) (fA "numbers" (.ref dn) [])))))):=by
   intro dr es H8 hR aJ bt bu bO bw bx bP σ h0
   have ae:SameBut x H8 (upd H8 x (.ins C dx (fA "rows" (.ref dr) (fA "sizes" (.ref sz) (fA "pairs" (.ref pa) (fA "numbers" (.ref dn) [])))))):=fun b u e hb=>by rw [eC hb];exact e
   have aK:upd H8 x (.ins C dx (fA "rows" (.ref dr) (fA "sizes" (.ref sz) (fA "pairs" (.ref pa) (fA "numbers" (.ref dn) []))))) x=_:=d7
   generalize upd H8 x (.ins C dx (fA "rows" (.ref dr) (fA "sizes" (.ref sz) (fA "pairs" (.ref pa) (fA "numbers" (.ref dn) [])))))=H9 at ae aK ⊢
   have av:∀{b:Addr} {u:HO},H8 b=some u->(∀ C dx fs,u≠ .ins C dx fs)->b≠x:=fun{b u} e n z=>by rw [z,aJ] at e;exact n _ _ _ (Option.some.inj e).symm
   have aL:kU H9 dr (d0 ps) es:=⟨ae _ _ hR.d (av hR.d (by intro _ _ _ z;cases z)),hR.k,hR.w,fun e he=>ae _ _ (hR.f e he) (av (hR.f e he) (by intro _ _ _ z;cases z))⟩
   refine⟨_,h0,x,C,dx,_,.ref dr,rfl,aK,B.cl,B.nR,(by rw [gE,if_pos rfl]),dr,fP es,es.map (·.1),rfl,.inl aL.d,rL es,?_,fun ri ts aM ay az=>?_⟩
   ·have:=oX aL.k (m:=us) fun y hy=>by
     obtain⟨ws,h1,h2⟩:=(aL.w y).mp hy
     exact a7 ws h1 y h2
    rw [List.length_map] at this ⊢
    omega
   ·have ah:d3 H9 (upd H9 ri (.lst (sl ts))):=eh aM
    have ao:upd H9 ri (.lst (sl ts)) ri=_:=d7
    have aA:=ah _ _ aK
    refine⟨_,h0,x,C,dx,_,rfl,aA,B.cl,B.nI,(by show 4 < 1000;decide),?_⟩
    have aN:ri≠x:=fun z=>by rw [z,aK] at aM;cases aM
    have aB:=ah _ _ (ae _ _ bt (av bt (by intro _ _ _ z;cases z)))
    have aC:=ah _ _ (ae _ _ bu (av bu (by intro _ _ _ z;cases z)))
    have aD:=ah _ _ (ae _ _ bw (av bw (by intro _ _ _ z;cases z)))
    have aY:fX _ xs (ps.map kp):=fX.same (H:=H9) (Gn.Paired.imp2 bO fun _ _ ⟨p,e,q⟩=>⟨p,e,ae _ _ q (av q (by intro _ _ _ z;cases z))⟩) ah
    have J:=aL.same ah
    have fr:∀ b u,H b=some u->b≠x->r≠ .ref b->(upd H9 ri (.lst (sl ts))) b=some u:=fun b u e n1 n2=>ah _ _ (ae _ _ (bx b u e n1 n2) n1)
    have bQ:∀ l0,H ri≠some (.lst l0):=fun l0 z=>by
     have:=ae _ _ (bx ri _ z aN (nr ri l0 z)) aN
     rw [aM] at this
     cases this
    generalize upd H9 ri (.lst (sl ts))=aZ at ah ao aA aB aC aD aY J fr ⊢
    have I:SameBut x aZ (upd aZ x (.ins C dx (ja dn pa sz dr ri))):=fun b u e hb=>by rw [eC hb];exact e
    have U:∀{b:Addr} {u:HO},aZ b=some u->(∀ C dx fs,u≠ .ins C dx fs)->b≠x:=fun{b u} e n z=>by rw [z,aA] at e;exact n _ _ _ (Option.some.inj e).symm
    refine aj _ ⟨dx,dn,pa,sz,dr,ri,xs,es,ts,d7,I _ _ aB (U aB (by intro _ _ _ z;cases z)),I _ _ aC (U aC (by intro _ _ _ z;cases z)),?_,I _ _ aD (U aD (by intro _ _ _ z;cases z)),?_,I _ _ ao aN,ay,az⟩ (fun b1 hU=>?_) fun b u e n1 n2=>I _ _ (fr b u e n1 n2) n1
    ·exact Gn.Paired.imp2 aY fun _ _ ⟨p,e,q⟩=>⟨p,e,I _ _ q (U q (by intro _ _ _ z;cases z))⟩
    ·exact⟨I _ _ J.d (U J.d (by intro _ _ _ z;cases z)),J.k,J.w,fun e he=>I _ _ (J.f e he) (U (J.f e he) (by intro _ _ _ z;cases z))⟩
    ·obtain⟨w1,w2⟩:=bP
     refine⟨dx,dn,pa,sz,dr,ri,xs,es,ts,hU _ _ d7 (fun l0 z=>by rw [hx] at z;cases z),hU _ _ (I _ _ aB (U aB (by intro _ _ _ z;cases z))) (nn aF),hU _ _ (I _ _ aC (U aC (by intro _ _ _ z;cases z))) (nn (ax.free aU bc)),?_,hU _ _ (I _ _ aD (U aD (by intro _ _ _ z;cases z))) (nn (bp.free aV hsz)),?_,hU _ _ (I _ _ ao aN) bQ,ay,az⟩
     ·exact Gn.Paired.imp2 aY fun _ _ ⟨p,e,q⟩=>⟨p,e,hU _ _ (I _ _ q (U q (by intro _ _ _ z;cases z))) (fun l0 z=>by
       have:=fr p _ z (fun y=>by rw [y,hx] at z;cases z) (nr p l0 z)
       rw [q] at this
       cases this)⟩
     ·exact⟨hU _ _ (I _ _ J.d (U J.d (by intro _ _ _ z;cases z))) (nn w1),J.k,J.w,fun e he=>hU _ _ (I _ _ (J.f e he) (U (J.f e he) (by intro _ _ _ z;cases z))) (nn (w2 e he))⟩
  refine⟨_,rfl,_,rfl,?_⟩
  rcases a8 with rfl | ⟨d,es,rfl,ab⟩
  ·refine eN ⟨_,rfl,lt,ys,d0 ps,rfl,bK,bM,aP,fun dr es H8 s8 a0 af _ bS=>?_⟩
   refine⟨_,rfl,x,C,dx,_,rfl,s8 _ _ ag,B.cl,B.nR,(by show 3 < 1000;decide),?_⟩
   exact last dr es H8 ⟨af.d,af.k,bS,af.f⟩ (s8 _ _ ag) (s8 _ _ bq) (s8 _ _ aQ) (br.same s8) (s8 _ _ aR) (fun b u e n1 _=>s8 _ _ (aa _ _ e n1)) ⟨aa.free ag a0,fun e he=>aa.free ag (af.n e he)⟩ _ rfl
  ·have bT:d≠x:=fun z=>by have:=ab.d;rw [z,hx] at this;cases this
   have ai:kU H7 d (d0 ps) es:=⟨aa _ _ ab.d bT,ab.k,ab.w,fun e he=>aa _ _ (ab.f e he) fun z=>by have:=ab.f e he;rw [z,hx] at this;cases this⟩
   have bz:es.length<=3000:=by
    have:=oX ab.k (m:=us) fun y hy=>by
     obtain⟨ws,h1,h2⟩:=(ab.w y).mp hy
     exact a7 ws h1 y h2
    rw [List.length_map] at this
    omega
   refine eD ⟨_,rfl,d,es,fun y=>nl (pk (rn 0 (rowOf y (d0 ps) 0))),rfl,ai.d,ai.k,bz,ai.f,fun dr bU H8 a3 a0 af bV=>?_⟩
   have aO:∀{b:Addr} {u:HO},H7 b=some u->(∀ kvs,u≠ .dK kvs)->H8 b=some u:=fun{b u} e n=>a3 _ _ e fun z=>by rw [z,ai.d] at e;exact n _ (Option.some.inj e).symm
   have aJ:=aO ag (by intro _ z;cases z)
   refine⟨_,rfl,x,C,dx,_,rfl,aJ,B.cl,B.nR,(by show 3 < 1000;decide),?_⟩
   have bW:dn≠d:=fun z=>by rw [z] at aF;rw [ab.d] at aF;cases aF
   refine last dr bU H8 ⟨af.d,af.k,fun y=>by rw [bV];exact ai.w y,af.f⟩ aJ (a3 _ _ bq bW) (aO aQ (by intro _ z;cases z)) ?_ (aO aR (by intro _ z;cases z)) (fun b u e n1 n2=>a3 _ _ (aa _ _ e n1) fun z=>n2 (by rw [z])) ⟨aa.free ag a0,fun e he=>aa.free ag (af.n e he)⟩ _ rfl
   exact Gn.Paired.imp2 br fun _ _ ⟨p,e,q⟩=>⟨p,e,aO q (by intro _ z;cases z)⟩
end
section
variable {P : Program} {w : World} {K : PySem.W.Frag} {mg : Str -> Option Value} {base : Heap} {C CN CNo CW : Addr}
def o9(C:Addr):Sp:=fun vs H Q _=>∃(x:Addr) (ps:List (Str×Str)),vs=[.ref x]/\gc C H x ps/\Q (.int (ps.length:Int)) H
theorem Hj:eX ["self"] ["self"] (er jO):=⟨rfl,rfl,rfl,dk,rfl,dk,dk⟩
seal eK PS PE PT PA PG PI eV eQ in
theorem Gg{f:Addr}{fd:FuncData}(F:fD K "many" "Book.many" jO f fd)(B:iF K mg C)(T:Txt mg):d8 P w K mg base eu 1 f fd ["self"] (o9 C):=by
 refine F.ok Hj (fun vs H Q E h=>?_) (fun cdv A outer s H vs Q E hr h=>?_)
 ·obtain⟨x,ps,rfl,_⟩:=h
  rfl
 ·obtain⟨x,ps,rfl,J,k⟩:=h
  obtain⟨dx,dn,pa,sz,dr,ri,xs,es,ts,h1,h2,U,h4,h5,h6,h7,h8,h9⟩:=J.ex
  have I:=Gn.Paired.len h4
  rw [List.length_map] at I
  refine⟨_,d9 (eG (fG gQ rfl T.len gf (dY (ji (pv 0) rfl) dZ))),?_⟩
  refine⟨_,rfl,x,C,dx,_,_,rfl,h1,B.cl,B.nP,uQ,pa,_,rfl,.inl (d4.of U),?_⟩
  rw [I]
  exact k
def xM(K:W.Frag)(C CN:Addr):Sp:=fun vs H Q E=>∃(x:Addr) (ps:List (Str×Str)) (v:V),vs=[.ref x,v]/\gc C H x ps/\Known K H v/\
 (g4 v 0 (some ((ps.length:Int) - 1))=true->Q v H)/\(g4 v 0 (some ((ps.length:Int) - 1))=false->E (.ref CN) none H)
theorem E1:eX ["self","number"] ["self","number"] (er lH):=⟨rfl,rfl,rfl,dk,rfl,dk,dk⟩
seal eK PS PE PT PA PG PI eV eQ in
theorem Hd{f fm fn:Addr}{fd fdm fdn:FuncData}(F:fD K "need_own" "Book.need_own" lH f fd)(B:iF K mg C)(FM:fD K "many" "Book.many" jO fm fdm)(mM:Meth K C "many" fm)(GM:d8 P w K mg base eu 1 fm fdm ["self"] (o9 C))
  (DN:ir K mg "need_number" kS fn fdn #[.none])(GN:d8 P w K mg base (eP P w) 2 fn fdn ["thing","least","most"] (tW K CN)):d8 P w K mg base (eP P w) 3 f fd ["self","number"] (xM K C CN):=by
 have bM:=FM.binds (ps:=["self"]) fun _ _ _ _ _ _ us I=>match us,I with | [_],_=>rfl
 have bN:=DN.binds (ps:=["thing","least","most"]) (ds:=[]) fun T kV doc pm an cdv ct us I=>match us,(show us.length=3 by simpa using I) with | [_,_,_],_=>⟨_,rfl,rfl⟩
 refine F.ok1 E1 (fun vs H Q E h=>?_) (fun cdv A outer s H vs Q E J h=>?_)
 ·obtain⟨x,ps,v,rfl,_⟩:=h
  rfl
 ·obtain⟨x,ps,v,rfl,U,hk,k1,k2⟩:=h
  obtain⟨dx,dn,pa,sz,dr,ri,xs,es,ts,h1,_⟩:=U.ex
  refine⟨_,d9 (eG (eI GN J rfl DN.m DN.kp bN .nil (iE (E':=E) (fun _ _ _ h=>h)) (dY (pv 1) (dY d5 (dY (ek jc (kW (pv 0) B.cl mM (GM.mono (by decide)) J bM .nil eM) d5) dZ))))),?_⟩
  refine⟨_,rfl,_,rfl,x,dx,_,rfl,h1,jj dk dk dk dk dk,?_⟩
  refine⟨x,ps,rfl,U,_,_,rfl,rfl,?_⟩
  exact⟨v,0,some ((ps.length:Int) - 1),rfl,hk,k1,k2⟩
theorem pH{v:V}{n:Nat}(h:g4 v 0 (some ((n:Int) - 1))=true):∃ j:Nat,v= .int (j:Int)/\j < n:=by
 cases v<;>first | cases h | skip
 rename_i i
 have h':(decide ((0:Int)<=i) && decide (i<=(n:Int) - 1))=true:=h
 rw [Bool.and_eq_true] at h'
 have h1:=of_decide_eq_true h'.1
 have h2:=of_decide_eq_true h'.2
 exact⟨i.toNat,by rw [Int.toNat_of_nonneg h1],by omega⟩
def nG(K:W.Frag)(C CN:Addr)(sel:Str×Str->Str):Sp:=fun vs H Q E=>∃(x:Addr) (ps:List (Str×Str)) (v:V),vs=[.ref x,v]/\gc C H x ps/\Known K H v/\
 (∀(j:Nat) p,v= .int (j:Int)->ps[j]? =some p->Q (.str (sel p)) H)/\(g4 v 0 (some ((ps.length:Int) - 1))=false->E (.ref CN) none H)
theorem Gx:eX ["self","number"] ["self","number"] (er kL):=⟨rfl,rfl,rfl,dk,rfl,dk,dk⟩
theorem Fw:eX ["self","number"] ["self","number"] (er kz):=⟨rfl,rfl,rfl,dk,rfl,dk,dk⟩
theorem Bj:eX ["self","number"] ["self","number"] (er lW):=⟨rfl,rfl,rfl,dk,rfl,dk,dk⟩
section
variable {fo : Addr} {fdo : FuncData} (FO : fD K "need_own" "Book.need_own" lH fo fdo) (mO : Meth K C "need_own" fo) (GO : d8 P w K mg base (eP P w) 3 fo fdo ["self", "number"] (xM K C CN)) (B : iF K mg C)
include FO mO GO B
seal eK PS PE PT PA PG PI eV eQ in
theorem C8{f:Addr}{fd:FuncData}(F:fD K "key_of" "Book.key_of" kL f fd):d8 P w K mg base (eP P w) 4 f fd ["self","number"] (nG K C CN (·.1)):=by
 have bO:=FO.binds (ps:=["self","number"]) fun _ _ _ _ _ _ us hl=>match us,hl with | [_,_],_=>rfl
 refine F.ok1 Gx (fun vs H Q E h=>?_) (fun cdv A outer s H vs Q E hr h=>?_)
 ·obtain⟨x,ps,v,rfl,_⟩:=h
  rfl
 ·obtain⟨x,ps,v,rfl,J,hk,k1,k2⟩:=h
  obtain⟨dx,dn,pa,sz,dr,ri,xs,es,ts,h1,h2,h3,h4,_⟩:=J.ex
  refine⟨_,d9 (eG (fb iu (fb fS (ji (pv 0) rfl) (iO (pv 0) B.cl mO GO hr bO .nil (iE (E':=E) (fun _ _ _ h=>h)) (dY (pv 1) dZ)) (fun _ _=>rfl)) d5 (fun _ _=>rfl))),?_⟩
  refine⟨_,rfl,x,C,dx,_,_,rfl,h1,B.cl,B.nP,uQ,_,rfl,x,dx,_,rfl,h1,jj dk dk dk dk dk,_,rfl,?_⟩
  refine⟨x,ps,v,rfl,J,hk,fun hg=>?_,k2⟩
  obtain⟨j,rfl,hj⟩:=pH hg
  have U:ps[j]? =some ps[j]:=List.getElem?_eq_getElem hj
  obtain⟨y,hy,p,rfl,I⟩:=Gn.Paired.at h4 (i:=j) (by rw [List.getElem?_map,U];rfl)
  exact⟨pa,_,_,_,rfl,rfl,d4.of h3,fC hy,p,_,_,_,rfl,rfl,eW.of I,fC (j:=0) rfl,k1 j _ rfl U⟩
seal eK PS PE PT PA PG PI eV eQ in
theorem EU{f:Addr}{fd:FuncData}(F:fD K "text_of" "Book.text_of" kz f fd):d8 P w K mg base (eP P w) 4 f fd ["self","number"] (nG K C CN (·.2)):=by
 have bO:=FO.binds (ps:=["self","number"]) fun _ _ _ _ _ _ us hl=>match us,hl with | [_,_],_=>rfl
 refine F.ok1 Fw (fun vs H Q E h=>?_) (fun cdv A outer s H vs Q E hr h=>?_)
 ·obtain⟨x,ps,v,rfl,_⟩:=h
  rfl
 ·obtain⟨x,ps,v,rfl,J,hk,k1,k2⟩:=h
  obtain⟨dx,dn,pa,sz,dr,ri,xs,es,ts,h1,h2,h3,h4,_⟩:=J.ex
  refine⟨_,d9 (eG (fb iu (fb fS (ji (pv 0) rfl) (iO (pv 0) B.cl mO GO hr bO .nil (iE (E':=E) (fun _ _ _ h=>h)) (dY (pv 1) dZ)) (fun _ _=>rfl)) d5 (fun _ _=>rfl))),?_⟩
  refine⟨_,rfl,x,C,dx,_,_,rfl,h1,B.cl,B.nP,uQ,_,rfl,x,dx,_,rfl,h1,jj dk dk dk dk dk,_,rfl,?_⟩
  refine⟨x,ps,v,rfl,J,hk,fun hg=>?_,k2⟩
  obtain⟨j,rfl,hj⟩:=pH hg
  have U:ps[j]? =some ps[j]:=List.getElem?_eq_getElem hj
  obtain⟨y,hy,p,rfl,I⟩:=Gn.Paired.at h4 (i:=j) (by rw [List.getElem?_map,U];rfl)
  exact⟨pa,_,_,_,rfl,rfl,d4.of h3,fC hy,p,_,_,_,rfl,rfl,eW.of I,fC (j:=1) rfl,k1 j _ rfl U⟩
def y6(K:W.Frag)(C CN:Addr):Sp:=fun vs H Q E=>∃(x:Addr) (ps:List (Str×Str)) (v:V),vs=[.ref x,v]/\gc C H x ps/\Known K H v/\
 (∀(j:Nat) p,v= .int (j:Int)->ps[j]? =some p->Q (.int ((tw p.2).length:Int)) H)/\(g4 v 0 (some ((ps.length:Int) - 1))=false->E (.ref CN) none H)
seal eK PS PE PT PA PG PI eV eQ in
theorem FY{f:Addr}{fd:FuncData}(F:fD K "size_of" "Book.size_of" lW f fd):d8 P w K mg base (eP P w) 4 f fd ["self","number"] (y6 K C CN):=by
 have U:=FO.binds (ps:=["self","number"]) fun _ _ _ _ _ _ us hl=>match us,hl with | [_,_],_=>rfl
 refine F.ok1 Bj (fun vs H Q E h=>?_) (fun cdv A outer s H vs Q E hr h=>?_)
 ·obtain⟨x,ps,v,rfl,_⟩:=h
  rfl
 ·obtain⟨x,ps,v,rfl,I,hk,k1,k2⟩:=h
  obtain⟨dx,dn,pa,sz,dr,ri,xs,es,ts,h1,h2,h3,h4,h5,_⟩:=I.ex
  refine⟨_,d9 (eG (fb fS (ji (pv 0) rfl) (iO (pv 0) B.cl mO GO hr U .nil (iE (E':=E) (fun _ _ _ h=>h)) (dY (pv 1) dZ)) (fun _ _=>rfl))),?_⟩
  refine⟨_,rfl,x,C,dx,_,_,rfl,h1,B.cl,B.nS,uY,_,rfl,x,dx,_,rfl,h1,jj dk dk dk dk dk,_,rfl,?_⟩
  refine⟨x,ps,v,rfl,I,hk,fun hg=>?_,k2⟩
  obtain⟨j,rfl,hj⟩:=pH hg
  have J:ps[j]? =some ps[j]:=List.getElem?_eq_getElem hj
  refine⟨sz,_,_,_,rfl,rfl,d4.of h5,fC (j:=j) (v:= .int ((tw ps[j].2).length:Int)) ?_,k1 j _ rfl J⟩
  unfold d0
  rw [List.getElem?_map,List.getElem?_map,List.getElem?_map,J]
  rfl
end
theorem vY:∀(ks:List Str) (n j:Nat) (z:Str),ks.Nodup->ks[j]? =some z->fH ((ks.zipIdx n).map fun p=>((Sum.inr p.1:Key),V.int (p.2:Int))) (Sum.inr z)=some (.int ((n + j:Nat):Int))
 | [],_,j,_,_,h=>by cases j<;>cases h
 | x::r,n,0,z,_,h=>by
  have e:x=z:=Option.some.inj h
  subst e
  exact jk (p:=((Sum.inr x:Key),V.int (n:Int))) rfl
 | x::r,n,j + 1,z,hn,h=>by
  obtain⟨J,U⟩:=List.nodup_cons.mp hn
  have h':r[j]? =some z:=h
  have I:¬ x=z:=fun e=>J (by rw [e];exact List.mem_of_getElem? h')
  have:=vY r (n + 1) j z U h'
  show fH (((Sum.inr x:Key),V.int (n:Int))::(r.zipIdx (n + 1)).map fun p=>((Sum.inr p.1:Key),V.int (p.2:Int))) (Sum.inr z)=_
  rw [jb (fun e=>I (Sum.inr.inj e)),this]
  congr 3
  omega
theorem xP{ks:List Str}{j:Nat}{z:Str}(hn:ks.Nodup)(h:ks[j]? =some z):fH (hJ ks) (Sum.inr z)=some (.int (j:Int)):=by
 have:=vY ks 0 j z hn h
 rw [Nat.zero_add] at this
 exact this
def vq(K:W.Frag)(C CNo:Addr):Sp:=fun vs H Q E=>∃(x:Addr) (ps:List (Str×Str)) (v:V),vs=[.ref x,v]/\gc C H x ps/\Known K H v/\iH v/\(∀ p∈ps,fV 12 (.str p.1)=true)/\(ps.map (·.1)).Nodup/\
 (∀(j:Nat) z H',v= .str z->(ps.map (·.1))[j]? =some z->d3 H H'->Q (.int (j:Int)) H')/\((∀ z,v= .str z->z∉ps.map (·.1))->∀ H',d3 H H'->E (.ref CNo) none H')
theorem BL:eX ["self","key"] ["self","key"] (er lB):=⟨rfl,rfl,rfl,dk,rfl,dk,dk⟩
seal eK PS PE PT PA PG PI eV eQ in
theorem zZ{f fk:Addr}{fd fdk:FuncData}(F:fD K "number_of" "Book.number_of" lB f fd)(B:iF K mg C)(DK:Df K mg "is_key" ng fk fdk)(GK:d8 P w K mg base eu 2 fk fdk ["thing"] (pW K 12))(X:Ex K mg "NoText" CNo):d8 P w K mg base (eP P w) 3 f fd ["self","key"] (vq K C CNo):=by
 have bK:=fN (p:="thing") DK.F fun _ _ _ _ _ _ _=>rfl
 refine F.ok1 BL (fun vs H Q E h=>?_) (fun cdv A outer s H vs Q E hr h=>?_)
 ·obtain⟨x,ps,v,rfl,_⟩:=h
  rfl
 ·obtain⟨x,ps,v,rfl,hB,hk,I,J,U,k1,k2⟩:=h
  have hu:=jZ hr
  refine⟨_,d6 (fE (PW.pt (gU (gH (gC (eI GK hr rfl DK.m DK.F.kp bK .nil eM (dY (pv 1) dZ)))) (ip (kH (zG hu (pv 1) (ji (pv 0) rfl))))))
    (d9 (ki rfl X.q PySem.F.excBase_ValueError dk PySem.F.excBase_ValueError rfl X.m (dY fF dZ) kr)) fB)
   (d9 (eG (oK hu (ji (pv 0) rfl) (pv 1) (fun _ _=>rfl)))),?_⟩
  refine⟨_,rfl,v,rfl,hk,I,fun H1 s1=>?_⟩
  obtain⟨dx,dn,pa,sz,dr,ri,xs,es,ts,h1,h2,h3,h4,_⟩:=(hB.same s1).ex
  refine⟨_,rfl,?_⟩
  cases hr12:fV 12 v with
  | false=>
   refine eN (eN ⟨by show 1<=sizeLine;decide,k2 (fun z e hz=>?_) H1 s1⟩)
   obtain⟨p,hp,e2⟩:=List.mem_map.mp hz
   have:=J p hp
   rw [e2,<-e,hr12] at this
   cases this
  | true=>
   obtain⟨z,rfl⟩:=rN hr12
   refine eD ⟨_,rfl,_,rfl,x,C,dx,_,_,rfl,h1,B.cl,B.nN,vj,dn,_,rfl,ic.k (k:=Sum.inr z) h2,_,rfl,?_⟩
   by_cases hz:z∈ps.map (·.1)
   ·obtain⟨j,hj⟩:=List.getElem?_of_mem hz
    rw [xP U hj]
    exact eD ⟨_,rfl,x,C,dx,_,_,rfl,h1,B.cl,B.nN,vj,_,rfl,dn,_,rfl,.inl ⟨_,Sum.inr z,.inl h2,rfl,(xP U hj).symm⟩,k1 j z H1 rfl hj s1⟩
   ·rw [tK hz]
    exact eN ⟨by show 1<=sizeLine;decide,k2 (fun y e=>by injection e with e;rw [<-e];exact hz) H1 s1⟩
def sy(C:Addr):Sp:=fun vs H Q _=>∃(x:Addr) (ps:List (Str×Str)),vs=[.ref x]/\gc C H x ps/\∀ l I H',d3 H H'->H l=none->H' l=some (.lst (sl I))->I.Nodup->(∀ y,y∈I↔∃ ws∈d0 ps,y∈ws)->sortedS I=true->Q (.ref l) H'
theorem Fb:eX ["self"] ["self"] (er kK):=⟨rfl,rfl,rfl,dk,rfl,dk,dk⟩
seal eK PS PE PT PA PG PI eV eQ in
theorem Cz{f:Addr}{fd:FuncData}(F:fD K "words" "Book.words" kK f fd)(B:iF K mg C)(T:Txt mg):d8 P w K mg base eu 1 f fd ["self"] (sy C):=by
 refine F.ok Fb (fun vs H Q E h=>?_) (fun cdv A outer s H vs Q E hr h=>?_)
 ·obtain⟨x,ps,rfl,_⟩:=h
  rfl
 ·obtain⟨x,ps,rfl,hB,k⟩:=h
  obtain⟨dx,dn,pa,sz,dr,ri,xs,es,ts,h1,h2,h3,h4,h5,I,h7,J,h9⟩:=hB.ex
  refine⟨_,d9 (eG (jA nq rfl T.list j7 (dY (ji (pv 0) rfl) dZ))),?_⟩
  refine⟨_,rfl,x,C,dx,_,_,rfl,h1,B.cl,B.nI,vD,ri,_,rfl,.inl (d4.of h7),fun l U=>?_⟩
  exact k l ts _ (eh U) U d7 (J.nodup_iff.mpr I.k) (fun y=>by rw [J.mem_iff];exact I.w y) h9
def tY(ps:List (Str×Str))(z:Str):List Nat:=pk (rn 0 (rowOf z (d0 ps) 0))
def qP(K:W.Frag)(C CW:Addr):Sp:=fun vs H Q E=>∃(x:Addr) (ps:List (Str×Str)) (v:V),vs=[.ref x,v]/\gc C H x ps/\Known K H v/\iH v/\
 (∀ z l H',v= .str z->fV 2000 v=true->d3 H H'->H l=none->H' l=some (.lst (nl (tY ps z)))->Q (.ref l) H')/\(fV 2000 v=false->∀ H',d3 H H'->E (.ref CW) none H')
theorem DJ:eX ["self","word"] ["self","word"] (er j8):=⟨rfl,rfl,rfl,dk,rfl,dk,dk⟩
seal eK PS PE PT PA PG PI eV eQ in
theorem G9{f fw:Addr}{fd fdw:FuncData}(F:fD K "parts_of" "Book.parts_of" j8 f fd)(B:iF K mg C)(DW:Df K mg "need_word" m8 fw fdw)(GW:d8 P w K mg base (eP P w) 3 fw fdw ["thing"] (kC K (fV 2000) CW))(T:Txt mg):d8 P w K mg base (eP P w) 4 f fd ["self","word"] (qP K C CW):=by
 have bW:=fN (p:="thing") DW.F fun _ _ _ _ _ _ _=>rfl
 refine F.ok1 DJ (fun vs H Q E h=>?_) (fun cdv A outer s H vs Q E hr h=>?_)
 ·obtain⟨x,ps,v,rfl,_⟩:=h
  rfl
 ·obtain⟨x,ps,v,rfl,hB,hk,J,k1,k2⟩:=h
  have hu:=jZ hr
  obtain⟨dx,dn,pa,sz,dr,ri,xs,es,ts,h1,h2,h3,h4,h5,h6,h7,h8,h9⟩:=hB.ex
  refine⟨_,d9 (eG (jA nq rfl T.list j7 (dY (gj PySem.F.plainAttrs_dict PySem.F.slot_dict_get PySem.F.type_dict_get (vf hu) (ji (pv 0) rfl)
   (dY (eI GW hr rfl DW.m DW.F.kp bW .nil (iE (E':=E) (fun _ _ _ h=>h)) (dY (pv 1) dZ)) (dY (fJ dZ) dZ))) dZ))),?_⟩
  refine⟨_,rfl,x,C,dx,_,_,rfl,h1,B.cl,B.nR,FU,rQ h6.d,_,rfl,v,rfl,hk,J,fun U H1 s1=>?_,fun U H1 s1=>k2 U H1 s1⟩
  obtain⟨z,rfl⟩:=rN U
  refine⟨(by show 0<=sizeLine;decide),fun q hq=>?_⟩
  have s2:d3 H1 (upd H1 q (.lst [])):=eh hq
  have aa:upd H1 q (.lst []) q=some (.lst []):=d7
  generalize upd H1 q (.lst [])=H2 at s2 aa ⊢
  have I:=s1.trans s2
  refine⟨dr,.str z,.ref q,_,rfl,rfl,ic.k (k:=Sum.inr z) (I _ _ h6.d),?_⟩
  by_cases hz:z∈es.map (·.1)
  ·obtain⟨a,e1,e2⟩:=rE hz
   rw [e1]
   refine⟨a,_,rfl,.inl (d4.of (I _ _ (h6.f _ e2))),fun l hl=>k1 z l _ rfl U (I.trans (eh hl)) (I.free hl) d7⟩
  ·rw [oF hz]
   have h0:tY ps z=[]:=by
    unfold tY
    rw [(kT z (d0 ps) 0).mpr fun ws hw q=>hz ((h6.w z).mpr ⟨ws,hw,q⟩)]
    rfl
   refine⟨q,_,rfl,.inl (d4.of aa),fun l hl=>k1 z l _ rfl U (I.trans (eh hl)) (I.free hl) ?_⟩
   rw [d7,h0]
   rfl
def uj(K:W.Frag)(C CW:Addr):Sp:=fun vs H Q E=>∃(x:Addr) (ps:List (Str×Str)) (v:V),vs=[.ref x,v]/\gc C H x ps/\gJ (d0 ps)/\Known K H v/\iH v/\
 (∀ z l H',v= .str z->fV 2000 v=true->d3 H H'->H l=none->fj H' l (rowOf z (d0 ps) 0)->Q (.ref l) H')/\(fV 2000 v=false->∀ H',d3 H H'->E (.ref CW) none H')
theorem C9:eX ["self","word"] ["self","word"] (er kJ):=⟨rfl,rfl,rfl,dk,rfl,dk,dk⟩
seal eK PS PE PT PA PG PI eV eQ in
theorem DQ{f fp fu:Addr}{fd fdp fdu:FuncData}(F:fD K "row_of" "Book.row_of" kJ f fd)(B:iF K mg C)(FP:fD K "parts_of" "Book.parts_of" j8 fp fdp)(mP:Meth K C "parts_of" fp)(GP:d8 P w K mg base (eP P w) 4 fp fdp ["self","word"] (qP K C CW))
  (DU:Df K mg "unpacked_row" nh fu fdu)(GU:d8 P w K mg base eu 4 fu fdu ["parts"] sL):d8 P w K mg base (eP P w) 5 f fd ["self","word"] (uj K C CW):=by
 have bP:=FP.binds (ps:=["self","word"]) fun _ _ _ _ _ _ us J=>match us,J with | [_,_],_=>rfl
 have bU:=fN (p:="parts") DU.F fun _ _ _ _ _ _ _=>rfl
 refine F.ok1 C9 (fun vs H Q E h=>?_) (fun cdv A outer s H vs Q E U h=>?_)
 ·obtain⟨x,ps,v,rfl,_⟩:=h
  rfl
 ·obtain⟨x,ps,v,rfl,hB,hF,hk,I,k1,k2⟩:=h
  obtain⟨dx,dn,pa,sz,dr,ri,xs,es,ts,h1,_⟩:=hB.ex
  refine⟨_,d9 (eG (eI GU U rfl DU.m DU.F.kp bU .nil eM (dY (iO (pv 0) B.cl mP GP U bP .nil (iE (E':=E) (fun _ _ _ h=>h)) (dY (pv 1) dZ)) dZ))),?_⟩
  refine⟨_,rfl,x,dx,_,rfl,h1,jj dk dk dk dk dk,_,rfl,?_⟩
  refine⟨x,ps,v,rfl,hB,hk,I,fun z l H1 e hg s1 J hL=>?_,k2⟩
  subst e
  exact⟨l,rowOf z (d0 ps) 0,rfl,hL,gJ.ok z,hF.sz z,fun p H2 s2 hp hR=>k1 z p H2 rfl hg (s1.trans s2) (s1.free hp) hR⟩
end
theorem yF:∀ cs:List Nat,PySem.Str.join (Str.ofString "") (cs.map fun c=>(⟨#[c]⟩:Str))=⟨cs.toArray⟩
 | []=>rfl
 | [c]=>rfl
 | c::d::r=>by
  show(⟨[c].toArray⟩:Str)++Str.ofString ""++PySem.Str.join (Str.ofString "") ((d::r).map fun c=>(⟨#[c]⟩:Str))=_
  rw [yF (d::r),yS,kO,kO]
  rfl
theorem join_eq(cs:List Nat):Txt.join (Str.ofString "") (cs.map fun c=>(⟨#[c]⟩:Str))=⟨cs.toArray⟩:=by
 show Builtin.Str.glued _ _=_
 rw [StrLaws.glued_eq_join]
 exact yF cs
theorem Am(cs:List Nat):((cs.map fun c=>(⟨#[c]⟩:Str)).map (·.length)).sum=cs.length:=by
 induction cs with
 | nil=>rfl
 | cons c r I=>rw [List.map_cons,List.map_cons,List.sum_cons,I,List.length_cons];show 1 + _=_;(clear I;omega)
theorem Hz{z:Str}{l u:Option Int}{c:Nat}(h:c∈(Txt.slice z l u).cps.toList):c∈z.cps.toList:=by
 unfold Txt.slice at h
 split at h
 ·exact h
 ·have h':c∈(Builtin.Str.strSliceIndices l u 1 z.length).filterMap (z.cps[·]?):=by simpa using h
  obtain⟨i,_,e⟩:=List.mem_filterMap.mp h'
  have:=Array.mem_of_getElem? e
  simpa using this
theorem jo{p:Nat->Bool}{z:Str}(l u:Option Int)(h:z.cps.toList.all p=true):(Txt.slice z l u).cps.toList.all p=true:=
 List.all_eq_true.mpr fun c I=>List.all_eq_true.mp h c (Hz I)
theorem Et{z:Str}{i j c:Nat}(h:c∈(Builtin.Str.strSub z i j).cps.toList):c∈z.cps.toList:=by
 have h':c∈(z.cps.extract i j).toList:=h
 rw [Array.toList_extract] at h'
 exact List.mem_of_mem_drop (List.mem_of_mem_take h')
theorem Ap{p:Nat->Bool}{z:Str}(h:z.cps.toList.all p=true):(Txt.strip z).cps.toList.all p=true:=by
 refine List.all_eq_true.mpr fun c I=>List.all_eq_true.mp h c ?_
 unfold Txt.strip at I
 rw [stripBy_eq] at I
 exact Et I
theorem mE{p:Nat->Bool}{a b:Str}(ha:a.cps.toList.all p=true)(hb:b.cps.toList.all p=true):(a++b).cps.toList.all p=true:=by
 rw [PySem.Str.cps_append,Array.toList_append,List.all_append,ha,hb]
 rfl
theorem Eh:∀ c,c < 128->fq c=true->gy (up1 c)=true:=dk
theorem yj{z:Str}(h:z.cps.toList.all fq=true):(Txt.upper z).cps.toList.all gy=true/\(Txt.upper z).length=z.length:=by
 rw [upper_ascii fun c I=>lC (List.all_eq_true.mp h c I)]
 refine⟨?_,by simp [Str.length]⟩
 rw [Array.toList_map,List.all_map]
 exact List.all_eq_true.mpr fun c I=>Eh c (lC (List.all_eq_true.mp h c I)) (List.all_eq_true.mp h c I)
theorem yx{z:Str}(h:z.cps.toList.all fq=true):z.cps.toList.all gy=true:=List.all_eq_true.mpr fun c I=>vK (List.all_eq_true.mp h c I)
theorem zw{p:Nat->Bool}{l:List Nat}(h:l.all p=true){i:Nat}(hi:i < l.length):p l[i]=true:=List.all_eq_true.mp h _ (List.getElem_mem hi)
def pL(c:Nat):Bool:=fq (K01.lo c)
def sc(p:Bool):List Nat->Nat
 | []=>0
 | c::r=>(if pL c=true/\p=false then 1 else 0) + sc (pL c) r
def lJ(p:Bool):List Nat->Bool
 | []=>p
 | c::r=>lJ (pL c) r
theorem qk:∀(a b:List Nat) (p:Bool),sc p (a++b)=sc p a + sc (lJ p a) b
 | [],b,p=>by
  show sc p b=0 + sc p b
  omega
 | c::a,b,p=>by
  show _ + sc (pL c) (a++b)=_ + sc (pL c) a + sc (lJ (pL c) a) b
  rw [qk a b (pL c),Nat.add_assoc]
theorem yW:∀(b:List Nat),sc true b<=sc false b/\sc false b<=sc true b + 1
 | []=>⟨Nat.le_refl _,Nat.le_succ _⟩
 | c::r=>by
  show(if pL c=true/\true=false then 1 else 0) + sc (pL c) r<=(if pL c=true/\false=false then 1 else 0) + sc (pL c) r/\(if pL c=true/\false=false then 1 else 0) + sc (pL c) r<=(if pL c=true/\true=false then 1 else 0) + sc (pL c) r + 1
  rw [if_neg (show ¬ (pL c=true/\true=false) from fun z=>nomatch z.2)]
  constructor
  ·omega
  ·split<;>omega
theorem Ba(p:Bool)(b:List Nat):sc p b<=sc false b:=by
 cases p
 ·exact Nat.le_refl _
 ·exact(yW b).1
theorem zC:∀(a:List Nat) (p:Bool),lJ p a=true->p=true\/1<=sc p a
 | [],p,h=> .inl h
 | c::a,p,h=>by
  have h':lJ (pL c) a=true:=h
  show p=true\/1<=(if pL c=true/\p=false then 1 else 0) + sc (pL c) a
  rcases zC a (pL c) h' with q | q
  ·cases p
   ·rw [if_pos ⟨q,rfl⟩]
    exact .inr (by omega)
   ·exact .inl rfl
  ·exact .inr (by omega)
theorem u7(a b:List Nat):sc false (a++b)<=sc false a + sc false b:=by
 rw [qk]
 have:=Ba (lJ false a) b
 omega
theorem Fz(a b:List Nat):sc false a<=sc false (a++b):=by rw [qk];omega
theorem Dz(a b:List Nat):sc false b<=sc false (a++b):=by
 rw [qk]
 cases h:lJ false a with
 | false=>omega
 | true=>
  have h1:=(yW b).2
  rcases zC a false h with q | q
  ·cases q
  ·omega
theorem zp:∀(y:List Nat) (p:Bool),y.all pL=true->sc p y<=(if p=true then 0 else 1)
 | [],p,_=>Nat.zero_le _
 | c::y,p,h=>by
  rw [List.all_cons,Bool.and_eq_true] at h
  have I:=zp y (pL c) h.2
  rw [if_pos h.1] at I
  show(if pL c=true/\p=false then 1 else 0) + sc (pL c) y<=_
  cases p
  ·rw [if_pos ⟨h.1,rfl⟩,if_neg (by decide)]
   omega
  ·rw [if_neg (fun z=>nomatch z.2),if_pos rfl]
   omega
theorem sU:∀(t:List Nat) (p:Bool),t.all (fun c=> !pL c)=true->sc p t=0
 | [],p,_=>rfl
 | c::t,p,h=>by
  rw [List.all_cons,Bool.and_eq_true] at h
  have I:pL c=false:=by simpa using h.1
  have J:=sU t (pL c) h.2
  show(if pL c=true/\p=false then 1 else 0) + sc (pL c) t=0
  rw [J,if_neg (fun z=>by rw [I] at z;cases z.1)]
theorem uA:∀(r:List Nat) (i:Nat) (w:List Nat),(gN (r.map K01.lo) i w).length=(if w=[] then 0 else 1) + sc (decide (w≠[])) r
 | [],i,w=>by
  show(flush i w).length=_
  unfold flush
  by_cases h:w=[]
  ·rw [if_pos h,if_pos h]
   rfl
  ·rw [if_neg h,if_neg h]
   rfl
 | c::r,i,w=>by
  show(gN (K01.lo c::r.map K01.lo) i w).length=_ + ((if pL c=true/\decide (w≠[])=false then 1 else 0) + sc (pL c) r)
  cases h:fq (K01.lo c) with
  | true=>
   have I:pL c=true:=h
   rw [md h,uA r (i + 1) (w++[K01.lo c]),if_neg (by simp),I]
   have e:decide (w++[K01.lo c]≠[])=true:=by simp
   rw [e]
   by_cases hw:w=[]
   ·rw [if_pos hw,if_pos ⟨rfl,by simp [hw]⟩]
    omega
   ·rw [if_neg hw,if_neg (fun z=>by have:=z.2;simp [hw] at this)]
    omega
  | false=>
   have I:pL c=false:=h
   rw [lj h,List.length_append,uA r (i + 1) [],if_pos (rfl:([]:List Nat)=[]),I,if_neg (show ¬ (false=true/\decide (w≠[])=false) from fun z=>nomatch z.1)]
   have e:decide (([]:List Nat)≠[])=false:=by simp
   rw [e]
   unfold flush
   by_cases hw:w=[]
   ·rw [if_pos hw,if_pos hw]
    show 0 + (0 + sc false r)=0 + (0 + sc false r)
    rfl
   ·rw [if_neg hw,if_neg hw]
    show 1 + (0 + sc false r)=1 + (0 + sc false r)
    rfl
theorem Bm(cs:List Nat):(words cs).length=sc false cs:=by
 have:=uA cs 0 []
 rw [if_pos rfl] at this
 have e:decide (([]:List Nat)≠[])=false:=by simp
 rw [e,Nat.zero_add] at this
 exact this
theorem yT(z:Str):(tw z).length=sc false (codes z):=by unfold tw;rw [List.length_map,Bm]
theorem x8(a b:Str):codes (a++b)=codes a++codes b:=by
 unfold codes
 rw [PySem.Str.cps_append,Array.toList_append]
theorem FH(l:List Nat)(i j:Nat):sc false ((l.drop i).take (j - i))<=sc false l:=by
 have h1:=Fz ((l.drop i).take (j - i)) ((l.drop i).drop (j - i))
 rw [List.take_append_drop] at h1
 have h2:=Dz (l.take i) (l.drop i)
 rw [List.take_append_drop] at h2
 exact Nat.le_trans h1 h2
theorem Ep(z:Str):sc false (codes (Txt.strip z))<=sc false (codes z):=by
 unfold Txt.strip
 rw [stripBy_eq]
 have key:∀ i j:Nat,sc false (z.cps.extract i j).toList<=sc false z.cps.toList:=fun i j=>by
  rw [Array.toList_extract]
  exact FH z.cps.toList i j
 exact key _ _
theorem Ah:∀ c,c < 128->fq c=true->pL c=true:=dk
theorem D8:∀ c,c < 128->fq c=true->pL (up1 c)=true:=dk
theorem uW{z:Str}(h:z.cps.toList.all fq=true):z.cps.toList.all pL=true:=List.all_eq_true.mpr fun c I=>Ah c (lC (List.all_eq_true.mp h c I)) (List.all_eq_true.mp h c I)
theorem wg{z:Str}(h:z.cps.toList.all fq=true):(Txt.upper z).cps.toList.all pL=true:=by
 rw [upper_ascii fun c I=>lC (List.all_eq_true.mp h c I),Array.toList_map,List.all_map]
 exact List.all_eq_true.mpr fun c I=>D8 c (lC (List.all_eq_true.mp h c I)) (List.all_eq_true.mp h c I)
section
variable {P : Program} {w : World} {K : PySem.W.Frag} {mg : Str -> Option Value} {base : Heap}
def Wm(z:Str):Prop:=z.length<=13/\z.cps.toList.all fq=true/\1<=z.length
def yR:Sp:=fun vs H Q _=>∃ n:Int,vs=[.int n]/\∀ a H' (ws:List Str),d3 H H'->H' a=some (.lst (ws.map V.str))->ws.length=5->(∀ z∈ws,Wm z)->Q (.ref a) H'
theorem kb:eX ["_law_number_here","_law_signs","_law_rest","_law_k","_law_size","_law_at","_law_found","_law_sign"] ["_law_number_here"] (er mi):=⟨rfl,rfl,rfl,dk,rfl,dk,dk⟩
theorem Fy:(["_law_j","_law_signs","_law_number_here"]:List Str).Nodup:=dk
theorem Dq:(["_law_k","_law_rest"]:List Str).Nodup:=dk
seal eK PS PE PT PA PG PI eV eQ in
theorem Gy{f fm:Addr}{fd fdm:FuncData}(D:Df K mg "_law_menu" mi f fd)(DM:Df K mg "_law_mixed" kY fm fdm)(T:Txt mg):d8 P w K mg base eu 2 f fd ["_law_number_here"] yR:=by
 have GM:d8 P w K mg base eu 1 fm fdm ["_law_number_here","_law_k"] rZ:=wc DM
 have bM:=DM.F.binds (ps:=["_law_number_here","_law_k"]) fun _ _ _ _ _ _ us hl=>gG (fun _ _=>rfl) us hl
 refine D.F.ok kb (fun vs H Q E h=>?_) (fun cdv A outer s H vs Q E hr h=>?_)
 ·obtain⟨n,rfl,_⟩:=h
  rfl
 ·obtain⟨n,rfl,kk⟩:=h
  have hl:(sizeLine:Nat)=16777216:=sizeLine_eq
  refine⟨_,d6 (eE (i:=1) kb.nd rfl (Or.inr rfl) fF)
   (d6 (oj (eY ig (ek fY (pv 0) d5) d5 (eZ _)) (d9 (eE (i:=1) kb.nd rfl (Or.inr rfl) fF)) fB)
   (d6 (eE (i:=2) kb.nd rfl (Or.inr rfl) (gj F.plainAttrs_str F.slot_str_join F.type_str_join Ad fF (dY (ik (own:=1) (caps:=[1,0]) (N:=["_law_j","_law_signs","_law_number_here"])
     (N0:=["_law_number_here","_law_signs","_law_rest","_law_k","_law_size","_law_at","_law_found","_law_sign"]) (sc0:=er mi) rfl
    (iW rfl T.range (dY d5 dZ)) (fun _ _ _=>eO (i:=0) Fy rfl (Or.inl rfl)) (fun _ _ _=>iG)
    (fun _ _ _=>fb oM (pv 1) (ek fY (eI GM hr rfl DM.m DM.F.kp bM .nil eM (dY (pv 2) (dY (ek fQ d5 (pv 0)) dZ))) d5) (fun _ _=>rfl)) (gD (by decide)) rfl rfl
    dk rfl dk dk rfl dk) dZ)))
   (d6 (fE (eY ig (ek fY (ek g9 (pv 0) d5) d5) d5 (eZ _))
    (d9 (eG (ik (own:=1) (caps:=[2]) (N:=["_law_k","_law_rest"])
     (N0:=["_law_number_here","_law_signs","_law_rest","_law_k","_law_size","_law_at","_law_found","_law_sign"]) (sc0:=er mi) rfl
     (iW rfl T.range (dY d5 dZ)) (fun _ _ _=>eO (i:=0) Dq rfl (Or.inl rfl)) (fun _ _ _=>iG)
     (fun _ _ _=>g7 jn (pv 1) iq (gR (ek fQ (pv 0) d5))) (gD (by decide)) rfl rfl
     dk rfl dk dk rfl dk))) fB)
   (d6 (eE (i:=4) kb.nd rfl (Or.inl rfl) (ek fY (ek g9 (pv 0) d5) d5))
   (d6 (eE (i:=5) kb.nd rfl (Or.inl rfl) (ek fY (ek g9 (pv 0) d5) (ek fQ (pv 4) d5)))
   (d6 (eE (i:=6) kb.nd rfl (Or.inl rfl) (fJ dZ))
   (d6 (fU PassesOwn.never rfl (iW rfl T.range (dY d5 dZ)) (eO (i:=3) kb.nd rfl (Or.inl rfl))
    (d6 (eE (i:=7) kb.nd rfl (Or.inl rfl) (fb oM (pv 1) (ek fY (ek fQ (ek g9 (pv 0) d5) (ek iD d5 (pv 3))) d5) (fun _ _=>rfl)))
    (d9 (gq (gj F.plainAttrs_list F.slot_list_append F.type_list_append gT (pv 6)
     (dY (ek jl (ek jl (g7 jn (pv 2) iq (gR (pv 5))) (pv 7)) (g7 jn (pv 2) (gR (pv 5)) (gR (pv 4)))) dZ))))))
   (d9 (eG (pv 6)))))))))),?_⟩
  refine⟨fun ak H'=>H'=H/\∃ S:Str,S.cps.toList.all fq=true/\S.length=26/\ak=[some (.int n),some (.str S),none,none,none,none,none,none],?_,?_⟩
  ·refine⟨_,rfl,_,_,rfl,rfl,(by show(0:Int) < 3;decide),rfl,_,rfl,?_⟩
   refine rR (fun _=>?_) (fun _=>?_)
   ·exact⟨rfl,Str.ofString "0a1b2c3d4e5f6g7h8i9jklmnop",dk,dk,rfl⟩
   ·exact⟨rfl,Str.ofString "abcdefghijklmnopqrstuvwxyz",dk,dk,rfl⟩
  ·rintro ak H' ⟨rfl,S,hS,I,rfl⟩
   have J:(codes S).length=26:=by unfold codes;rw [str_len];exact I
   refine⟨rfl,6,rfl,by decide,by decide,rG (fun i ys H1=>H1=H'/\∃ cs:List Nat,cs.length=i/\cs.all fq=true/\ys=cs.map fun c=>V.str ⟨#[c]⟩) (by rw [hl];decide) ⟨rfl,[],rfl,rfl,rfl⟩ ?_ ?_⟩
   ·rintro i ys H1 N hi ⟨rfl,cs,hc,hok,rfl⟩ hN
    have ai:i < 6:=hi
    refine g1 ?_
    refine⟨_,rfl,_,rfl,_,rfl,_,_,rfl,rfl,_,_,rfl,by(clear ai hok hc hi J I hS hl;omega),by(clear ai hok hc J I hS hl;omega),fun r r0 r1=>?_⟩
    refine⟨_,_,rfl,rfl,(by show(0:Int) < 26;decide),?_⟩
    obtain⟨j,hj,aa⟩:=oe (r:=r) (n:=26) (by decide)
    have ae:j < (codes S).length:=by(clear aa r1 r0 ai hok hc hi I hS hl;omega)
    refine⟨S,_,(codes S)[j],rfl,rfl,by(clear ae aa hj r1 r0 ai hok hc hi J hS;omega),?_,hN _ _ ⟨rfl,cs++[(codes S)[j]],by simp [hc],by rw [List.all_append,hok];simp [zw (p:=fq) (l:=codes S) hS ae],by rw [List.map_append];rfl⟩⟩
    rw [<-hj]
    exact fC (List.getElem?_eq_getElem ae)
   ·rintro ys H1 ⟨rfl,cs,hc,hok,rfl⟩ _ p hp
    have U:cs.length=6:=hc
    refine⟨_,p,cs.map fun c=>(⟨#[c]⟩:Str),rfl,rfl,d4.of (by rw [d7,List.map_map];rfl),?_,?_⟩
    ·rw [Am,List.length_map]
     show cs.length + cs.length * 0<=_
     (clear U hp hok J I hS hl;omega)
    rw [join_eq]
    have sm:d3 H1 (upd H1 p (.lst (cs.map fun c=>V.str ⟨#[c]⟩))):=eh hp
    generalize hG:upd H1 p (.lst (cs.map fun c=>V.str ⟨#[c]⟩))=H2 at sm
    have hR:(⟨cs.toArray⟩:Str).cps.toList.all fq=true:=by simpa using hok
    have ag:(⟨cs.toArray⟩:Str).length=6:=by rw [iK];exact U
    generalize (⟨cs.toArray⟩:Str)=R at hR ag
    refine⟨_,rfl,_,_,rfl,rfl,⟨by decide,by decide⟩,_,_,rfl,rfl,(by show(0:Int) < 3;decide),rfl,_,rfl,?_⟩
    refine rR (fun _=>?_) (fun _=>?_)
    ·refine⟨5,rfl,by decide,by decide,rG (fun i ys H3=>H3=H2/\∃ ws:List Str,ws.length=i/\(∀ z∈ws,Wm z)/\ys=ws.map V.str) (by rw [hl];decide) ⟨rfl,[],rfl,fun z hz=>by simp at hz,rfl⟩ ?_ ?_⟩
     ·rintro i ys H3 N hi ⟨rfl,ws,hw,ab,rfl⟩ hN
      refine g1 ?_
      refine⟨_,rfl,_,rfl,_,_,rfl,rfl,_,rfl,R,rfl,by(clear hw hG hi hR U hp hok hc J I hS;omega),hN _ _ ⟨rfl,ws++[Txt.slice R none (some ((0:Int) + i + 1))],by simp [hw],fun z hz=>?_,by rw [List.map_append];rfl⟩⟩
      rcases List.mem_append.mp hz with q | q
      ·exact ab z q
      ·have e:z=Txt.slice R none (some ((0:Int) + i + 1)):=by simpa using q
       rw [e]
       have:=Txt.slice_le R none (some ((0:Int) + i + 1))
       exact⟨by(clear e hw hG hi hR U hp hok hc J I hS hl;omega),jo _ _ hR,by
        have af:i < 5:=hi
        have l6:(R.cps.toList.length:Int)=R.length:=by simp [Str.length]
        have e1:Txt.slice R none (some ((0:Int) + i + 1))=_:=PySem.StrLaws.sliceText_to ⟨by omega,by omega⟩
        have l7:R.cps.toList.length=6:=by omega
        rw [e1,iK,List.length_take,List.length_drop,l7]
        omega⟩
     ·rintro ys H3 ⟨rfl,ws,hw,ab,rfl⟩ _ q hq
      exact kk q _ ws (sm.trans (eh hq)) d7 hw ab
    ·refine⟨_,rfl,_,_,rfl,rfl,⟨by decide,by decide⟩,_,_,rfl,rfl,(by show(0:Int) < 5;decide),?_⟩
     have s0:=Int.emod_nonneg (n / 9) (show(5:Int)≠0 by decide)
     refine⟨_,rfl,_,_,rfl,rfl,⟨by decide,by decide⟩,_,rfl,_,_,rfl,rfl,_,_,rfl,rfl,(by show(0:Int) < n / 9 % 5 + 1;(clear s0 ag hR hG U hp hok hc J I hS hl;omega)),?_⟩
     refine⟨Nat.zero_le _,fun a ha=>?_⟩
     refine⟨5,rfl,by decide,by decide,jM (fun i σ H3=>∃(ws:List Str) (v3 v7:Option V),σ=[some (.int n),some (.str S),some (.str R),v3,some (.int (n / 9 % 5)),some (.int (n / 45 % (n / 9 % 5 + 1))),some (.ref a),v7]/\d3 H1 H3/\H3 a=some (.lst (ws.map V.str))/\ws.length=i/\∀ z∈ws,Wm z) ?_ ?_ ?_⟩
     ·exact⟨[],none,none,rfl,sm.trans (eh ha),d7,rfl,fun z hz=>by simp at hz⟩
     ·rintro i σ H3 hi ⟨ws,v3,v7,rfl,aj,hA,hw,ab⟩
      have af:i < 5:=hi
      refine⟨_,rfl,_,rfl,_,_,rfl,rfl,⟨by decide,by decide⟩,_,rfl,_,_,rfl,rfl,.inl ⟨by decide,by decide⟩,_,_,rfl,rfl,_,_,rfl,rfl,(by show(0:Int) < 26;decide),?_⟩
      obtain⟨j,hj,aa⟩:=oe (r:=n / 225 + 5 * (0 + (i:Int))) (n:=26) (by decide)
      have ae:j < (codes S).length:=by(clear aa af hw hA hi ha s0 ag hR hG U hp hok hc I hS hl;omega)
      refine⟨S,_,(codes S)[j],rfl,rfl,by(clear ae aa hj af hw hA hi ha s0 ag hR hG U hp hok hc J hS;omega),by rw [<-hj];exact fC (List.getElem?_eq_getElem ae),?_⟩
      have l1:=Txt.slice_le R none (some (n / 45 % (n / 9 % 5 + 1)))
      have l2:=Txt.slice_le R (some (n / 45 % (n / 9 % 5 + 1))) (some (n / 9 % 5))
      have ah:(⟨#[(codes S)[j]]⟩:Str).length=1:=rfl
      refine⟨_,rfl,.inl ⟨rfl,_,d4.of hA⟩,_,rfl,_,rfl,_,rfl,R,rfl,by(clear ah l2 l1 ae aa hj af hw hA hi ha s0 hR hG U hp hok hc J I hS;omega),_,rfl,_,_,rfl,rfl,by(clear l2 aa hj af hw hA hi ha s0 hR hG U hp hok hc J I hS;omega),_,rfl,_,rfl,_,rfl,_,rfl,_,rfl,R,rfl,by(clear ah l2 l1 ae aa hj af hw hA hi ha s0 hR hG U hp hok hc J I hS;omega),_,_,rfl,rfl,by rw [PySem.Str.length_append];(clear aa hj af hw hA hi ha s0 hR hG U hp hok hc J I hS;omega),?_⟩
      have ao:a≠a->False:=fun z=>z rfl
      refine⟨a,_,_,rfl,rfl,hA,by simp;(clear ah l2 l1 ae aa hj af hA ha s0 ag hR hG U hp hok hc J I hS;omega),?_⟩
      refine⟨ws++[Txt.slice R none (some (n / 45 % (n / 9 % 5 + 1)))++⟨#[(codes S)[j]]⟩++Txt.slice R (some (n / 45 % (n / 9 % 5 + 1))) (some (n / 9 % 5))],_,_,rfl,fun b u e=>?_,by rw [d7,List.map_append];rfl,by simp [hw],fun z hz=>?_⟩
      ·have hb:b≠a:=fun z=>by subst z;rw [sm.free ha] at e;cases e
       rw [eC hb];exact aj b u e
      ·rcases List.mem_append.mp hz with q | q
       ·exact ab z q
       ·have e:z=Txt.slice R none (some (n / 45 % (n / 9 % 5 + 1)))++⟨#[(codes S)[j]]⟩++Txt.slice R (some (n / 45 % (n / 9 % 5 + 1))) (some (n / 9 % 5)):=by simpa using q
        rw [e]
        refine⟨by rw [PySem.Str.length_append,PySem.Str.length_append];(clear e aa hj af hw hA hi ha s0 hR hG U hp hok hc J I hS hl;omega),mE (mE (jo _ _ hR) ?_) (jo _ _ hR),by rw [PySem.Str.length_append,PySem.Str.length_append];omega⟩
        simp [zw (p:=fq) (l:=codes S) hS ae]
     ·rintro σ H3 ⟨ws,v3,v7,rfl,aj,hA,hw,ab⟩
      exact⟨_,rfl,kk a H3 ws aj hA hw ab⟩
theorem qY{ss:List Str}{n L:Int}(h0:0 < ss.length)(hL:L=(ss.length:Nat)):∃ z∈ss,jr (ss.map V.str) (n % L)=some (.str z):=by
 obtain⟨v,I,e⟩:=Cm (xs:=ss.map V.str) (n:=n) (L:=L) (by rw [List.length_map];exact h0) (by rw [List.length_map];exact hL)
 obtain⟨z,J,rfl⟩:=List.mem_map.mp I
 exact⟨z,J,e⟩
def jS:List Str:=[" ","  ",", ","\n","-",". "," [","] ","_"," \\ ","/","; "]
def mH:List Str:=["",""," ","\n\n","- "]
theorem Bv:∀ z∈jS,z.length<=3/\z.cps.toList.all gy=true:=dk
theorem Ek:∀ z∈mH,z.length<=2/\z.cps.toList.all gy=true:=dk
theorem Fq(z:Str):(Txt.strip z).length<=z.length:=by
 unfold Txt.strip
 rw [stripBy_eq]
 show(z.cps.extract _ _).size<=z.cps.size
 rw [Array.size_extract]
 omega
theorem Af:∀ z∈jS,z.cps.toList.all (fun c=> !pL c)=true:=dk
theorem A7:∀ z∈mH,z.cps.toList.all (fun c=> !pL c)=true:=dk
def wO:Sp:=fun vs H Q _=>∃(n:Int) (a:Addr) (ws:List Str) (m:Nat),vs=[.int n,.ref a,.int m]/\m<=12/\H a=some (.lst (ws.map V.str))/\ws.length=5/\(∀ z∈ws,Wm z)/\∀ x H',d3 H H'->x.length<=1000->(codes x).all gy=true->(tw x).length<=m->Q (.str x) H'
theorem kQ:eX ["_law_number_here","_law_menu_here","_law_many","_law_between","_law_text_here","_law_k","_law_more","_law_word"] ["_law_number_here","_law_menu_here","_law_many"] (er oI):=⟨rfl,rfl,rfl,dk,rfl,dk,dk⟩
seal eK PS PE PT PA PG PI eV eQ in
theorem BF{f fm:Addr}{fd fdm:FuncData}(D:Df K mg "_law_text" oI f fd)(DM:Df K mg "_law_mixed" kY fm fdm)(T:Txt mg):d8 P w K mg base eu 2 f fd ["_law_number_here","_law_menu_here","_law_many"] wO:=by
 have GM:d8 P w K mg base eu 1 fm fdm ["_law_number_here","_law_k"] rZ:=wc DM
 have bM:=DM.F.binds (ps:=["_law_number_here","_law_k"]) fun _ _ _ _ _ _ us hl=>gG (fun _ _=>rfl) us hl
 refine D.F.ok kQ (fun vs H Q E h=>?_) (fun cdv A outer s H vs Q E hr h=>?_)
 ·obtain⟨n,a,ws,m,rfl,_⟩:=h
  rfl
 ·obtain⟨n,a,ws,m,rfl,hm,hA,h5,ar,kk⟩:=h
  have hl:(sizeLine:Nat)=16777216:=sizeLine_eq
  refine⟨_,d6 (eE (i:=3) kQ.nd rfl (Or.inl rfl) (fJ (dY fF (dY fF (dY fF (dY fF (dY fF (dY fF (dY fF (dY fF (dY fF (dY fF (dY fF (dY fF dZ))))))))))))))
   (d6 (eE (i:=4) kQ.nd rfl (Or.inl rfl) (fb fS (fJ (dY fF (dY fF (dY fF (dY fF (dY fF dZ)))))) (ek fY (pv 0) d5) (fun _ _=>rfl)))
   (d6 (fU PassesOwn.never rfl (iW rfl T.range (dY (pv 2) dZ)) (eO (i:=5) kQ.nd rfl (Or.inl rfl))
    (d6 (eE (i:=6) kQ.nd rfl (Or.inl rfl) (eI GM hr rfl DM.m DM.F.kp bM .nil eM (dY (pv 0) (dY (pv 5) dZ))))
    (d6 (eE (i:=7) kQ.nd rfl (Or.inl rfl) (fb fS (pv 1) (ek fY (pv 6) (fG gQ rfl T.len gf (dY (pv 1) dZ))) (fun _ _=>rfl)))
    (d6 (eE (i:=7) kQ.nd rfl (Or.inl rfl) (fb fS (fJ (dY (pv 7) (dY (pv 7) (dY (nE F.plainAttrs_str F.slot_str_upper F.type_str_upper zi (pv 7))
      (dY (ek jl (nE F.plainAttrs_str F.slot_str_upper F.type_str_upper zi (g7 jn (pv 7) iq (gR d5))) (g7 jn (pv 7) (gR d5) iq)) dZ)))))
      (ek fY (ek g9 (pv 6) d5) d5) (fun _ _=>rfl)))
    (d9 (eE (i:=4) kQ.nd rfl (Or.inl rfl) (ek jl (ek jl (pv 4) (pv 7)) (fb fS (pv 3) (ek fY (ek g9 (pv 6) d5) d5) (fun _ _=>rfl)))))))))
   (d6 (fE (eY ig (ek fY (ek g9 (pv 0) d5) d5) d5 (eZ _)) (d9 (eG (nE F.plainAttrs_str F.slot_str_strip F.type_str_strip CB (pv 4)))) fB)
   (d9 (eG (pv 4)))))),?_⟩
  refine⟨(by show 12<=sizeLine;(clear h5 hA hm;omega)),fun b hb=>⟨(by show 5<=sizeLine;(clear hb h5 hA hm;omega)),fun p hp=>?_⟩⟩
  have au:d3 H (upd H b (.lst (jS.map V.str))):=eh hb
  change (upd H b (.lst (jS.map V.str))) p=none at hp
  obtain⟨x0,ao,e0⟩:=qY (ss:=mH) (n:=n) (L:=5) (by decide) rfl
  obtain⟨aa,I⟩:=Ek x0 ao
  refine⟨_,rfl,_,_,rfl,rfl,(by show(0:Int) < 5;decide),p,mH.map V.str,_,_,rfl,rfl,d4.of d7,e0,?_⟩
  have av:d3 H (upd (upd H b (.lst (jS.map V.str))) p (.lst (mH.map V.str))):=d3.upd au hp
  have J:(upd (upd H b (.lst (jS.map V.str))) p (.lst (mH.map V.str))) b=some (.lst (jS.map V.str)):=by rw [eC (fv d7 hp),d7]
  refine⟨_,rfl,m,rfl,by(clear J I aa e0 hp hb hl h5 hA hm;omega),by(clear J I aa e0 hp hb hl h5 hA;omega),?_⟩
  refine jM (fun i σ H'=>∃(x:Str) (v5 v6 v7:Option V),σ=[some (.int n),some (.ref a),some (.int m),some (.ref b),some (.str x),v5,v6,v7]/\d3 H H'/\H' b=some (.lst (jS.map V.str))/\x.length<=2 + 29 * i/\x.cps.toList.all gy=true/\sc false (codes x)<=i) ?_ ?_ ?_
  ·exact⟨x0,none,none,none,rfl,av,J,by(clear J I e0 hp hb hl h5 hA hm;omega),I,Nat.le_of_eq (sU _ _ (A7 x0 ao))⟩
  ·intro i σ H' hi hP
   refine uE fun B D' aw ax=>?_
   obtain⟨x,v5,v6,v7,rfl,sm,hB,hx,U,aq⟩:=hP
   have ab:i < m:=by simpa using hi
   refine mj (R:=B) aw fun R hR=>?_
   refine⟨_,rfl,_,rfl,_,_,rfl,by(clear ab U hx hB hi J I aa e0 hp hb hl h5 hA hm;omega),by(clear ab U hx hB J I aa e0 hp hb hl h5 hA;omega),fun r r0 r1=>?_⟩
   have ae:=sm _ _ hA
   obtain⟨z,hz,ez⟩:=qY (ss:=ws) (n:=r) (L:=((ws.map V.str).length:Nat)) (by(clear ae r1 r0 ab U hx hB hi J I aa e0 hp hb hl hA hm;omega)) (by rw [List.length_map])
   obtain⟨lz,oz,_⟩:=ar z hz
   have af:=yx oz
   refine mj (R:=R) hR fun R hR=>?_
   refine⟨_,rfl,_,rfl,_,rfl,_,_,rfl,.inl (d4.of ae),_,_,rfl,rfl,(by show(0:Int) < _;rw [List.length_map,h5];decide),a,_,_,_,rfl,rfl,d4.of ae,ez,?_⟩
   have s1:=Txt.slice_le z none (some 1)
   have s2:=Txt.slice_le z (some 1) none
   obtain⟨u1,u2⟩:=yj oz
   obtain⟨u3,u4⟩:=yj (jo none (some 1) oz)
   have u5:=yx (jo (some 1) none oz)
   refine mj (R:=R) hR fun R hR=>?_
   refine⟨_,rfl,_,rfl,_,rfl,rfl,z,rfl,rfl,by(clear u5 u4 u3 u2 u1 s2 s1 af oz ez ae r1 r0 ab U hx hB hi J I aa e0 hp hb hl h5 hA hm;omega),_,rfl,_,rfl,z,rfl,by(clear u5 u4 u3 u2 u1 s2 s1 af oz ez ae r1 r0 ab U hx hB hi J I aa e0 hp hb h5 hA hm;omega),rfl,_,rfl,rfl,by(clear u5 u4 u3 u2 u1 s2 af oz ez ae r1 r0 ab U hx hB hi J I aa e0 hp hb hl h5 hA hm;omega),_,rfl,_,rfl,z,rfl,by(clear u5 u4 u3 u2 u1 s2 s1 af oz ez ae r1 r0 ab U hx hB hi J I aa e0 hp hb h5 hA hm;omega),_,_,rfl,rfl,by(clear u5 u3 u2 u1 af oz ez ae r1 r0 ab U hx hB hi J I aa e0 hp hb h5 hA hm;omega),(by show 4<=sizeLine;(clear u5 u4 u3 u2 u1 s2 s1 af oz lz ez ae r1 r0 ab U hx hB hi J I aa e0 hp hb h5 hA hm;omega)),fun q hq=>?_⟩
   refine⟨_,rfl,_,_,rfl,rfl,⟨by decide,by decide⟩,_,_,rfl,rfl,(by show(0:Int) < 4;decide),?_⟩
   obtain⟨y,hy,ey⟩:=qY (ss:=[z,z,Txt.upper z,Txt.upper (Txt.slice z none (some 1))++Txt.slice z (some 1) none]) (n:=r / 7) (L:=4) (by simp) rfl
   have ay:y.length<=26/\y.cps.toList.all gy=true/\y.cps.toList.all pL=true:=by
    have az:y=z\/y=z\/y=Txt.upper z\/y=Txt.upper (Txt.slice z none (some 1))++Txt.slice z (some 1) none:=by simpa using hy
    rcases az with e | e | e | e
    ·rw [e];exact⟨by(clear e ey hq u5 u4 u3 u2 u1 s2 s1 af oz ez ae r1 r0 ab U hx hB hi J I aa e0 hp hb hl h5 hA hm;omega),af,uW oz⟩
    ·rw [e];exact⟨by(clear e ey hq u5 u4 u3 u2 u1 s2 s1 af oz ez ae r1 r0 ab U hx hB hi J I aa e0 hp hb hl h5 hA hm;omega),af,uW oz⟩
    ·rw [e];exact⟨by(clear e ey hq u5 u4 u3 u1 s2 s1 af oz ez ae r1 r0 ab U hx hB hi J I aa e0 hp hb hl h5 hA hm;omega),u1,wg oz⟩
    ·rw [e];exact⟨by rw [PySem.Str.length_append];(clear e ey hq u5 u3 u2 u1 af oz ez ae r1 r0 ab U hx hB hi J I aa e0 hp hb hl h5 hA hm;omega),mE u3 u5,mE (wg (jo none (some 1) oz)) (uW (jo (some 1) none oz))⟩
   obtain⟨aD,ah,aA⟩:=ay
   refine⟨q,_,_,_,rfl,rfl,d4.of d7,ey,?_⟩
   obtain⟨t,ht,et⟩:=qY (ss:=jS) (n:=r / 31) (L:=12) (by decide) rfl
   obtain⟨aB,ai⟩:=Bv t ht
   have ag:(upd H' q (.lst [V.str z,V.str z,V.str (Txt.upper z),V.str (Txt.upper (Txt.slice z none (some 1))++Txt.slice z (some 1) none)])) b=some (.lst (jS.map V.str)):=by rw [eC (fv hB hq)];exact hB
   refine lE (R:=R) hR ?_
   refine⟨_,rfl,_,rfl,_,_,rfl,rfl,by(clear ag ai aB et ah ey hq u5 u4 u3 u2 u1 s2 s1 af oz lz ez ae r1 r0 ab U hB J I aa e0 hp hb h5 hA;omega),_,rfl,_,rfl,_,_,rfl,rfl,⟨by decide,by decide⟩,_,_,rfl,rfl,(by show(0:Int) < 12;decide),b,_,_,_,rfl,rfl,d4.of ag,et,_,_,rfl,rfl,by rw [PySem.Str.length_append];(clear ag ai et ah ey hq u5 u4 u3 u2 u1 s2 s1 af oz lz ez ae r1 r0 ab U hB J I aa e0 hp hb h5 hA;omega),?_⟩
   have aC:sc false (codes (x++y++t))<=i + 1:=by
    rw [x8,x8]
    have a1:=u7 (codes x++codes y) (codes t)
    have a2:=u7 (codes x) (codes y)
    have a3:=zp (codes y) false aA
    have a4:=sU (codes t) false (Af t ht)
    rw [if_neg (by decide)] at a3
    omega
   exact ax _ _ ⟨x++y++t,_,_,_,rfl,d3.upd sm hq,ag,by rw [PySem.Str.length_append,PySem.Str.length_append];(clear ag ai et ah ey hq u5 u4 u3 u2 u1 s2 s1 af oz lz ez ae r1 r0 ab U hB hi J I aa e0 hp hb hl h5 hA hm;omega),mE (mE U ah) ai,aC⟩
  ·rintro σ H' ⟨x,v5,v6,v7,rfl,sm,hB,hx,U,aq⟩
   have aj:sc false (codes x)<=m:=by simpa using aq
   have ak:x.length<=2 + 29 * m:=by simpa using hx
   refine⟨_,rfl,_,_,rfl,rfl,⟨by decide,by decide⟩,_,_,rfl,rfl,(by show(0:Int) < 3;decide),rfl,_,rfl,?_⟩
   refine rR (fun _=>?_) (fun _=>?_)
   ·refine⟨_,rfl,rfl,x,rfl,rfl,by(clear ak U hB J I aa e0 hp hb h5 hA;omega),kk _ _ sm ?_ (Ap U) (by rw [yT];exact Nat.le_trans (Ep x) aj)⟩
    have:=Fq x
    (clear ak U hB J I aa e0 hp hb hl h5 hA;omega)
   ·exact⟨_,rfl,kk _ _ sm (by(clear ak U hB J I aa e0 hp hb hl h5 hA;omega)) U (by rw [yT];exact aj)⟩
end
def uV(n k:Int):Int:=(n % 2147483647 + 7919 * k * k + 31 * k) * 48271 % 2147483647 * (69621 + 2 * k) % 2147483629
def gW(ns:List Int)(k:Nat):Int:=match ns with
 | []=>uV 17 k
 | n::r=>uV ((n::r)[k % (n::r).length]'(Nat.mod_lt _ (Nat.succ_pos _))) k
def xh:Str:="abzk09"
def jy(n:Int):Str:=Txt.slice xh none (some (n % 6))
def jR(n:Int):Str:=Txt.slice (jy n) none (some (n / 6 % (((jy n).length:Nat) + 1)))
def lx(n:Int):Str:=Txt.slice (jy n) (some (n / 6 % (((jy n).length:Nat) + 1))) none
def gX(n:Int)(k:Nat):Str:=jR n++⟨#[48 + k]⟩++lx n
theorem xD(n:Int):(jy n).cps.toList.all fq=true:=jo _ _ dk
theorem Cu:∀ r:Nat,r < 6->(Txt.slice xh none (some (r:Int))).length<=5:=dk
theorem sG(n:Int):(jy n).length<=5:=by
 have h0:=Int.emod_nonneg n (show(6:Int)≠0 by decide)
 have h1:=Int.emod_lt_of_pos n (show(0:Int) < 6 by decide)
 have e:n % 6=((n % 6).toNat:Int):=by omega
 unfold jy
 rw [e]
 exact Cu _ (by omega)
theorem Ck(n:Int)(k:Nat):(gX n k).length=(jR n).length + 1 + (lx n).length:=by
 unfold gX
 rw [PySem.Str.length_append,PySem.Str.length_append]
 rfl
theorem zD(n:Int):(jR n).length<=5/\(lx n).length<=5:=⟨Nat.le_trans (Txt.slice_le _ _ _) (sG n),Nat.le_trans (Txt.slice_le _ _ _) (sG n)⟩
theorem zb(n:Int)(k:Nat):(gX n k).cps.toList=(jR n).cps.toList++((48 + k)::(lx n).cps.toList):=by
 unfold gX
 rw [PySem.Str.cps_append,PySem.Str.cps_append,Array.toList_append,Array.toList_append,List.append_assoc]
 rfl
theorem uo{n:Int}{j k:Nat}(h:gX n j=gX n k):j=k:=by
 have e:=congrArg (fun z:Str=>z.cps.toList) h
 simp only [zb] at e
 have:=(List.cons.inj (List.append_cancel_left e)).1
 omega
theorem AO:∀ k,k < 10->fq (48 + k)=true:=by decide
theorem BE{n:Int}{k:Nat}(hk:k < 10):fV 12 (.str (gX n k))=true:=by
 have h1:=Ck n k
 obtain⟨h2,I⟩:=zD n
 show(decide (1<=(gX n k).length) && decide ((gX n k).length<=12) && (gX n k).cps.toList.all fq)=true
 rw [decide_eq_true (by omega),decide_eq_true (by omega),zb,List.all_append,List.all_cons,AO k hk]
 have a1:(jR n).cps.toList.all fq=true:=jo _ _ (xD n)
 have a2:(lx n).cps.toList.all fq=true:=jo _ _ (xD n)
 rw [a1,a2]
 rfl
structure mV (ns : List Int) (f : Nat) (ps : List (Str × Str)) : Prop where
 f6 : f <= 6
 l : ps.length <= 4
 k : ∀ (j : Nat) p, ps[j]? = some p -> p.1 = gX (gW ns 9) (f + j)
 t : ∀ p ∈ ps, p.2.length <= 1000 /\ (codes p.2).all gy = true /\ (tw p.2).length <= 6
section
variable {P : Program} {w : World} {K : PySem.W.Frag} {mg : Str -> Option Value} {base : Heap}
def qR(K:W.Frag):Sp:=fun vs H Q _=>∃(a:Addr) (ns:List Int) (k:Nat),vs=[.ref a,.int k]/\d4 K H a (ns.map V.int)/\∀ n:Int,Q (.int n) H
theorem Fh:eX ["_law_script","_law_k"] ["_law_script","_law_k"] (er lL):=⟨rfl,rfl,rfl,dk,rfl,dk,dk⟩
seal eK PS PE PT PA PG PI eV eQ in
theorem Al{f:Addr}{fd:FuncData}(D:Df K mg "_law_cell_at" lL f fd)(T:Txt mg):d8 P w K mg base eu 1 f fd ["_law_script","_law_k"] (qR K):=by
 refine D.F.ok Fh (fun vs H Q E h=>?_) (fun cdv A outer s H vs Q E hr h=>?_)
 ·obtain⟨a,ns,k,rfl,_⟩:=h
  rfl
 ·obtain⟨a,ns,k,rfl,J,U⟩:=h
  refine⟨_,d6 (fE (eY jm (pv 1) (fG gQ rfl T.len gf (dY (pv 0) dZ)) (eZ _)) (d9 (eG (fb fS (pv 0) (pv 1) (fun _ _=>rfl)))) fB) (d9 (eG d5)),?_⟩
  refine⟨_,rfl,_,rfl,a,_,rfl,.inl J,_,_,rfl,rfl,_,rfl,?_⟩
  by_cases hk:(k:Int) < ((ns.map V.int).length:Nat)
  ·rw [decide_eq_true hk]
   have I:k < ns.length:=by rw [List.length_map] at hk;omega
   exact eN ⟨_,rfl,_,rfl,a,_,_,.int ns[k],rfl,rfl,J,fC (by rw [List.getElem?_map,List.getElem?_eq_getElem I];rfl),U _⟩
  ·rw [decide_eq_false hk]
   exact eD (U 0)
def xS:Sp:=fun vs H Q _=>∃ n k:Int,vs=[.int n,.int k]/\0<=k/\k<=1000000/\Q (.int (uV n k)) H
seal eK PS PE PT PA PG PI eV eQ in
theorem HM{f:Addr}{fd:FuncData}(D:Df K mg "_law_mixed" kY f fd):d8 P w K mg base eu 1 f fd ["_law_number_here","_law_k"] xS:=by
 refine D.F.ok rB (fun vs H Q E h=>?_) (fun cdv A outer s H vs Q E hr h=>?_)
 ·obtain⟨n,k,rfl,_⟩:=h
  rfl
 ·obtain⟨n,k,rfl,h0,h1,U⟩:=h
  refine⟨_,d6 (eE (i:=0) rB.nd rfl (Or.inl rfl) (ek fY (ek iD (ek fQ (ek fQ (ek fY (pv 0) d5) (ek iD (ek iD d5 (pv 1)) (pv 1))) (ek iD d5 (pv 1))) d5) d5))
   (d9 (eG (ek fY (ek iD (pv 0) (ek fQ d5 (ek iD d5 (pv 1)))) d5))),?_⟩
  refine⟨_,rfl,_,_,rfl,rfl,(by show(0:Int) < 2147483647;decide),_,rfl,_,_,rfl,rfl,.inl ⟨by decide,by decide⟩,_,rfl,_,_,rfl,rfl,.inr ⟨by(clear h1;omega),by(clear h0;omega)⟩,_,_,rfl,rfl,_,rfl,_,_,rfl,rfl,.inl ⟨by decide,by decide⟩,_,_,rfl,rfl,
   _,_,rfl,rfl,.inr ⟨by decide,by decide⟩,_,_,rfl,rfl,(by show(0:Int) < 2147483647;decide),?_⟩
  have I:=Int.emod_nonneg ((n % 2147483647 + 7919 * k * k + 31 * k) * 48271) (show(2147483647:Int)≠0 by decide)
  have J:=Int.emod_lt_of_pos ((n % 2147483647 + 7919 * k * k + 31 * k) * 48271) (show(0:Int) < 2147483647 by decide)
  exact⟨_,rfl,_,rfl,_,_,rfl,rfl,.inl ⟨by decide,by decide⟩,_,_,rfl,rfl,_,_,rfl,rfl,.inl ⟨by(clear J I h1 h0;omega),by(clear J I h1 h0;omega)⟩,_,_,rfl,rfl,(by show(0:Int) < 2147483629;decide),U⟩
def rD(K:W.Frag):Sp:=fun vs H Q _=>∃(a:Addr) (ns:List Int) (k:Nat),vs=[.ref a,.int k]/\d4 K H a (ns.map V.int)/\ns.length<=63/\k<=1000/\∀ H',d3 H H'->Q (.int (gW ns k)) H'
seal eK PS PE PT PA PG PI eV eQ in
theorem Du{f fm:Addr}{fd fdm:FuncData}(D:Df K mg "_law_number" lN f fd)(DM:Df K mg "_law_mixed" kY fm fdm)(T:Txt mg):d8 P w K mg base eu 2 f fd ["_law_script","_law_k"] (rD K):=by
 have GM:d8 P w K mg base eu 1 fm fdm ["_law_number_here","_law_k"] xS:=HM DM
 have bM:=DM.F.binds (ps:=["_law_number_here","_law_k"]) fun _ _ _ _ _ _ us J=>gG (fun _ _=>rfl) us J
 refine D.F.ok EA (fun vs H Q E h=>?_) (fun cdv A outer s H vs Q E hr h=>?_)
 ·obtain⟨a,ns,k,rfl,_⟩:=h
  rfl
 ·obtain⟨a,ns,k,rfl,hS,J,hk,kk⟩:=h
  refine⟨_,d6 (fE (eY (lV hr.units100) (pv 0) (fJ dZ) (eZ _)) (d9 (eG (eI GM hr rfl DM.m DM.F.kp bM .nil eM (dY d5 (dY (pv 1) dZ))))) fB)
   (d9 (eG (eI GM hr rfl DM.m DM.F.kp bM .nil eM (dY (fb fS (pv 0) (ek fY (pv 1) (fG gQ rfl T.len gf (dY (pv 0) dZ))) (fun _ _=>rfl)) (dY (pv 1) dZ))))),?_⟩
  refine⟨_,rfl,Nat.zero_le _,fun p U=>?_⟩
  have sm:d3 H (upd H p (.lst [])):=eh U
  refine⟨.list (ns.map .int),.list [],.lst (sm.seq hS) (wu ns),.lst (d4.of d7) .nil,lay_ints ns,rfl,Nat.le_trans (Nat.min_le_right _ _) (by decide),_,rfl,?_⟩
  cases ns with
  | nil=>
   refine eN ?_
   exact⟨_,rfl,17,k,rfl,by(clear J U hk;omega),by(clear J U;omega),kk _ sm⟩
  | cons n ns=>
   refine eD ?_
   have hn:(0:Int) < (((n::ns).map V.int).length:Nat):=by simp
   refine⟨_,rfl,_,rfl,_,rfl,_,_,rfl,.inl (sm.seq hS),_,_,rfl,rfl,hn,?_⟩
   have I:k % (n::ns).length < (n::ns).length:=Nat.mod_lt _ (by simp)
   have ei:((k:Nat):Int) % ((((n::ns).map V.int).length:Nat):Int)=((k % (n::ns).length:Nat):Int):=by rw [List.length_map];(clear I hn J U hk;omega)
   refine⟨a,_,_,.int ((n::ns)[k % (n::ns).length]),rfl,rfl,sm.seq hS,?_,_,rfl,_,k,rfl,by(clear ei I hn J U hk;omega),by(clear ei I hn J U;omega),kk _ sm⟩
   rw [ei]
   exact fC (by rw [List.getElem?_map,List.getElem?_eq_getElem I];rfl)
def zA:Sp:=fun vs H Q _=>∃(n:Int) (k:Nat),vs=[.int n,.int k]/\k < 10/\Q (.str (gX n k)) H
theorem tP:eX ["_law_number_here","_law_k","_law_base","_law_at"] ["_law_number_here","_law_k"] (er px):=⟨rfl,rfl,rfl,dk,rfl,dk,dk⟩
theorem EX:∀ k:Nat,k < 10->(Str.ofString "0123456789").cps.toList[k]? =some (48 + k):=dk
seal eK PS PE PT PA PG PI eV eQ in
theorem A1{f:Addr}{fd:FuncData}(D:Df K mg "_law_key" px f fd)(T:Txt mg):d8 P w K mg base eu 1 f fd ["_law_number_here","_law_k"] zA:=by
 refine D.F.ok tP (fun vs H Q E h=>?_) (fun cdv A outer s H vs Q E U h=>?_)
 ·obtain⟨n,k,rfl,_⟩:=h
  rfl
 ·obtain⟨n,k,rfl,hk,I⟩:=h
  have J:(sizeLine:Nat)=16777216:=sizeLine_eq
  refine⟨_,d6 (eE (i:=2) tP.nd rfl (Or.inl rfl) (g7 jn fF iq (gR (ek fY (pv 0) d5))))
   (d6 (eE (i:=3) tP.nd rfl (Or.inl rfl) (ek fY (ek g9 (pv 0) d5) (ek fQ (fG ko rfl T.len gf (dY (pv 2) dZ)) d5)))
   (d9 (eG (ek jl (ek jl (g7 jn (pv 2) iq (gR (pv 3))) (fb oM fF (pv 1) (fun _ _=>rfl))) (g7 jn (pv 2) (gR (pv 3)) iq))))),?_⟩
  have bl:=sG n
  have k1:=zD n
  refine⟨_,rfl,_,_,rfl,rfl,(by show(0:Int) < 6;decide),_,rfl,_,rfl,(by show 6<=sizeLine;(clear k1 bl hk;omega)),?_⟩
  refine⟨_,rfl,_,_,rfl,rfl,⟨by decide,by decide⟩,_,rfl,_,rfl,(by show(jy n).length<=sizeLine;(clear k1 hk;omega)),_,_,rfl,rfl,_,_,rfl,rfl,(by show(0:Int) < ((jy n).length:Nat) + 1;(clear k1 bl hk J;omega)),?_⟩
  refine⟨_,rfl,_,rfl,_,rfl,_,rfl,(by show(jy n).length<=sizeLine;(clear k1 hk;omega)),_,rfl,_,_,(48 + k),rfl,rfl,(by show 10<=sizeLine;(clear k1 bl hk;omega)),fC (EX k hk),_,_,rfl,rfl,(by show(jR n).length + 1<=sizeLine;(clear bl hk;omega)),?_⟩
  refine⟨_,rfl,_,rfl,_,rfl,_,rfl,(by show(jy n).length<=sizeLine;(clear k1 hk;omega)),_,_,rfl,rfl,?_,I⟩
  show(jR n++⟨#[48 + k]⟩:Str).length + (lx n).length<=sizeLine
  rw [PySem.Str.length_append]
  show(jR n).length + 1 + (lx n).length<=sizeLine
  (clear bl hk;omega)
end
theorem ze{H:Hp}{pa:Addr}{xs:List V}{qs:List (Str×Str)}{p:Addr}{q:Str×Str}(ha:H pa=some (.lst xs))(h:fX H xs (qs.map kp))(hp:H p=some (.tup [.str q.1,.str q.2])):fX (upd H pa (.lst (xs++[.ref p]))) (xs++[.ref p]) ((qs++[q]).map kp):=by
 have I:∀{b:Addr} {J:List V},H b=some (.tup J)->b≠pa:=fun e z=>by rw [z,ha] at e;cases e
 rw [List.map_append]
 exact Gn.Paired.app (Gn.Paired.imp2 h fun _ _ ⟨b,e,z⟩=>⟨b,e,by rw [eC (I z)];exact z⟩) ⟨p,rfl,by rw [eC (I hp)];exact hp⟩
theorem Ge{α:Type}(t:List (List α)):t.flatten.length=fO t:=by
 unfold fO
 exact List.length_flatten
theorem Eb{t:List (List Str)}(hl:t.length<=300)(h:fO t<=60):gJ t/\js t:=
 ⟨⟨hl,by omega⟩,t.flatten,by rw [Ge];omega,fun ws h1 x h2=>List.mem_flatten.mpr ⟨ws,h1,h2⟩⟩
theorem xG{ps:List (Str×Str)}{m:Nat}(h:∀ p∈ps,(tw p.2).length<=m):fO (d0 ps)<=ps.length * m:=by
 induction ps with
 | nil=>exact Nat.zero_le _
 | cons p r I=>
  have h1:=h p List.mem_cons_self
  have h2:=I fun q J=>h q (List.mem_cons_of_mem _ J)
  show((tw p.2).length::(d0 r).map List.length).sum<=_
  rw [List.sum_cons,List.length_cons,Nat.succ_mul]
  have U:fO (d0 r)=((d0 r).map List.length).sum:=rfl
  omega
section
variable {ns : List Int} {f : Nat} {ps : List (Str × Str)}
theorem mV.good (h:mV ns f ps):jh ps:=by
 refine⟨fun p J=>?_,?_⟩
 ·obtain⟨j,I⟩:=List.getElem?_of_mem J
  have U:j < ps.length:=(List.getElem?_eq_some_iff.mp I).1
  have:=h.l
  have:=h.f6
  obtain⟨t1,t2,_⟩:=h.t p J
  refine⟨by rw [h.k j p I];exact BE (by omega),?_⟩
  show(decide (p.2.length<=2000) && (codes p.2).all gy)=true
  rw [decide_eq_true (by omega),t2]
  rfl
 ·rw [List.Nodup,List.pairwise_iff_getElem]
  intro i j hi I aa e
  rw [List.length_map] at hi I
  rw [List.getElem_map,List.getElem_map,h.k i _ (List.getElem?_eq_getElem hi),h.k j _ (List.getElem?_eq_getElem I)] at e
  have:=uo e
  omega
end
section
variable {P : Program} {w : World} {K : PySem.W.Frag} {mg : Str -> Option Value} {base : Heap}
def vI(K:W.Frag):Sp:=fun vs H Q _=>∃(a b:Addr) (ns:List Int) (ws:List Str) (f m:Nat),vs=[.ref a,.int f,.int m,.ref b]/\f<=6/\d4 K H a (ns.map V.int)/\ns.length<=63/\m<=4/\H b=some (.lst (ws.map V.str))/\ws.length=5/\(∀ z∈ws,Wm z)/\
 ∀ l xs ps H',d3 H H'->H l=none->H' l=some (.lst xs)->fX H' xs (ps.map kp)->ps.length=m->mV ns f ps->Q (.ref l) H'
theorem rK:eX ["_law_script","_law_first","_law_many","_law_menu_here","_law_found","_law_k","_law_number_here"] ["_law_script","_law_first","_law_many","_law_menu_here"] (er og):=⟨rfl,rfl,rfl,dk,rfl,dk,dk⟩
seal eK PS PE PT PA PG PI eV eQ in
theorem Ia{f fn fk ft:Addr}{fd fdn fdk fdt:FuncData}(D:Df K mg "_law_pairs" og f fd)(DN:Df K mg "_law_number" lN fn fdn)(GN:d8 P w K mg base eu 2 fn fdn ["_law_script","_law_k"] (rD K))
  (DK:Df K mg "_law_key" px fk fdk)(GK:d8 P w K mg base eu 1 fk fdk ["_law_number_here","_law_k"] zA)(DT:Df K mg "_law_text" oI ft fdt)(GT:d8 P w K mg base eu 2 ft fdt ["_law_number_here","_law_menu_here","_law_many"] wO)(T:Txt mg):
  d8 P w K mg base eu 3 f fd ["_law_script","_law_first","_law_many","_law_menu_here"] (vI K):=by
 have bN:=DN.F.binds (ps:=["_law_script","_law_k"]) fun _ _ _ _ _ _ us hl=>gG (fun _ _=>rfl) us hl
 have bK:=DK.F.binds (ps:=["_law_number_here","_law_k"]) fun _ _ _ _ _ _ us hl=>gG (fun _ _=>rfl) us hl
 have bT:=DT.F.binds (ps:=["_law_number_here","_law_menu_here","_law_many"]) fun _ _ _ _ _ _ us hl=>match us,hl with | [_,_,_],_=>rfl
 refine D.F.ok rK (fun vs H Q E h=>?_) (fun cdv A outer s H vs Q E hr h=>?_)
 ·obtain⟨a,b,ns,ws,f0,m,rfl,_⟩:=h
  rfl
 ·obtain⟨a,b,ns,ws,f0,m,rfl,ae,hS,aa,hm,hB,h5,af,kk⟩:=h
  have hl:(sizeLine:Nat)=16777216:=sizeLine_eq
  refine⟨_,d6 (eE (i:=4) rK.nd rfl (Or.inl rfl) (fJ dZ))
   (d6 (fU PassesOwn.never rfl (iW rfl T.range (dY (pv 2) dZ)) (eO (i:=5) rK.nd rfl (Or.inl rfl))
    (d6 (eE (i:=6) rK.nd rfl (Or.inl rfl) (eI GN hr rfl DN.m DN.F.kp bN .nil eM (dY (pv 0) (dY (ek fQ (ek fQ d5 (pv 1)) (pv 5)) dZ))))
    (d9 (gq (gj F.plainAttrs_list F.slot_list_append F.type_list_append gT (pv 4)
     (dY (g8 (dY (eI (GK.mono (by decide)) hr rfl DK.m DK.F.kp bK .nil eM (dY (eI GN hr rfl DN.m DN.F.kp bN .nil eM (dY (pv 0) (dY d5 dZ))) (dY (ek fQ (pv 1) (pv 5)) dZ)))
      (dY (eI GT hr rfl DT.m DT.F.kp bT .nil eM (dY (pv 6) (dY (pv 3) (dY (ek fY (ek g9 (pv 6) d5) d5) dZ)))) dZ))) dZ))))))
   (d9 (eG (pv 4)))),?_⟩
  refine⟨Nat.zero_le _,fun l J=>?_⟩
  refine⟨_,rfl,m,rfl,by omega,by omega,?_⟩
  refine jM (fun i σ H'=>∃(xs:List V) (ps:List (Str×Str)) (v5 v6:Option V),σ=[some (.ref a),some (.int f0),some (.int m),some (.ref b),some (.ref l),v5,v6]/\d3 H H'/\H' l=some (.lst xs)/\fX H' xs (ps.map kp)/\ps.length=i/\
   (∀(j:Nat) p,ps[j]? =some p->p.1=gX (gW ns 9) (f0 + j))/\(∀ p∈ps,p.2.length<=1000/\(codes p.2).all gy=true/\(tw p.2).length<=6)) ?_ ?_ ?_
  ·exact⟨[],[],none,none,rfl,eh J,d7,.nil,rfl,(fun j p h=>by cases j<;>cases h),(fun p hp=>nomatch hp)⟩
  ·rintro i σ H' hi ⟨xs,ps,v5,v6,rfl,sm,hL,hP,hlen,hk,ht⟩
   have ar:i < m:=by simpa using hi
   refine⟨_,rfl,_,rfl,_,_,rfl,rfl,_,rfl,_,_,rfl,rfl,?_⟩
   refine⟨a,ns,20 + f0 + i,congrArg (fun z=>[V.ref a,V.int z]) (show(20 + (f0:Int) + (0 + (i:Int)))=((20 + f0 + i:Nat):Int) by omega),sm.seq hS,aa,by omega,fun H1 s1=>?_⟩
   have ag:=s1 _ _ hL
   refine⟨_,rfl,.inl ⟨rfl,_,d4.of ag⟩,_,rfl,?_⟩
   refine⟨a,ns,9,rfl,(sm.trans s1).seq hS,aa,by omega,fun H2 s2=>?_⟩
   refine⟨_,rfl,_,rfl,_,_,rfl,rfl,?_⟩
   refine⟨gW ns 9,f0 + i,congrArg (fun z=>[V.int (gW ns 9),V.int z]) (show((f0:Int) + (0 + (i:Int)))=((f0 + i:Nat):Int) by omega),by omega,?_⟩
   refine⟨_,rfl,_,rfl,_,rfl,_,_,rfl,rfl,⟨by decide,by decide⟩,_,_,rfl,rfl,(by show(0:Int) < 7;decide),?_⟩
   have m0:=Int.emod_nonneg (gW ns (20 + f0 + i) / 97) (show(7:Int)≠0 by decide)
   have m1:=Int.emod_lt_of_pos (gW ns (20 + f0 + i) / 97) (show(0:Int) < 7 by decide)
   have ah:=(sm.trans (s1.trans s2)) _ _ hB
   refine⟨gW ns (20 + f0 + i),b,ws,(gW ns (20 + f0 + i) / 97 % 7).toNat,congrArg (fun z=>[V.int (gW ns (20 + f0 + i)),V.ref b,V.int z]) (show gW ns (20 + f0 + i) / 97 % 7=((gW ns (20 + f0 + i) / 97 % 7).toNat:Int) by omega),by omega,ah,h5,af,fun x H3 s3 ai aj au=>?_⟩
   refine⟨(by show 2<=sizeLine;omega),fun q hq=>?_⟩
   have I:d3 H' (upd H3 q (.tup [.str (gX (gW ns 9) (f0 + i)),.str x])):=(s1.trans (s2.trans s3)).trans (eh hq)
   have ab:upd H3 q (.tup [.str (gX (gW ns 9) (f0 + i)),.str x]) q=some (.tup [.str (gX (gW ns 9) (f0 + i)),.str x]):=d7
   generalize upd H3 q (.tup [.str (gX (gW ns 9) (f0 + i)),.str x])=H4 at I ab ⊢
   have ak:=Gn.Paired.len hP
   rw [List.length_map] at ak
   refine⟨l,_,_,rfl,rfl,I _ _ hL,(by omega),?_⟩
   refine⟨xs++[.ref q],ps++[(gX (gW ns 9) (f0 + i),x)],_,_,rfl,fun c u e=>?_,d7,ze (I _ _ hL) (hP.same I) ab,by simp [hlen],fun j p hj=>?_,fun p hp=>?_⟩
   ·have hc:c≠l:=fun z=>by subst z;rw [J] at e;cases e
    rw [eC hc]
    exact I _ _ (sm _ _ e)
   ·by_cases ao:j < ps.length
    ·rw [List.getElem?_append_left ao] at hj
     exact hk j p hj
    ·have aq:j - ps.length=0:=by
      have:=(List.getElem?_eq_some_iff.mp hj).1
      rw [List.length_append] at this
      simp at this
      omega
     rw [List.getElem?_append_right (by omega),aq] at hj
     have e:(gX (gW ns 9) (f0 + i),x)=p:=Option.some.inj hj
     rw [<-e,show j=i by omega]
   ·rcases List.mem_append.mp hp with hp | hp
    ·exact ht p hp
    ·rw [List.mem_singleton.mp hp]
     exact⟨ai,aj,by show(tw x).length<=6;omega⟩
  ·rintro σ H' ⟨xs,ps,v5,v6,rfl,sm,hL,hP,hlen,hk,ht⟩
   have U:ps.length=m:=by simpa using hlen
   exact⟨_,rfl,kk l xs ps H' sm J hL hP U ⟨ae,by omega,hk,ht⟩⟩
end
section
variable {P : Program} {w : World} {K : PySem.W.Frag} {mg : Str -> Option Value} {base : Heap} {C CN CNo CW CWk : Addr}
theorem Hw{H:Hp}{x:V}{n:String}(h:gY K H x (.type n))(hn:n≠"tuple"):W.kitOne K (.type n) (.type "tuple")=some false:=by
 cases h<;>first | exact absurd rfl hn | kernel_rfl
inductive GV (K : W.Frag) (H : Hp) : V -> Option (V × V) -> Prop where
 | no {v : V} {n : String} (h : gY K H v (.type n)) (hn : n ≠ "tuple") : GV K H v none
 | len {p : Addr} {ys : List V} (h : H p = some (.tup ys)) (hl : ys.length ≠ 2) : GV K H (.ref p) none
 | two {p : Addr} {a b : V} (h : H p = some (.tup [a, b])) (ha : Known K H a) (hb : Known K H b) : GV K H (.ref p) (some (a, b))
def jP(lens:List Nat):Option (V×V)->Bool
 | some (.int i,b)=>g4 (.int i) 0 (some ((lens.length:Int) - 1)) && g4 b 0 (some (((lens.getD i.toNat 0:Nat):Int) - 1))
 | _=>false
def lQ(C:Addr)(H:Hp):List V->List (List (Str×Str))->Prop:=Paired fun v ps=>∃ x,v= .ref x/\gc C H x ps
theorem lQ.same {H H':Hp}{xs:List V}{t:List (List (Str×Str))}(h:lQ C H xs t)(s:d3 H H'):lQ C H' xs t:=Gn.Paired.imp2 h fun _ _ ⟨p,e,q⟩=>⟨p,e,q.same s⟩
theorem BA{H H':Hp}{x:V}{n:String}(h:gY K H x (.type n))(s:d3 H H'):gY K H' x (.type n):=by
 cases h with
 | non=>exact .non
 | bl b=>exact .bl b
 | int i=>exact .int i
 | str z=>exact .str z
 | flt z=>exact .flt z
 | lst q=>exact .lst (s _ _ q)
 | frz q=>exact .frz (s _ _ q)
 | tup q=>exact .tup (s _ _ q)
 | dK q=>exact .dK (s _ _ q)
 | dT q=>exact .dT (s _ _ q)
abbrev ij(i j:Nat):List Key:=[Sum.inl (i:Int),Sum.inl (j:Int)]
theorem Hu{a b c d:Nat}(h:ij a b=ij c d):a=c/\b=d:=by
 injection h with h1 h2
 injection h2 with h2 _
 have I:(a:Int)=c:=Sum.inl.inj h1
 have J:(b:Int)=d:=Sum.inl.inj h2
 exact⟨by omega,by omega⟩
def yZ(K:W.Frag)(C CN:Addr):Sp:=fun vs H Q E=>∃(bl gl:Addr) (bs gs:List V) (I:List (List (Str×Str))) (gvs:List (Option (V×V))),vs=[.ref bl,.ref gl]/\H bl=some (.lst bs)/\H gl=some (.lst gs)/\lQ C H bs I/\Paired (GV K H) gs gvs/\gs.length<=1000/\
 (gvs.all (jP (I.map List.length))=true->∀ p H' kvs,d3 H H'->H p=none->H' p=some (.dT kvs)->(∀ i j:Nat,(fH kvs (ij i j)).isSome=true↔some (V.int i,V.int j)∈gvs)->Q (.ref p) H')/\
 (gvs.all (jP (I.map List.length))=false->∀ H',d3 H H'->E (.ref CN) none H')
theorem rM:eX ["books","gone","found","thing","book"] ["books","gone"] (er pE):=⟨rfl,rfl,rfl,dk,rfl,dk,dk⟩
theorem rj{α:Type}{xs:List α}{f:α->Bool}{i:Nat}{x:α}(h:xs[i]? =some x)(hx:f x=false):xs.all f=false:=by
 cases e:xs.all f with
 | false=>rfl
 | true=>rw [List.all_eq_true.mp e x (List.mem_of_getElem? h)] at hx;cases hx
seal eK PS PE PT PA PG PI eV eQ in
theorem FV{f fm fn:Addr}{fd fdm fdn:FuncData}(D:Df K mg "need_gone" pE f fd)(B:iF K mg C)(FM:fD K "many" "Book.many" jO fm fdm)(mM:Meth K C "many" fm)(GM:d8 P w K mg base eu 1 fm fdm ["self"] (o9 C))
  (DN:ir K mg "need_number" kS fn fdn #[.none])(GN:d8 P w K mg base (eP P w) 2 fn fdn ["thing","least","most"] (tW K CN))(X:Ex K mg "BadNumber" CN)(T:Txt mg):d8 P w K mg base (eP P w) 3 f fd ["books","gone"] (yZ K C CN):=by
 have bM:=FM.binds (ps:=["self"]) fun _ _ _ _ _ _ us hl=>match us,hl with | [_],_=>rfl
 have bN:=DN.binds (ps:=["thing","least","most"]) (ds:=[]) fun T kV doc pm an cdv ct us hl=>match us,(show us.length=3 by simpa using hl) with | [_,_,_],_=>⟨_,rfl,rfl⟩
 refine D.F.ok1 rM (fun vs H Q E h=>?_) (fun cdv A outer s H vs Q E hr h=>?_)
 ·obtain⟨bl,gl,bs,gs,I,gvs,rfl,_⟩:=h
  rfl
 ·obtain⟨bl,gl,bs,gs,I,gvs,rfl,aj,ak,ao,aq,hlen,k1,k2⟩:=h
  have hl:(sizeLine:Nat)=16777216:=sizeLine_eq
  have hu:=jZ hr
  have av:=Gn.Paired.len ao
  have aw:=Gn.Paired.len aq
  refine⟨_,d6 (eE (i:=2) rM.nd rfl (Or.inl rfl) Cr)
   (d6 (fU PassesOwn.leaving rfl (gu (pv 1)) (eO (i:=3) rM.nd rfl (Or.inl rfl))
    (d6 (fE (PW.pt (gU (gH (gC (fG jJ rfl T.isi jH (dY (pv 3) (dY (jE (v:= .ty "tuple") rfl T.tuple nJ rfl) dZ)))))
     (ip (eY jv (fG gQ rfl T.len gf (dY (pv 3) dZ)) d5 (eZ _))))) (d9 (ki rfl X.q F.excBase_ValueError dk F.excBase_ValueError rfl X.m (dY fF dZ) kr)) fB)
    (d6 (eE (i:=4) rM.nd rfl (Or.inl rfl) (fb fS (pv 0) (eI GN hr rfl DN.m DN.kp bN .nil (iE (E':=E) (fun _ _ _ h=>h)) (dY (fb iu (pv 3) d5 (fun _ _=>rfl)) (dY d5 (dY (ek jc (fG gQ rfl T.len gf (dY (pv 0) dZ)) d5) dZ)))) (fun _ _=>rfl)))
    (d6 (gq (eI GN hr rfl DN.m DN.kp bN .nil (iE (E':=E) (fun _ _ _ h=>h)) (dY (fb iu (pv 3) d5 (fun _ _=>rfl)) (dY d5 (dY (ek jc (kW (pv 4) B.cl mM (GM.mono (by decide)) hr bM .nil eM) d5) dZ)))))
    (d9 (oH hu (pv 2) (pv 3) gM rfl))))))
   (d9 (eG (pv 2)))),?_⟩
  intro d hd
  refine⟨_,rfl,gl,rfl,⟨_,d4.of (eh hd _ _ ak)⟩,?_⟩
  refine iS (xs:=gs) (fun i σ H'=>∃(kvs:List (List Key×V)) (o3 o4:Option V),σ=[some (.ref bl),some (.ref gl),some (.ref d),o3,o4]/\d3 H H'/\H' d=some (.dT kvs)/\kvs.length<=i/\(gvs.take i).all (jP (I.map List.length))=true/\(∀ i' j':Nat,(fH kvs (ij i' j')).isSome=true↔some (V.int i',V.int j')∈gvs.take i)) ?_ ?_ ?_ ?_
  ·exact⟨[],none,none,rfl,eh hd,d7,Nat.le_refl _,rfl,fun i' j'=>⟨fun z=>(by cases z),fun z=>nomatch z⟩⟩
  ·rintro i σ H' _ ⟨_,_,_,_,J,_⟩
   exact d4.of (J _ _ ak)
  ·rintro i v σ H' hv ⟨kvs,o3,o4,rfl,J,ai,ar,U,ae⟩
   obtain⟨gv,aa,hG⟩:=gK aq hv
   have aB:=(List.getElem?_eq_some_iff.mp hv).1
   cases hG with
   | no h hn=>
    refine⟨_,rfl,v,.ty "tuple",_,_,rfl,BA h J,.inl ⟨_,rfl,Hw h hn⟩,_,rfl,eN (eN ⟨by show 1<=sizeLine;decide,k2 (rj aa rfl) H' J⟩)⟩
   | len h aC=>
    rename_i p ys
    refine⟨_,rfl,.ref p,.ty "tuple",_,_,rfl,.tup (J _ _ h),.inl ⟨_,rfl,qr⟩,_,rfl,eD ?_⟩
    refine⟨_,rfl,p,_,rfl,.inr (eW.of (J _ _ h)),rfl,_,rfl,?_⟩
    rw [jg (show((ys.length:Nat):Int)≠2 by omega)]
    exact eN ⟨by show 1<=sizeLine;decide,k2 (rj aa rfl) H' J⟩
   | two h ha hb=>
    rename_i p a b
    have h':=J _ _ h
    refine⟨_,rfl,.ref p,.ty "tuple",_,_,rfl,.tup h',.inl ⟨_,rfl,qr⟩,_,rfl,eD ?_⟩
    refine⟨_,rfl,p,_,rfl,.inr (eW.of h'),rfl,_,rfl,eD ?_⟩
    refine⟨_,rfl,_,rfl,p,_,_,_,rfl,rfl,eW.of h',fC (j:=0) rfl,_,rfl,bl,_,rfl,.inl (d4.of (J _ _ aj)),_,_,rfl,rfl,?_⟩
    have ag:bs.length=(I.map List.length).length:=by rw [av,List.length_map]
    refine⟨a,0,some (((bs.length:Nat):Int) - 1),rfl,ha.same J,fun hg=>?_,fun hg=>k2 (rj aa ?_) H' J⟩
    ·obtain⟨i0,rfl,aD⟩:=pH hg
     obtain⟨ps,au⟩:∃ ps,I[i0]? =some ps:=⟨I[i0]'(by omega),List.getElem?_eq_getElem (by omega)⟩
     obtain⟨bv,ax,x,rfl,ay⟩:=Gn.Paired.at ao au
     have ah:=ay.same J
     obtain⟨dx,dn,pa,sz,dr,ri,xs,es,ts,az,_⟩:=ah.ex
     refine⟨bl,_,_,_,rfl,rfl,d4.of (J _ _ aj),fC ax,?_⟩
     refine⟨_,rfl,p,_,_,_,rfl,rfl,eW.of h',fC (j:=1) rfl,_,rfl,x,dx,_,rfl,az,jj dk dk dk dk dk,?_⟩
     refine⟨x,ps,rfl,ah,_,_,rfl,rfl,?_⟩
     have ab:(I.map List.length).getD i0 0=ps.length:=by
      rw [List.getD_eq_getElem?_getD,List.getElem?_map,au]
      rfl
     refine⟨b,0,some ((ps.length:Int) - 1),rfl,hb.same J,fun af=>?_,fun af=>k2 (rj aa ?_) H' J⟩
     ·obtain⟨j0,rfl,aE⟩:=pH af
      refine⟨_,rfl,_,rfl,d,_,rfl,jG.t (k:=ij i0 j0) ai h' (by omega),?_⟩
      have aA:jP (I.map List.length) (some (V.int i0,V.int j0))=true:=by
       show(g4 (.int (i0:Int)) 0 _ && g4 (.int (j0:Int)) 0 (some ((((I.map List.length).getD (i0:Int).toNat 0:Nat):Int) - 1)))=true
       rw [Int.toNat_natCast,ab,af,<-ag,hg]
       rfl
      refine⟨_,_,_,rfl,fun q u e=>?_,d7,Nat.le_trans (ph _ _ _) (Nat.succ_le_succ ar),?_,fun i' j'=>?_⟩
      ·rw [eC (fv e hd)]
       exact J _ _ e
      ·rw [take_snoc aa,List.all_append,U]
       show(true && (jP _ _ && true))=true
       rw [aA]
       rfl
      ·rw [yU,take_snoc aa,List.mem_append,List.mem_singleton,<-ae]
       by_cases e:ij i' j'=ij i0 j0
       ·obtain⟨rfl,rfl⟩:=Hu e
        rw [if_pos rfl]
        exact⟨fun _=> .inr rfl,fun _=>rfl⟩
       ·rw [if_neg e]
        refine⟨.inl,fun z=>z.elim id fun z=>absurd ?_ e⟩
        have z':=Prod.mk.inj (Option.some.inj z)
        have z1:(i':Int)=i0:=V.int.inj z'.1
        have z2:(j':Int)=j0:=V.int.inj z'.2
        show [Sum.inl (i':Int),Sum.inl (j':Int)]=[Sum.inl (i0:Int),Sum.inl (j0:Int)]
        rw [z1,z2]
     ·show(g4 (.int (i0:Int)) 0 _ && g4 b 0 (some ((((I.map List.length).getD (i0:Int).toNat 0:Nat):Int) - 1)))=false
      rw [Int.toNat_natCast,ab,af,Bool.and_false]
    ·cases a with
     | int i0=>
      show(g4 (.int i0) 0 (some (((I.map List.length).length:Int) - 1)) && _)=false
      rw [<-ag,hg]
      rfl
     | _=>rfl
  ·rintro σ H' ⟨kvs,o3,o4,rfl,J,ai,ar,U,ae⟩
   rw [aw,List.take_length] at U ae
   exact⟨_,rfl,k1 U d H' kvs J hd ai ae⟩
end
def FC(cur:Str->List Pr):Hp->Addr->Str->Prop:=fun H a y=>fj H a (cur y)
structure ib (B H : Hp) (d : Addr) (es : En) (cur : Str -> List Pr) : Prop where
 l : DL B H d es (FC cur)
 k : ∀ y, y ∈ es.map (·.1) ↔ cur y ≠ []
def more(cur:Str->List Pr)(x:Str)(r:Pr):Str->List Pr:=fun y=>if y=x then cur x++[r] else cur y
theorem ib.app {B H2 H3:Hp}{d p:Addr}{es:En}{cur:Str->List Pr}{x:Str}{v:V}{r:Pr}{ys:List V}(hD:DL B H2 d es (FC cur))(hp:(x,p)∈es)(hk:∀ y,y∈es.map (·.1)↔cur y≠[]\/y=x)(s:d3 H2 H3)
  (hys:H2 p=some (.lst ys))(hpr:Paired (gB H2) ys (cur x))(hv:gB H3 v r):ib B (upd H3 p (.lst (ys++[v]))) d es (more cur x r):=by
 have J:SameBut p H2 (upd H3 p (.lst (ys++[v]))):=fun b u q hb=>by rw [eC hb];exact s _ _ q
 have U:=fj.snoc (s _ _ hys) (Gn.Paired.imp2 hpr fun _ _ q=>q.same s) hv
 have I:d≠p:=fun q=>by rw [<-q,hD.d] at hys;cases hys
 refine⟨hD.put hp (J _ _ hD.d I) (fun e he n1 n2 hf=>?_) ?_,fun y=>?_⟩
 ·show fj _ e.2 (more cur x r e.1)
  rw [more,if_neg n1]
  exact fj.but hf J n2 fun ts q=>by rw [hys] at q;cases q
 ·show fj _ p (more cur x r x)
  rw [more,if_pos rfl]
  exact U
 ·rw [hk]
  unfold more
  by_cases e:y=x
  ·rw [if_pos e]
   exact⟨fun _=>by simp,fun _=> .inr e⟩
  ·rw [if_neg e]
   exact⟨fun z=>z.elim id fun z=>absurd z e,.inl⟩
theorem ib.cong {B H:Hp}{d:Addr}{es:En}{cur cur':Str->List Pr}(h:ib B H d es cur)(e:∀ y,cur y=cur' y):ib B H d es cur':=by
 have:cur=cur':=funext e
 rw [<-this]
 exact h
theorem Gs{z y:Str}(hz:Drawn z)(h:y∈tw z):fV 2000 (.str y)=true:=by
 unfold tw at h
 obtain⟨x,J,rfl⟩:=List.mem_map.mp h
 obtain⟨h1,h2,h3,h4⟩:=rT (codes z) x J
 have I:(codes z).length=z.length:=by unfold codes;simp [Str.length]
 have U:=hz.1
 show(decide (1<=(⟨x.1.toArray⟩:Str).length) && decide ((⟨x.1.toArray⟩:Str).length<=2000) && x.1.toArray.toList.all fq)=true
 rw [iK]
 have hp:0 < x.1.length:=List.length_pos_iff.mpr h1
 rw [decide_eq_true (by omega),decide_eq_true (by omega)]
 simpa using h2
section
variable {P : Program} {w : World} {K : PySem.W.Frag} {mg : Str -> Option Value} {base : Heap} {C CN CW : Addr}
def vU(C:Addr):Sp:=fun vs H Q _=>∃(d x dn:Addr) (J B:Hp) (es:En) (ta:List (List Str)) (ps:List (Str×Str)) (ks:List Bool) (kvs:List (Key×V)),vs=[.ref d,.ref x,.ref dn]/\d3 J H/\gc C J x ps/\jh ps/\gJ (d0 ps)/\
 (∀ z,B z=none->J z=none)/\(∀ z,H z=none->B z=none)/\B d=none/\ib B H d es (fun y=>rowOf y ta 0)/\H dn=some (.dK kvs)/\dn≠d/\ks.length=ps.length/\
 (∀ n:Nat,fH kvs (Sum.inl (n:Int))=if ks[n]? =some true then some (.int ((ta.length + cnt ks n:Nat):Int)) else none)/\es.length<=2000/\ta.length<=1000/\
 ∀ I H',d3 J H'->(∀ b u o,H b=some u->B b=some o->H' b=some u)->(∀ b q,H b=some (.tup q)->H' b=some (.tup q))->ib B H' d I (fun y=>rowOf y (ta++fL ks (d0 ps)) 0)->I.length<=es.length + fO (d0 ps)->Q .non H'
theorem rP:eX ["rows","book","new_numbers","word","number","places"] ["rows","book","new_numbers"] (er oo):=⟨rfl,rfl,rfl,dk,rfl,dk,dk⟩
seal eK PS PE PT PA PG PI eV eQ in
theorem CS{f fw fr:Addr}{fd fdw fdr:FuncData}(D:Df K mg "pour_rows" oo f fd)(B:iF K mg C)(FW:fD K "words" "Book.words" kK fw fdw)(mW:Meth K C "words" fw)(GW:d8 P w K mg base eu 1 fw fdw ["self"] (sy C))
  (FR:fD K "row_of" "Book.row_of" kJ fr fdr)(mR:Meth K C "row_of" fr)(GR:d8 P w K mg base (eP P w) 5 fr fdr ["self","word"] (uj K C CW)):d8 P w K mg base eu 6 f fd ["rows","book","new_numbers"] (vU C):=by
 have bW:=FW.binds (ps:=["self"]) fun _ _ _ _ _ _ us hl=>match us,hl with | [_],_=>rfl
 have bR:=FR.binds (ps:=["self","word"]) fun _ _ _ _ _ _ us hl=>match us,hl with | [_,_],_=>rfl
 refine D.F.ok rP (fun vs H Q E h=>?_) (fun cdv A outer s H vs Q E hr h=>?_)
 ·obtain⟨d,x,dn,B0,Bs,es,ta,ps,ks,kvs,rfl,_⟩:=h
  rfl
 ·obtain⟨d,x,dn,B0,Bs,aD,ta,ps,ks,kvs,rfl,s0,aE,hg,av,aZ,bh,aR,aj,bj,bo,a0,a3,bG,bH,k⟩:=h
  have hl:(sizeLine:Nat)=16777216:=sizeLine_eq
  have hu:=jZ hr
  have bI:=aE.ex
  refine⟨_,d9 (fU PassesOwn.never rfl (gu (kW (pv 1) B.cl mW (GW.mono (by decide)) hr bW .nil eM)) (eO (i:=3) rP.nd rfl (Or.inl rfl))
   (d9 (fU PassesOwn.never rfl (gu (iO (pv 1) B.cl mR GR hr bR .nil hV (dY (pv 3) dZ))) (iz (n:=2) rfl (gh (eO (i:=4) rP.nd rfl (Or.inl rfl)) (gh (eO (i:=5) rP.nd rfl (Or.inl rfl)) iC)))
    (d9 (fE (kH (yn hu (pv 4) (pv 2)))
     (d9 (gq (gj F.plainAttrs_list F.slot_list_append F.type_list_append gT
      (PE.imp (t':=pZ 0 3) (gj F.plainAttrs_dict F.slot_dict_setdefault F.type_dict_setdefault qV (pv 0) (dY (pv 3) (dY (fJ dZ) dZ))) fun _ _ _=>getL)
      (dY (g8 (dY (oK hu (pv 2) (pv 4) (fun _ _=>rfl)) (dY (pv 5) dZ))) dZ)))) fB))))),?_⟩
  obtain⟨dx,bJ,pa,sz,dr,ri,bp,ar,bq,aS,_⟩:=(aE.same s0).ex
  refine⟨_,rfl,x,dx,_,rfl,aS,jj dk dk dk dk dk,?_⟩
  refine⟨x,ps,rfl,aE.same s0,fun lw U H1 s1 br hL a4 aT _=>?_⟩
  have aU:ks.length=(d0 ps).length:=by rw [a0];unfold d0;rw [List.length_map]
  have bK:U.length<=fO (d0 ps):=by
   have h1:=oX a4 (m:=(d0 ps).flatten) fun y hy=>by
    obtain⟨ws,a,b⟩:=(aT y).mp hy
    exact List.mem_flatten.mpr ⟨ws,a,b⟩
   rw [List.length_flatten] at h1
   exact h1
  have bL:=av.t
  have bM:=av.l
  refine⟨lw,rfl,⟨_,d4.of hL⟩,?_⟩
  have a5:∀ y,rowOf y (ta++fL ks (d0 ps)) 0=rowOf y ta 0++gp ks ta.length (rowOf y (d0 ps) 0):=fun y=>by
   rw [x9,Nat.zero_add,ER y ta.length ks (d0 ps) aU]
  have e0:(sl U).length=U.length:=List.length_map _
  refine iS (xs:=sl U) (fun i σ H'=>∃(es:En) (o3 o4 o5:Option V),σ=[some (.ref d),some (.ref x),some (.ref dn),o3,o4,o5]/\d3 B0 H'/\(∀ b u o,H b=some u->Bs b=some o->H' b=some u)/\(∀ b q,H b=some (.tup q)->H' b=some (.tup q))/\(∀ z,H' z=none->Bs z=none)/\H' dn=some (.dK kvs)/\H' lw=some (.lst (sl U))/\(∀ e∈es,e.2≠lw)/\
   ib Bs H' d es (fun y=>if y∈U.take i then rowOf y ta 0++gp ks ta.length (rowOf y (d0 ps) 0) else rowOf y ta 0)/\es.length<=aD.length + i) ?_ ?_ ?_ ?_
  ·refine⟨aD,none,none,none,rfl,s0.trans s1,fun b u o e _=>s1 _ _ e,fun b q e=>s1 _ _ e,fun z hz=>bh z (s1.free hz),s1 _ _ bj,hL,fun e he q=>?_,⟨⟨s1 _ _ aj.l.d,aj.l.k,aj.l.a,aj.l.n,fun e he=>?_⟩,fun y=>?_⟩,Nat.le_refl _⟩
   ·obtain⟨ys,h1,_⟩:=aj.l.f e he
    rw [q,br] at h1
    cases h1
   ·show fj H1 e.2 (if e.1∈U.take 0 then _ else rowOf e.1 ta 0)
    rw [if_neg (by simp)]
    exact(aj.l.f e he).same s1
   ·rw [if_neg (by simp)]
    exact aj.k y
  ·rintro i σ H' _ ⟨_,_,_,_,_,_,_,_,_,_,h,_⟩
   exact d4.of h
  ·rintro i v σ H' hv ⟨es,o3,o4,o5,rfl,sB,fr,tp,a6,aJ,aK,a7,hR,aF⟩
   obtain⟨I,aG,rfl⟩:=j9 hv
   have bN:=(List.getElem?_eq_some_iff.mp aG).1
   have bt:I∈U:=List.mem_of_getElem? aG
   have aL:I∉U.take i:=pI a4 aG
   have aM:=aE.same sB
   obtain⟨dx,bO,pa,sz,dr,ri,bp,ar,bq,aS,_⟩:=aM.ex
   have aw:fV 2000 (.str I)=true:=by
    obtain⟨ws,a,b⟩:=(aT I).mp bt
    unfold d0 at a
    obtain⟨p,hp,rfl⟩:=List.mem_map.mp a
    exact Gs (m4 (hg.g p hp).2) b
   have bP:I.length<=2000:=by
    have h1:(decide (1<=I.length) && decide (I.length<=2000) && I.cps.toList.all fq)=true:=aw
    rw [Bool.and_eq_true,Bool.and_eq_true] at h1
    exact of_decide_eq_true h1.1.2
   refine⟨_,rfl,x,dx,_,rfl,aS,jj dk dk dk dk dk,_,rfl,?_⟩
   refine⟨x,ps,.str I,rfl,aM,av,⟨_,.str _⟩,(fun z e=>by injection e with e;rw [<-e];omega),fun z l H2 e _ s2 bu bw=>?_,fun e=>by rw [aw] at e;cases e⟩
   injection e with e
   subst e
   obtain⟨ys,a8,a9⟩:=bw
   have bx:=Gn.Paired.len a9
   have bQ:=(lO I (d0 ps) 0).1
   refine⟨l,rfl,⟨_,d4.of a8⟩,?_⟩
   refine iS (xs:=ys) (fun j σ H3=>∃(es:En) (o4 o5:Option V),σ=[some (.ref d),some (.ref x),some (.ref dn),some (.str I),o4,o5]/\d3 B0 H3/\(∀ b u o,H b=some u->Bs b=some o->H3 b=some u)/\(∀ b q,H b=some (.tup q)->H3 b=some (.tup q))/\(∀ z,H3 z=none->Bs z=none)/\H3 dn=some (.dK kvs)/\H3 lw=some (.lst (sl U))/\(∀ e∈es,e.2≠lw)/\
    H3 l=some (.lst ys)/\Paired (gB H3) ys (rowOf I (d0 ps) 0)/\(∀ e∈es,e.2≠l)/\
    ib Bs H3 d es (fun y=>if y=I then rowOf I ta 0++gp ks ta.length ((rowOf I (d0 ps) 0).take j) else if y∈U.take i then rowOf y ta 0++gp ks ta.length (rowOf y (d0 ps) 0) else rowOf y ta 0)/\es.length<=aD.length + i + 1/\(I∉es.map (·.1)->es.length<=aD.length + i)) ?_ ?_ ?_ ?_
   ·refine⟨es,_,_,rfl,sB.trans s2,fun b u o e1 e2=>s2 _ _ (fr b u o e1 e2),fun b q e=>s2 _ _ (tp b q e),fun z hz=>a6 z (s2.free hz),s2 _ _ aJ,s2 _ _ aK,a7,a8,a9,fun e he q=>?_,⟨⟨s2 _ _ hR.l.d,hR.l.k,hR.l.a,hR.l.n,fun e he=>?_⟩,fun y=>?_⟩,Nat.le_succ_of_le aF,fun _=>aF⟩
    ·obtain⟨zs,h1,_⟩:=hR.l.f e he
     rw [q,bu] at h1
     cases h1
    ·have hf:fj H' e.2 (if e.1∈U.take i then rowOf e.1 ta 0++gp ks ta.length (rowOf e.1 (d0 ps) 0) else rowOf e.1 ta 0):=hR.l.f e he
     show fj H2 e.2 (if e.1=I then _ else _)
     by_cases q:e.1=I
     ·rw [if_pos q]
      rw [q,if_neg aL] at hf
      show fj H2 e.2 (rowOf I ta 0++[])
      rw [List.append_nil]
      exact hf.same s2
     ·rw [if_neg q]
      exact hf.same s2
    ·rw [hR.k y]
     by_cases q:y=I
     ·rw [if_pos q,q,if_neg aL]
      show _↔rowOf I ta 0++[]≠[]
      rw [List.append_nil]
     ·rw [if_neg q]
   ·rintro j σ H3 _ ⟨_,_,_,_,_,_,_,_,_,_,_,h,_⟩
    exact d4.of h
   ·rintro j v σ H3 hv ⟨es,o4,o5,rfl,aH,aI,ax,ae,af,aa,ag,ah,ak,ab,J,ao,ay⟩
    obtain⟨r,bz,ba⟩:=gK ak hv
    obtain⟨n,pl⟩:=r
    cases ba with
    | mk h ht=>
     rename_i p t
     have bb:(rowOf I (d0 ps) 0).take (j + 1)=(rowOf I (d0 ps) 0).take j++[(n,pl)]:=take_snoc bz
     refine⟨p,_,rfl,eW.of h,rfl,_,_,rfl,_,_,rfl,rfl,?_⟩
     refine⟨_,rfl,_,rfl,dn,_,rfl,ic.k (k:=Sum.inl (n:Int)) af,_,rfl,?_⟩
     rw [a3 n]
     by_cases az:ks[n]? =some true
     ·rw [if_pos az]
      refine eN ?_
      have aA:gp ks ta.length ((rowOf I (d0 ps) 0).take (j + 1))=gp ks ta.length ((rowOf I (d0 ps) 0).take j)++[(ta.length + cnt ks n,pl)]:=by
       rw [bb,rV]
       congr 1
       show(if ks[n]? =some true then _ else _)=_
       rw [if_pos az]
       rfl
      have bA:∀ e'∈es,∃ q,H3 e'.2=some (.lst q):=fun e' bB=>let ⟨zs,h1,_⟩:=J.l.f e' bB;⟨zs,h1⟩
      refine⟨Bs,d,es,I,FC _,rfl,rfl,J.l,by omega,ae,bA,?_,?_,?_⟩
      ·intro G b y q sb hb hf
       exact fj.but hf sb (fun e=>by rw [e,J.l.d] at hb;cases hb) fun U e=>by rw [J.l.d] at e;cases e
      ·intro G z hn hz
       refine⟨[],hz,?_⟩
       have:¬ _≠[]:=fun e=>hn ((J.k I).mpr e)
       have h0:=Classical.not_not.mp this
       dsimp only
       rw [h0]
       exact .nil
      ·rintro pp ar H4 sb aV hp aW ⟨q,bS⟩
       obtain⟨zs,au,bc⟩:=aV.f _ hp
       have aq:=sb _ _ af bo
       have aB:∀{b:Addr} {q:List V},H3 b=some (.lst q)->b≠d:=fun e z=>by rw [z,J.l.d] at e;cases e
       have aN:∀{b:Addr} {q:List V},H3 b=some (.tup q)->b≠d:=fun e z=>by rw [z,J.l.d] at e;cases e
       refine⟨.inl ⟨rfl,_,d4.of au⟩,?_⟩
       have bC:some (V.int ((ta.length + cnt ks n:Nat):Int))=fH kvs (Sum.inl (n:Int)):=by rw [a3 n,if_pos az]
       refine⟨_,rfl,_,rfl,dn,_,rfl,.inl ⟨kvs,Sum.inl (n:Int),.inl aq,rfl,bC⟩,_,rfl,(by show 2<=sizeLine;decide),fun pt bD=>?_⟩
       have s5:d3 H4 (upd H4 pt (.tup [.int ((ta.length + cnt ks n:Nat):Int),.ref t])):=eh bD
       have h5:upd H4 pt (.tup [.int ((ta.length + cnt ks n:Nat):Int),.ref t]) pt=some (.tup [.int ((ta.length + cnt ks n:Nat):Int),.ref t]):=d7
       generalize upd H4 pt (.tup [.int ((ta.length + cnt ks n:Nat):Int),.ref t])=H5 at s5 h5 ⊢
       have bE:gB H5 (.ref pt) (ta.length + cnt ks n,pl):= .mk h5 (s5 _ _ (sb _ _ ht (aN ht)))
       have bT:zs.length<=10000:=by
        have h1:=Gn.Paired.len bc
        rw [h1]
        show(if I=I then rowOf I ta 0++gp ks ta.length ((rowOf I (d0 ps) 0).take j) else _).length<=_
        rw [if_pos rfl,List.length_append]
        have h2:=(lO I ta 0).1
        have h3:∀(l:List Pr),(gp ks ta.length l).length<=l.length:=fun l=>by
         induction l with
         | nil=>exact Nat.le_refl _
         | cons a l ih=>
          obtain⟨a1,a2⟩:=a
          show(if ks[a1]? =some true then _::gp ks ta.length l else gp ks ta.length l).length<=l.length + 1
          by_cases e:ks[a1]? =some true
          ·rw [if_pos e];exact Nat.succ_le_succ ih
          ·rw [if_neg e];exact Nat.le_succ_of_le ih
        have h4:=h3 ((rowOf I (d0 ps) 0).take j)
        rw [List.length_take] at h4
        omega
       refine⟨pp,zs,_,rfl,rfl,s5 _ _ au,by omega,?_⟩
       have aC:∀ e∈ar,e.2≠lw/\e.2≠l:=fun e he=>by
        rcases aW with rfl | ⟨_,rfl,bf⟩
        ·exact⟨ag e he,ab e he⟩
        ·rcases List.mem_append.mp he with he | he
         ·exact⟨ag e he,ab e he⟩
         ·rw [List.mem_singleton.mp he]
          exact⟨Ne.symm (fv aa bf),Ne.symm (fv ah bf)⟩
       have aO:=aC _ hp
       have aX:∀ y,y∈ar.map (·.1)↔(if y=I then rowOf I ta 0++gp ks ta.length ((rowOf I (d0 ps) 0).take j) else if y∈U.take i then rowOf y ta 0++gp ks ta.length (rowOf y (d0 ps) 0) else rowOf y ta 0)≠[]\/y=I:=fun y=>by
        have hm:y∈ar.map (·.1)↔y∈es.map (·.1)\/y=I:=by
         rcases aW with rfl | ⟨_,rfl,_⟩
         ·exact⟨.inl,fun q=>q.elim id fun z=>by rw [z];exact List.mem_map.mpr ⟨_,hp,rfl⟩⟩
         ·rw [List.map_append,List.mem_append]
          show(_\/y∈[I])↔_
          rw [List.mem_singleton]
        rw [hm,J.k y]
       have aP:=ib.app aV hp aX s5 au bc bE
       have ai:SameBut pp H4 (upd H5 pp (.lst (zs++[.ref pt]))):=fun b u q hb=>by rw [eC hb];exact s5 _ _ q
       have aY:Bs pp=none:=aV.n _ hp
       have bg:∀ b u,B0 b=some u->H4 b=some u:=fun b u e=>sb _ _ (aH _ _ e) fun q=>by
        have:=aZ d aR
        rw [<-q,e] at this
        cases this
       have aQ:∀ z,(upd H5 pp (.lst (zs++[.ref pt]))) z=none->Bs z=none:=fun z hz=>by
        by_cases e:z=pp
        ·rw [e];exact aY
        ·rw [eC e] at hz
         by_cases e2:z=d
         ·rw [e2];exact aR
         ·refine ae z ?_
          cases q:H3 z with
          | none=>rfl
          | some u=>rw [s5 _ _ (sb _ _ q e2)] at hz;cases hz
       generalize upd H5 pp (.lst (zs++[.ref pt]))=H7 at aP ai aQ ⊢
       refine⟨ar,_,_,rfl,fun b u e=>?_,fun b u o e1 e2=>?_,fun b q e=>?_,aQ,?_,?_,fun e he=>(aC e he).1,?_,?_,fun e he=>(aC e he).2,aP.cong fun y=>?_,?_,fun hn=>?_⟩
       ·exact ai _ _ (bg b u e) fun q=>by
         have:=aZ pp aY
         rw [<-q,e] at this
         cases this
       ·exact ai _ _ (sb _ _ (aI b u o e1 e2) fun q=>by rw [q,aR] at e2;cases e2) fun q=>by rw [q,aY] at e2;cases e2
       ·have h4:=sb _ _ (ax b q e) (aN (ax b q e))
        exact ai _ _ h4 fun q=>by rw [q,au] at h4;cases h4
       ·exact ai _ _ aq fun q=>by rw [q,au] at aq;cases aq
       ·exact ai _ _ (sb _ _ aa (aB aa)) (Ne.symm aO.1)
       ·exact ai _ _ (sb _ _ ah (aB ah)) (Ne.symm aO.2)
       ·exact Gn.Paired.imp2 ak fun _ _ q=>(q.but sb (fun U e=>by rw [J.l.d] at e;cases e)).but ai fun U e=>by rw [au] at e;cases e
       ·unfold more
        dsimp only
        by_cases e:y=I
        ·rw [if_pos e,if_pos e,if_pos rfl,aA,List.append_assoc]
        ·rw [if_neg e,if_neg e,if_neg e]
       ·rcases aW with rfl | ⟨bF,rfl,_⟩
        ·exact ao
        ·have:=ay bF
         rw [List.length_append]
         show es.length + 1<=_
         omega
       ·exact absurd (List.mem_map.mpr ⟨_,hp,rfl⟩) hn
     ·rw [if_neg az]
      refine eD ?_
      have aA:gp ks ta.length ((rowOf I (d0 ps) 0).take (j + 1))=gp ks ta.length ((rowOf I (d0 ps) 0).take j):=by
       rw [bb,rV]
       show _++(if ks[n]? =some true then _ else _)=_
       rw [if_neg az]
       exact List.append_nil _
      exact⟨es,_,_,rfl,aH,aI,ax,ae,af,aa,ag,ah,ak,ab,J.cong fun y=>by rw [aA],ao,ay⟩
   ·rintro σ H3 ⟨es,o4,o5,rfl,aH,aI,ax,ae,af,aa,ag,ah,ak,ab,J,ao,_⟩
    rw [bx,List.take_length] at J
    refine⟨es,_,_,_,rfl,aH,aI,ax,ae,af,aa,ag,J.cong fun y=>?_,ao⟩
    have em:y∈U.take (i + 1)↔y∈U.take i\/y=I:=by rw [take_snoc aG,List.mem_append,List.mem_singleton]
    by_cases q:y=I
    ·rw [if_pos q,if_pos (em.mpr (.inr q)),q]
    ·rw [if_neg q]
     by_cases q2:y∈U.take i
     ·rw [if_pos q2,if_pos (em.mpr (.inl q2))]
     ·rw [if_neg q2,if_neg fun z=>(em.mp z).elim q2 q]
  ·rintro σ H' ⟨es,o3,o4,o5,rfl,sB,fr,tp,a6,aJ,aK,a7,hR,aF⟩
   rw [e0,List.take_length] at hR
   rw [e0] at aF
   refine k es H' sB fr tp (hR.cong fun y=>?_) (by omega)
   rw [a5 y]
   by_cases q:y∈U
   ·rw [if_pos q]
   ·rw [if_neg q,(kT y (d0 ps) 0).mpr fun ws hw z=>q ((aT y).mpr ⟨ws,hw,z⟩)]
    exact(List.append_nil _).symm
end
def gI(gvs:List (Option (V×V)))(i n:Nat):List Bool:=(List.range n).map fun(j:Nat)=> !decide (some (V.int (i:Int),V.int (j:Int))∈gvs)
theorem uD(gvs:List (Option (V×V)))(i n:Nat):(gI gvs i n).length=n:=by unfold gI;simp
theorem HZ{gvs:List (Option (V×V))}{i n j:Nat}(h:j < n):(gI gvs i n)[j]? =some (!decide (some (V.int (i:Int),V.int (j:Int))∈gvs)):=by
 unfold gI
 rw [List.getElem?_map,List.getElem?_range h]
 rfl
def kept(gvs:List (Option (V×V))):Nat->List (List (Str×Str))->List (Str×Str)
 | _,[]=>[]
 | i,ps::r=>fL (gI gvs i ps.length) ps++kept gvs (i + 1) r
theorem vn(gvs:List (Option (V×V)))(ps:List (Str×Str)):∀(a:List (List (Str×Str))) (s:Nat),kept gvs s (a++[ps])=kept gvs s a++fL (gI gvs (s + a.length) ps.length) ps
 | [],s=>by
  show fL _ ps++[]=[]++_
  rw [List.append_nil,List.nil_append]
  rfl
 | x::a,s=>by
  show fL _ x++kept gvs (s + 1) (a++[ps])=(fL _ x++kept gvs (s + 1) a)++_
  rw [vn gvs ps a (s + 1),List.append_assoc]
  have e:s + 1 + a.length=s + (x::a).length:=by rw [List.length_cons];omega
  rw [e]
theorem ur(gvs:List (Option (V×V))):∀(a:List (List (Str×Str))) (s:Nat),(kept gvs s a).Sublist a.flatten
 | [],s=>List.nil_sublist _
 | x::a,s=>by
  show(fL _ x++kept gvs (s + 1) a).Sublist (x++a.flatten)
  exact(rF _ x).append (ur gvs a (s + 1))
theorem uy{α:Type}:∀{a b:List (List α)},a.Sublist b->fO a<=fO b
 | _,_,.slnil=>Nat.le_refl _
 | _,_,.cons x h=>by
  have:=uy h
  show _<=x.length + fO _
  omega
 | _,_,.cons_cons x h=>by
  have:=uy h
  show x.length + fO _<=x.length + fO _
  omega
theorem gJ.sub {a b:List (Str×Str)}(h:gJ (d0 b))(s:a.Sublist b):gJ (d0 a):=by
 have s2:(d0 a).Sublist (d0 b):=s.map _
 exact⟨Nat.le_trans s2.length_le h.l,Nat.le_trans (uy s2) h.t⟩
theorem js.sub {a b:List (Str×Str)}(h:js (d0 b))(s:a.Sublist b):js (d0 a):=by
 obtain⟨us,h1,h2⟩:=h
 exact⟨us,h1,fun ws hw=>h2 ws ((s.map (fun p:Str×Str=>tw p.2)).mem hw)⟩
theorem pQ:∀{a b:List (Str×Str)},a.map kp=b.map kp->a=b
 | [],[],_=>rfl
 | [],_::_,h=>by cases h
 | _::_,[],h=>by cases h
 | x::a,y::b,h=>by
  rw [List.map_cons,List.map_cons] at h
  obtain⟨h1,h2⟩:=List.cons.inj h
  obtain⟨I,J⟩:=Prod.mk.inj h1
  have e:x=y:=Prod.ext (V.str.inj I) (V.str.inj J)
  rw [e,pQ h2]
theorem zj:∀{ps:List (Str×Str)} {seen:List Str} {i:Nat},(∀ p∈ps,fV 12 (.str p.1)=true/\gL (.str p.2)=true)->iV seen (ps.map kp)=some i->i=2/\¬ ((ps.map (·.1)).Nodup/\∀ p∈ps,p.1∉seen)
 | [],_,_,_,h=>by cases h
 | p::ps,seen,i,U,h=>by
  obtain⟨g1,g2⟩:=U p List.mem_cons_self
  have h':(if fV 12 (.str p.1)=false then some 0 else if gL (.str p.2)=false then some 1 else if p.1∈seen then some 2 else iV (seen++[p.1]) (ps.map kp))=some i:=h
  rw [if_neg (by rw [g1];decide),if_neg (by rw [g2];decide)] at h'
  by_cases J:p.1∈seen
  ·rw [if_pos J] at h'
   exact⟨(Option.some.inj h').symm,fun z=>z.2 p List.mem_cons_self J⟩
  ·rw [if_neg J] at h'
   obtain⟨e,hn⟩:=zj (fun q I=>U q (List.mem_cons_of_mem _ I)) h'
   refine⟨e,fun z=>hn ?_⟩
   have z1:(p.1::ps.map (·.1)).Nodup:=z.1
   obtain⟨n1,n2⟩:=List.nodup_cons.mp z1
   refine⟨n2,fun q I hm=>?_⟩
   rcases List.mem_append.mp hm with hm | hm
   ·exact z.2 q (List.mem_cons_of_mem _ I) hm
   ·exact n1 (by rw [<-List.mem_singleton.mp hm];exact List.mem_map.mpr ⟨q,I,rfl⟩)
section
variable {P : Program} {w : World} {K : PySem.W.Frag} {mg : Str -> Option Value} {base : Heap} {C CN CK CT CW : Addr}
theorem ib.but {B H H':Hp}{d x:Addr}{es:En}{cur:Str->List Pr}(h:ib B H d es cur)(s:SameBut x H H')(nd:d≠x)(nt:∀ ts,H x≠some (.tup ts))(ne:∀ e∈es,e.2≠x):ib B H' d es cur:=
 ⟨⟨s _ _ h.l.d nd,h.l.k,h.l.a,h.l.n,fun e he=>fj.but (h.l.f e he) s (ne e he) nt⟩,h.k⟩
theorem ib.same {B H H':Hp}{d:Addr}{es:En}{cur:Str->List Pr}(h:ib B H d es cur)(s:d3 H H'):ib B H' d es cur:=
 ⟨⟨s _ _ h.l.d,h.l.k,h.l.a,h.l.n,fun e he=>fj.same (h.l.f e he) s⟩,h.k⟩
def q9(K:W.Frag)(H:Hp)(g:V)(gvs:List (Option (V×V))):Prop:=(g= .non/\gvs=[])\/∃ gl gs,g= .ref gl/\H gl=some (.lst gs)/\Paired (GV K H) gs gvs/\gs.length<=1000
def uP(K:W.Frag)(C CN CW:Addr):Sp:=fun vs H Q E=>∃(bl:Addr) (g:V) (bs:List V) (I:List (List (Str×Str))) (gvs:List (Option (V×V))),vs=[.ref bl,g]/\H bl=some (.lst bs)/\lQ C H bs I/\(∀ ps∈I,jh ps)/\gJ (d0 I.flatten)/\js (d0 I.flatten)/\I.length<=100/\q9 K H g gvs/\
 (gvs.all (jP (I.map List.length))=false->∀ H',d3 H H'->E (.ref CN) none H')/\
 (gvs.all (jP (I.map List.length))=true->((kept gvs 0 I).map (·.1)).Nodup->∀ x H',d3 H H'->H x=none->gc C H' x (kept gvs 0 I)->(∀ J,(∀ b u,H' b=some u->(∀ U,H b≠some (.lst U))->J b=some u)->gc C J x (kept gvs 0 I))->Q (.ref x) H')/\
 (gvs.all (jP (I.map List.length))=true->¬ ((kept gvs 0 I).map (·.1)).Nodup->∀ H',d3 H H'->E (.ref CW) none H')
theorem lq:eX ["books","gone","without","pairs","rows","place","book","new_numbers","number"] ["books","gone"] (er nX):=⟨rfl,rfl,rfl,dk,rfl,dk,dk⟩
theorem qW(a b:List (Str×Str)):d0 (a++b)=d0 a++d0 b:=List.map_append
theorem EL{α:Type}(a b:List (List α)):fO (a++b)=fO a + fO b:=by
 unfold fO
 rw [List.map_append,List.sum_append]
theorem Fg{α:Type}{xs:List (List α)}{i:Nat}{x:List α}(h:xs[i]? =some x):(xs.take (i + 1)).flatten=(xs.take i).flatten++x:=by
 rw [take_snoc h,List.flatten_append]
 simp
theorem qF{α:Type}:∀(xs:List (List α)) (i:Nat),((xs.take i).flatten).Sublist xs.flatten
 | [],i=>by rw [List.take_nil];exact List.Sublist.refl _
 | x::xs,0=>List.nil_sublist _
 | x::xs,i + 1=>by
  show(x++(xs.take i).flatten).Sublist (x++xs.flatten)
  exact(List.Sublist.refl x).append (qF xs i)
theorem oG{α:Type}:∀{xs:List (List α)} {x:List α},x∈xs->x.Sublist xs.flatten
 | [],_,h=>nomatch h
 | y::xs,x,h=>by
  show x.Sublist (y++xs.flatten)
  rcases List.mem_cons.mp h with h | h
  ·rw [h];exact List.sublist_append_left _ _
  ·exact(oG h).trans (List.sublist_append_right _ _)
def BU(K:W.Frag):TE:=fun σ H Q=>∃(g:V) (gvs:List (Option (V×V))),σ[1]? =some (some g)/\q9 K H g gvs/\∀ gl gs H',d3 H H'->H' gl=some (.lst gs)->Paired (GV K H') gs gvs->gs.length<=1000->Q (.ref gl) H'
seal eK PS PE PT PA PG PI eV eQ in
theorem Ag{f fg fm fk ft fp fr fi:Addr}{fd fdg fdm fdk fdt fdp fdr fdi:FuncData}(D:ir K mg "poured" nX f fd #[.none])(B:iF K mg C)(T:Txt mg)
  (DG:Df K mg "need_gone" pE fg fdg)(GG:d8 P w K mg base (eP P w) 3 fg fdg ["books","gone"] (yZ K C CN))
  (FM:fD K "many" "Book.many" jO fm fdm)(mM:Meth K C "many" fm)(GM:d8 P w K mg base eu 1 fm fdm ["self"] (o9 C))
  (FK':fD K "key_of" "Book.key_of" kL fk fdk)(mK:Meth K C "key_of" fk)(GK:d8 P w K mg base (eP P w) 4 fk fdk ["self","number"] (nG K C CN (·.1)))
  (FT:fD K "text_of" "Book.text_of" kz ft fdt)(mT:Meth K C "text_of" ft)(GT:d8 P w K mg base (eP P w) 4 ft fdt ["self","number"] (nG K C CN (·.2)))
  (DP:Df K mg "pour_rows" oo fp fdp)(GP:d8 P w K mg base eu 6 fp fdp ["rows","book","new_numbers"] (vU C))
  (DR:Df K mg "packed_rows" ni fr fdr)(GR:d8 P w K mg base eu 6 fr fdr ["rows"] tH)
  (FI:kR K "__init__" "Book.__init__" jW fi fdi #[.none])(M:L2.Mk K C fi)(GI:d8 P w K mg base (eP P w) 8 fi fdi ["self","pairs","rows"] (qf K C CK CT CW)):d8 P w K mg base (eP P w) 10 f fd ["books","gone"] (uP K C CN CW):=by
 have bG:=DG.F.binds (ps:=["books","gone"]) fun _ _ _ _ _ _ us hl=>match us,hl with | [_,_],_=>rfl
 have bM:=FM.binds (ps:=["self"]) fun _ _ _ _ _ _ us hl=>match us,hl with | [_],_=>rfl
 have bK:=FK'.binds (ps:=["self","number"]) fun _ _ _ _ _ _ us hl=>match us,hl with | [_,_],_=>rfl
 have bT:=FT.binds (ps:=["self","number"]) fun _ _ _ _ _ _ us hl=>match us,hl with | [_,_],_=>rfl
 have bP:=DP.F.binds (ps:=["rows","book","new_numbers"]) fun _ _ _ _ _ _ us hl=>match us,hl with | [_,_,_],_=>rfl
 have bR:=fN (p:="rows") DR.F fun _ _ _ _ _ _ _=>rfl
 have bI:=FI.binds (ps:=["self","pairs","rows"]) (ds:=[]) fun T kV doc pm an cdv ct us hl=>match us,(show us.length=3 by simpa using hl) with | [_,_,_],_=>⟨_,rfl,rfl⟩
 refine D.ok1 lq (fun vs H Q E h=>?_) (fun cdv A outer s H vs Q E hr h=>?_)
 ·obtain⟨bl,g,bs,I,gvs,rfl,_⟩:=h
  rfl
 ·obtain⟨bl,g,bs,I,gvs,rfl,a5,a6,ax,aa,a7,cv,a8,k1,k2,k3⟩:=h
  have hl:(sizeLine:Nat)=16777216:=sizeLine_eq
  have hu:=jZ hr
  have bU:=Gn.Paired.len a6
  refine⟨_,d6 (eE (i:=2) lq.nd rfl (Or.inl rfl) (eI (GG.mono (by decide)) hr rfl DG.m DG.F.kp bG .nil (iE (E':=E) (fun _ _ _ h=>h)) (dY (pv 0) (dY (PE.imp (t':=BU K) (oR (kH (yp (pv 1))) (fJ dZ) (pv 1)) ?mG) dZ))))
   (d6 (eE (i:=3) lq.nd rfl (Or.inl rfl) (fJ dZ))
   (d6 (eE (i:=4) lq.nd rfl (Or.inl rfl) kZ)
   (d6 (fU PassesOwn.leaving rfl (kd rfl T.enum (dY (pv 0) dZ)) (iz (n:=2) rfl (gh (eO (i:=5) lq.nd rfl (Or.inl rfl)) (gh (eO (i:=6) lq.nd rfl (Or.inl rfl)) iC)))
    (d6 (eE (i:=7) lq.nd rfl (Or.inl rfl) kZ)
    (d6 (fU PassesOwn.leaving rfl (iW rfl T.range (dY (kW (pv 6) B.cl mM (GM.mono (by decide)) hr bM .nil eM) dZ)) (eO (i:=8) lq.nd rfl (Or.inl rfl))
     (d9 (fE (kH (zG hu (g8 (dY (pv 5) (dY (pv 8) dZ))) (pv 2)))
      (d6 (oH hu (pv 7) (pv 8) (fG gQ rfl T.len gf (dY (pv 3) dZ)) rfl)
      (d9 (gq (gj F.plainAttrs_list F.slot_list_append F.type_list_append gT (pv 3)
       (dY (g8 (dY (iO (pv 6) B.cl mK (GK.mono (by decide)) hr bK .nil hV (dY (pv 8) dZ)) (dY (iO (pv 6) B.cl mT (GT.mono (by decide)) hr bT .nil hV (dY (pv 8) dZ)) dZ))) dZ))))) fB)))
    (d9 (gq (eI (GP.mono (by decide)) hr rfl DP.m DP.F.kp bP .nil eM (dY (pv 4) (dY (pv 6) (dY (pv 7) dZ)))))))))
   (d9 (eG (uU M GI hr rfl B.mgC bI .nil (iE (E':=E) (fun _ _ _ h=>h)) (dY (pv 3) (dY (eI (GR.mono (by decide)) hr rfl DR.m DR.F.kp bR .nil eM (dY (pv 4) dZ)) dZ)))))))),?_⟩
  case mG=>
   rintro σ H1 Q1 ⟨g,gvs,h1,a8,q⟩
   refine⟨_,h1,_,rfl,?_⟩
   rcases a8 with ⟨rfl,rfl⟩ | ⟨gl,gs,rfl,a9,ba,bb⟩
   ·exact eN ⟨(by show 0<=sizeLine;decide),fun z U=>q z [] _ (eh U) d7 .nil (Nat.zero_le _)⟩
   ·exact eD ⟨_,h1,q gl gs H1 (d3.refl _) a9 ba bb⟩
  refine⟨_,rfl,g,gvs,rfl,a8,fun gl gs H1 s1 a9 ba bb=>?_⟩
  refine⟨bl,gl,bs,gs,I,gvs,rfl,s1 _ _ a5,a9,a6.same s1,ba,bb,fun ai wo H2 kvs s2 cw hW bo=>?_,fun ai H2 s2=>k1 ai H2 (s1.trans s2)⟩
  replace k2:=k2 ai
  replace k3:=k3 ai
  have bp:=s1.trans s2
  refine⟨(by show 0<=sizeLine;decide),fun pa bq=>?_⟩
  have s3:d3 H2 (upd H2 pa (.lst [])):=eh bq
  have aj:upd H2 pa (.lst []) pa=some (.lst []):=d7
  generalize upd H2 pa (.lst [])=H3 at s3 aj ⊢
  have aO:=bp.trans s3
  intro d hd
  have br:H3 d=none:=hd
  have ay:∀ i,gJ (d0 (I.take i).flatten):=fun i=>aa.sub (qF I i)
  refine⟨_,rfl,bl,bs,rfl,eh hd _ _ (aO _ _ a5),?_⟩
  refine kN (xs:=bs) (fun i σ H'=>∃(es:En) (xs:List V) (o5 o6 o7 o8:Option V),σ=[some (.ref bl),some g,some (.ref wo),some (.ref pa),some (.ref d),o5,o6,o7,o8]/\d3 H H'/\H' wo=some (.dT kvs)/\H' pa=some (.lst xs)/\fX H' xs ((kept gvs 0 (I.take i)).map kp)/\(∀ z,H' z=none->H3 z=none)/\
   ib H3 H' d es (fun y=>rowOf y (d0 (kept gvs 0 (I.take i))) 0)/\es.length<=fO (d0 (I.take i).flatten)) ?_ ?_ ?_ ?_
  ·refine⟨[],[],none,none,none,none,rfl,aO.trans (eh hd),eh hd _ _ (s3 _ _ hW),eh hd _ _ aj,.nil,fun z U=>(eh hd).free U,⟨⟨d7,List.nodup_nil,List.nodup_nil,(fun e he=>nomatch he),(fun e he=>nomatch he)⟩,fun y=>?_⟩,Nat.zero_le _⟩
   exact⟨(fun z=>nomatch z),fun z=>absurd rfl z⟩
  ·rintro i σ H' _ ⟨_,_,_,_,_,_,_,sm,_⟩
   exact sm _ _ a5
  ·rintro i v σ H' t hv ⟨es,xs,o5,o6,o7,o8,rfl,sm,az,ak,aP,bt,hR,bu⟩ ht
   obtain⟨ps,ag,x,rfl,aA⟩:=gK a6 hv
   have st:d3 H' (upd H' t (.tup [.int i,.ref x])):=eh ht
   refine⟨t,_,rfl,eW.of d7,rfl,_,_,rfl,_,_,rfl,rfl,?_⟩
   generalize upd H' t (.tup [.int i,.ref x])=H4 at st ⊢
   intro dn aB
   have sd:d3 H4 (upd H4 dn (.dK [])):=eh aB
   have aU:upd H4 dn (.dK []) dn=some (.dK []):=d7
   generalize upd H4 dn (.dK [])=H5 at sd aU ⊢
   have aw:=st.trans sd
   have bw:=sm.trans aw
   have bV:=ax ps (List.mem_of_getElem? ag)
   have aV:=aA.same bw
   obtain⟨dx,bW,bX,sz,dr,ri,bY,bc,bZ,b0,_⟩:=aV.ex
   have cx:=(List.getElem?_eq_some_iff.mp ag).1
   have ei:(I.take i).length=i:=lh ag
   have bS:ps.length<=300:=by
    have h1:=(aa.sub (oG (List.mem_of_getElem? ag))).l
    unfold d0 at h1
    rwa [List.length_map] at h1
   have cy:(kept gvs 0 (I.take i)).length<=300:=by
    have h1:=((ay i).sub (ur gvs (I.take i) 0)).l
    unfold d0 at h1
    rwa [List.length_map] at h1
   have bx:dn≠d:=fun z=>by
    have:=st _ _ hR.l.d
    rw [<-z,aB] at this
    cases this
   have cz:pa≠dn:=fv (st _ _ ak) aB
   have cA:wo≠dn:=fv (st _ _ az) aB
   have b1:∀ e∈es,e.2≠pa:=fun e he z=>by
    have:=hR.l.n e he
    rw [z,aj] at this
    cases this
   refine⟨_,rfl,x,dx,_,rfl,b0,jj dk dk dk dk dk,?_⟩
   refine⟨x,ps,rfl,aV,_,rfl,by omega,by omega,?_⟩
   rw [Int.toNat_natCast]
   refine jM (n:=ps.length) (fun n σ H6=>∃(xs:List V) (kn:List (Key×V)) (o8:Option V),σ=[some (.ref bl),some g,some (.ref wo),some (.ref pa),some (.ref d),some (.int (i:Int)),some (.ref x),some (.ref dn),o8]/\d3 H H6/\H6 wo=some (.dT kvs)/\H6 pa=some (.lst xs)/\
    fX H6 xs ((kept gvs 0 (I.take i)++fL ((gI gvs i ps.length).take n) (ps.take n)).map kp)/\(∀ z,H6 z=none->H3 z=none)/\ib H3 H6 d es (fun y=>rowOf y (d0 (kept gvs 0 (I.take i))) 0)/\H6 dn=some (.dK kn)/\kn.length<=n/\
    (∀ m:Nat,fH kn (Sum.inl (m:Int))=if m < n/\(gI gvs i ps.length)[m]? =some true then some (.int (((kept gvs 0 (I.take i)).length + BK.cnt (gI gvs i ps.length) m:Nat):Int)) else none)) ?_ ?_ ?_
   ·refine⟨xs,[],_,rfl,bw,aw _ _ az,aw _ _ ak,?_,fun z U=>bt z (aw.free U),hR.same aw,aU,Nat.le_refl _,fun m=>?_⟩
    ·show fX H5 xs ((kept gvs 0 (I.take i)++[]).map kp)
     rw [List.append_nil]
     exact aP.same aw
    ·rw [if_neg fun z=>absurd z.1 (Nat.not_lt_zero _)]
     rfl
   ·rintro n σ H6 hn ⟨xs,kn,o8,rfl,aQ,ab,ao,aC,ae,aD,aq,aE,aR⟩
    rw [Int.zero_add]
    have aF:=HZ (gvs:=gvs) (i:=i) hn
    have bf:ps[n]? =some ps[n]:=List.getElem?_eq_getElem hn
    refine⟨_,rfl,_,rfl,(by show 2<=sizeLine;decide),fun tt b2=>?_⟩
    have J:d3 H6 (upd H6 tt (.tup [.int (i:Int),.int (n:Int)])):=eh b2
    have aW:upd H6 tt (.tup [.int (i:Int),.int (n:Int)]) tt=some (.tup ((ij i n).map kV)):=d7
    generalize upd H6 tt (.tup [.int (i:Int),.int (n:Int)])=H7 at J aW ⊢
    refine⟨_,rfl,wo,_,rfl,ic.t (k:=ij i n) (J _ _ ab) aW,_,rfl,?_⟩
    have bz:=aC.same J
    have aX:=Gn.Paired.len aC
    rw [List.length_map,List.length_append] at aX
    have bA:(fL ((gI gvs i ps.length).take n) (ps.take n)).length=BK.cnt (gI gvs i ps.length) n:=HF (uD gvs i ps.length)
    have cB:BK.cnt (gI gvs i ps.length) n<=300:=by
     rw [<-bA]
     have:=EM ((gI gvs i ps.length).take n) (ps.take n)
     rw [List.length_take] at this
     omega
    have aG:fL ((gI gvs i ps.length).take (n + 1)) (ps.take (n + 1))=fL ((gI gvs i ps.length).take n) (ps.take n)++(if (!decide (some (V.int (i:Int),V.int (n:Int))∈gvs))=true then [ps[n]] else []):=by
     rw [take_snoc aF,take_snoc bf,uw _ _ _ _ (by rw [List.length_take,List.length_take,uD])]
    by_cases ar:some (V.int (i:Int),V.int (n:Int))∈gvs
    ·
     rw [(bo i n).mpr ar]
     refine eD ?_
     have e1:(!decide (some (V.int (i:Int),V.int (n:Int))∈gvs))=false:=by rw [decide_eq_true ar];rfl
     rw [e1] at aG aF
     refine⟨xs,kn,_,rfl,aQ.trans J,J _ _ ab,J _ _ ao,?_,fun z U=>ae z (J.free U),aD.same J,J _ _ aq,Nat.le_succ_of_le aE,fun m=>?_⟩
     ·rw [aG]
      show fX H7 xs ((_++(_++[])).map kp)
      rw [List.append_nil]
      exact bz
     ·rw [aR m]
      by_cases hm:m=n
      ·rw [hm,if_neg fun z=>absurd z.1 (Nat.lt_irrefl _),if_neg fun z=>by rw [aF] at z;exact absurd z.2 (by simp)]
      ·by_cases hc:m < n/\(gI gvs i ps.length)[m]? =some true
       ·rw [if_pos hc,if_pos ⟨by omega,hc.2⟩]
       ·rw [if_neg hc,if_neg fun z=>hc ⟨by omega,z.2⟩]
    ·
     have b3:(fH kvs (ij i n)).isSome=false:=by
      cases q:(fH kvs (ij i n)).isSome with
      | false=>rfl
      | true=>exact absurd ((bo i n).mp q) ar
     rw [b3]
     refine eN ?_
     have e1:(!decide (some (V.int (i:Int),V.int (n:Int))∈gvs))=true:=by rw [decide_eq_false ar];rfl
     rw [e1] at aG aF
     rw [if_pos rfl] at aG
     have au:=J _ _ aq
     have aY:=J _ _ ao
     refine⟨_,rfl,pa,xs,rfl,.inl (d4.of aY),_,rfl,_,rfl,dn,_,rfl,jG.k (k:=Sum.inl (n:Int)) au (by omega),?_⟩
     have aS:SameBut dn H7 (upd H7 dn (.dK (putK kn (Sum.inl (n:Int)) (.int ((xs.length:Nat):Int))))):=fun b u e hb=>by rw [eC hb];exact e
     have aZ:upd H7 dn (.dK (putK kn (Sum.inl (n:Int)) (.int ((xs.length:Nat):Int)))) dn=_:=d7
     have a0:∀ z,upd H7 dn (.dK (putK kn (Sum.inl (n:Int)) (.int ((xs.length:Nat):Int)))) z=none->H3 z=none:=fun z U=>by
      by_cases e:z=dn
      ·rw [e,d7] at U;cases U
      ·rw [eC e] at U
       exact ae z (J.free U)
     generalize upd H7 dn (.dK (putK kn (Sum.inl (n:Int)) (.int ((xs.length:Nat):Int))))=H8 at aS aZ a0 ⊢
     have bg:∀{b:Addr} {u:HO},H7 b=some u->(∀ k,u≠ .dK k)->H8 b=some u:=fun{b u} e n=>aS _ _ e fun z=>by rw [z,au] at e;exact n _ (Option.some.inj e).symm
     have a3:=bg aY (by intro _ z;cases z)
     have bB:∀ b u,H b=some u->H8 b=some u:=fun b u e=>aS _ _ (J _ _ (aQ _ _ e)) fun z=>by
      have h1:=(sm.trans st) _ _ e
      rw [z,aB] at h1
      cases h1
     have bC:ib H3 H8 d es _:=(aD.same J).but aS (Ne.symm bx) (fun ts z=>by rw [au] at z;cases z) fun e he z=>by
      obtain⟨q,h1,_⟩:=(aD.same J).l.f e he
      rw [z,au] at h1
      cases h1
     have b4:fX H8 xs _:=Gn.Paired.imp2 bz fun _ _ ⟨p,e,q⟩=>⟨p,e,bg q (by intro _ z;cases z)⟩
     have bD:=bg (J _ _ ab) (by intro _ z;cases z)
     have aH:gc C H8 x ps:=aA.same bB
     obtain⟨dx,bW,bX,sz,dr,ri,bY,bc,bZ,bE,_⟩:=aH.ex
     have bF:g4 (.int (n:Int)) 0 (some ((ps.length:Int) - 1))=true:=by
      show(decide ((0:Int)<=n) && decide ((n:Int)<=(ps.length:Int) - 1))=true
      rw [decide_eq_true (by omega),decide_eq_true (by omega)]
      rfl
     refine⟨_,rfl,.inl ⟨rfl,_,d4.of a3⟩,?_⟩
     refine⟨_,rfl,x,dx,_,rfl,bE,jj dk dk dk dk dk,_,rfl,?_⟩
     refine⟨x,ps,_,rfl,aH,⟨_,.int _⟩,fun j p e hp=>?_,fun e=>by rw [bF] at e;cases e⟩
     have ej:n=j:=by have:=V.int.inj e;omega
     subst ej
     have ep:ps[n]=p:=Option.some.inj (bf.symm.trans hp)
     subst ep
     refine⟨_,rfl,x,dx,_,rfl,bE,jj dk dk dk dk dk,_,rfl,?_⟩
     refine⟨x,ps,_,rfl,aH,⟨_,.int _⟩,fun j p e hp=>?_,fun e=>by rw [bF] at e;cases e⟩
     have ej:n=j:=by have:=V.int.inj e;omega
     subst ej
     have ep:ps[n]=p:=Option.some.inj (bf.symm.trans hp)
     subst ep
     refine⟨(by show 2<=sizeLine;decide),fun pp b5=>?_⟩
     have s9:d3 H8 (upd H8 pp (.tup [.str ps[n].1,.str ps[n].2])):=eh b5
     have h9:upd H8 pp (.tup [.str ps[n].1,.str ps[n].2]) pp=some (.tup [.str ps[n].1,.str ps[n].2]):=d7
     generalize upd H8 pp (.tup [.str ps[n].1,.str ps[n].2])=H9 at s9 h9 ⊢
     have af:=s9 _ _ a3
     refine⟨pa,xs,_,rfl,rfl,af,by omega,?_⟩
     have a4:=ze af (b4.same s9) h9
     have av:SameBut pa H9 (upd H9 pa (.lst (xs++[.ref pp]))):=fun b u e hb=>by rw [eC hb];exact e
     have aI:upd H9 pa (.lst (xs++[.ref pp])) pa=_:=d7
     have aJ:∀ z,upd H9 pa (.lst (xs++[.ref pp])) z=none->H3 z=none:=fun z U=>by
      by_cases e:z=pa
      ·rw [e,d7] at U;cases U
      ·rw [eC e] at U
       exact a0 z (s9.free U)
     generalize upd H9 pa (.lst (xs++[.ref pp]))=b6 at a4 av aI aJ ⊢
     have bH:∀{b:Addr} {u:HO},H9 b=some u->(∀ k,u≠ .lst k)->b6 b=some u:=fun{b u} e n=>av _ _ e fun z=>by rw [z,af] at e;exact n _ (Option.some.inj e).symm
     refine⟨_,_,_,rfl,fun b u e=>av _ _ (s9 _ _ (bB b u e)) fun z=>?_,bH (s9 _ _ bD) (by intro _ z;cases z),aI,?_,aJ,?_,bH (s9 _ _ aZ) (by intro _ z;cases z),?_,fun m=>?_⟩
     ·have h1:=bp _ _ e
      rw [z,bq] at h1
      cases h1
     ·rw [aG,<-List.append_assoc]
      exact a4
     ·exact(bC.same s9).but av (fun z=>by have:=(bC.same s9).l.d;rw [z,af] at this;cases this) (fun ts z=>by rw [af] at z;cases z) b1
     ·exact Nat.le_trans (ph _ _ _) (Nat.succ_le_succ aE)
     ·rw [yU,aR m]
      have el:xs.length=(kept gvs 0 (I.take i)).length + BK.cnt (gI gvs i ps.length) n:=by rw [aX,bA]
      by_cases hm:m=n
      ·rw [hm,if_pos rfl,if_pos ⟨Nat.lt_succ_self _,aF⟩,el]
      ·rw [if_neg fun z=>hm (by have:=Sum.inl.inj z;omega)]
       by_cases hc:m < n/\(gI gvs i ps.length)[m]? =some true
       ·rw [if_pos hc,if_pos ⟨by omega,hc.2⟩]
       ·rw [if_neg hc,if_neg fun z=>hc ⟨by omega,z.2⟩]
   ·rintro σ H6 ⟨xs,kn,o8,rfl,aQ,ab,ao,aC,ae,aD,aq,aE,aR⟩
    have bJ:=uD gvs i ps.length
    have e1:(gI gvs i ps.length).take ps.length=gI gvs i ps.length:=List.take_of_length_le (by omega)
    rw [e1,List.take_length] at aC
    have aK:kept gvs 0 (I.take (i + 1))=kept gvs 0 (I.take i)++fL (gI gvs i ps.length) ps:=by
     rw [take_snoc ag,vn,ei,Nat.zero_add]
    have aT:∀ z,H3 z=none->H z=none:=fun z U=>aO.free U
    have b7:∀ m:Nat,fH kn (Sum.inl (m:Int))=if (gI gvs i ps.length)[m]? =some true then some (.int (((d0 (kept gvs 0 (I.take i))).length + BK.cnt (gI gvs i ps.length) m:Nat):Int)) else none:=fun m=>by
     rw [aR m]
     have el:(d0 (kept gvs 0 (I.take i))).length=(kept gvs 0 (I.take i)).length:=by unfold d0;rw [List.length_map]
     rw [el]
     by_cases hc:(gI gvs i ps.length)[m]? =some true
     ·have cC:=(List.getElem?_eq_some_iff.mp hc).1
      rw [if_pos hc,if_pos ⟨by omega,hc⟩]
     ·rw [if_neg hc,if_neg fun z=>hc z.2]
    have b8:gJ (d0 ps):=aa.sub (oG (List.mem_of_getElem? ag))
    have cD:=(ay i).t
    refine⟨_,rfl,_,rfl,_,rfl,d,x,dn,H,H3,es,d0 (kept gvs 0 (I.take i)),ps,gI gvs i ps.length,kn,rfl,aQ,aA,bV,b8,aT,ae,br,aD,aq,bx,bJ,b7,by omega,(by unfold d0;rw [List.length_map];omega),fun b9 H7 s7 fr tp cb cu=>?_⟩
    refine⟨b9,xs,_,_,_,_,rfl,s7,fr _ _ _ ab (s3 _ _ hW),fr _ _ _ ao aj,?_,fun z U=>?_,cb.cong fun y=>?_,?_⟩
    ·rw [aK]
     exact Gn.Paired.imp2 aC fun _ _ ⟨p,e,q⟩=>⟨p,e,tp _ _ q⟩
    ·cases q:H3 z with
     | none=>rfl
     | some o=>
      cases q2:H6 z with
      | none=>rw [ae z q2] at q;cases q
      | some u=>rw [fr z u o q2 q] at U;cases U
    ·rw [aK,qW]
     congr 2
     unfold d0
     exact tu _ _ _
    ·rw [Fg ag,qW,EL]
     omega
  ·rintro σ H' ⟨es,xs,o5,o6,o7,o8,rfl,sm,az,ak,aP,bt,hR,bu⟩
   rw [bU,List.take_length] at aP hR bu
   have aL:=ur gvs I 0
   have ah:gJ (d0 (kept gvs 0 I)):=aa.sub aL
   have cE:=aa.t
   have bL:∀ p∈kept gvs 0 I,fV 12 (.str p.1)=true/\gL (.str p.2)=true:=fun p hp=>by
    obtain⟨ps,h1,h2⟩:=List.mem_flatten.mp (aL.mem hp)
    exact(ax ps h1).g p h2
   have cc:(kept gvs 0 I).length<=300:=by
    have h1:=ah.l
    unfold d0 at h1
    rwa [List.length_map] at h1
   refine⟨_,rfl,_,rfl,d,es,fun y=>rowOf y (d0 (kept gvs 0 I)) 0,rfl,hR.l.d,hR.l.k,by omega,fun e he=>⟨hR.l.f e he,gJ.ok e.1,ah.sz e.1⟩,fun p bc aM sb hp hD hk=>?_⟩
   intro x dx hx cf cF
   have cg:H' d=_:=hR.l.d
   have bh:d3 H aM:=fun b u e=>sb _ _ (sm _ _ e) fun z=>by
    have h1:=aO _ _ e
    rw [z,br] at h1
    cases h1
   have sN:d3 aM (upd (upd aM dx (.own x)) x (.ins C dx [])):=fun b u e=>by
    rw [eC (fv e hx),eC (fv e cf)]
    exact e
   have bN:upd (upd aM dx (.own x)) x (.ins C dx []) x=some (.ins C dx []):=d7
   generalize upd (upd aM dx (.own x)) x (.ins C dx [])=HN at sN bN ⊢
   have bO:∀{b:Addr} {u:HO},H' b=some u->(∀ k,u≠ .dK k)->HN b=some u:=fun{b u} e n=>sN _ _ (sb _ _ e fun z=>by rw [z,cg] at e;exact n _ (Option.some.inj e).symm)
   have aN:d3 H HN:=bh.trans sN
   refine⟨x,pa,dx,.ref p,xs,(kept gvs 0 I).map kp,rfl,bN,bO ak (by intro _ z;cases z),Gn.Paired.imp2 aP fun _ _ ⟨b,e,q⟩=>⟨b,e,bO q (by intro _ z;cases z)⟩,by rw [List.length_map];exact cc,?_,?_,?_,?_⟩
   ·intro kt cj
    obtain⟨q,hq,rfl⟩:=List.mem_map.mp cj
    obtain⟨g1,g2⟩:=bL q hq
    refine⟨⟨_,.str _⟩,fun z e=>?_,⟨_,.str _⟩,fun z e=>?_⟩
    ·injection e with e
     rw [<-e]
     have h1:(decide (1<=q.1.length) && decide (q.1.length<=12) && q.1.cps.toList.all fq)=true:=g1
     rw [Bool.and_eq_true,Bool.and_eq_true] at h1
     have:=of_decide_eq_true h1.1.2
     omega
    ·injection e with e
     rw [<-e]
     have:=(m4 g2).1
     omega
   ·intro ck e bQ
    have e':=pQ e
    subst e'
    refine⟨ah,a7.sub aL,.inr ⟨p,bc,rfl,sN _ _ hD.d,hD.k,fun y=>?_,fun e he=>sN _ _ (hD.f e he)⟩⟩
    rw [hk,hR.k y]
    constructor
    ·intro z
     by_cases q:∃ ws∈d0 (kept gvs 0 I),y∈ws
     ·exact q
     ·exact absurd ((kT y _ 0).mpr fun ws hw hy=>q ⟨ws,hw,hy⟩) z
    ·rintro⟨ws,hw,hy⟩ z
     exact(kT y _ 0).mp z ws hw hy
   ·intro i hi bj cm
    obtain⟨rfl,hn⟩:=zj bL hi
    exact k3 (fun z=>hn ⟨z,fun _ _ z=>nomatch z⟩) bj (aN.trans cm)
   ·intro ck e bQ bj aA cn fr
    have e':=pQ e
    subst e'
    refine⟨rfl,k2 bQ.n x bj (fun b u e=>fr b u (aN _ _ e) (fun z=>?_) fun z=>?_) (bh.free hx) aA (fun cq hU=>cn cq fun b u e n=>hU b u e fun l0 z=>n l0 (aN _ _ z))⟩
    ·have h1:=bh _ _ e
     rw [z,hx] at h1
     cases h1
    ·injection z with z
     have h1:=sm _ _ e
     rw [<-z,hp] at h1
     cases h1
end
theorem BZ:¬ (("pairs":Str)="place"):=dk
def lZ(p:Addr)(z:Int):List (Str×V):=fA "place" (.int z) (fA "pairs" (.ref p) [])
theorem Ha(p:Addr)(z:Int):(lZ p z).lookup ("pairs":Str)=some (.ref p):=by
 unfold lZ
 rw [gE,if_neg BZ,gE,if_pos rfl]
theorem Hl(p:Addr)(z:Int):(lZ p z).lookup ("place":Str)=some (.int z):=by
 unfold lZ
 rw [gE,if_pos rfl]
theorem CC(p:Addr)(z:Int){m:Str}(h1:¬ m="place")(h2:¬ m="pairs"):(lZ p z).lookup m=none:=by
 unfold lZ
 rw [gE,if_neg h1,gE,if_neg h2]
 rfl
structure rY (C : Addr) (H : Hp) (x p : Addr) (row : List Pr) (j : Nat) : Prop where
 ob : ∃ dx, H x = some (.ins C dx (lZ p (j : Int)))
 r : fj H p row
 le : j <= row.length
theorem gB.updO {H:Hp}{v:V}{r:Pr}{x:Addr}{o o':HO}(h:gB H v r)(hx:H x=some o)(nt:∀ ts,o≠ .tup ts):gB (upd H x o') v r:=by
 cases h with
 | mk h ht=>
  rename_i p t n pl
  refine .mk (t:=t) ?_ ?_
  ·rw [eC (fun z=>by rw [z,hx] at h;exact nt _ (Option.some.inj h))]
   exact h
  ·rw [eC (fun z=>by rw [z,hx] at ht;exact nt _ (Option.some.inj ht))]
   exact ht
theorem fj.updO {H:Hp}{a x:Addr}{row:List Pr}{o o':HO}(h:fj H a row)(hx:H x=some o)(nt:∀ ts,o≠ .tup ts)(na:a≠x):fj (upd H x o') a row:=by
 obtain⟨xs,h1,h2⟩:=h
 exact⟨xs,by rw [eC na];exact h1,Gn.Paired.imp2 h2 fun _ _ q=>q.updO hx nt⟩
theorem fj.ne {H:Hp}{a x:Addr}{row:List Pr}{o:HO}(h:fj H a row)(hx:H x=some o)(nt:∀ ts,o≠ .lst ts):a≠x:=fun z=>by
 obtain⟨xs,h1,_⟩:=h
 rw [z,hx] at h1
 exact nt _ (Option.some.inj h1)
structure pS (K : W.Frag) (mg : Str -> Option Value) (C : Addr) : Prop where
 cl : jt K C
 nP : jf K C "pairs"
 nL : jf K C "place"
 mgC : mg "Walk" = some (.ref C)
section
variable {P : Program} {w : World} {K : PySem.W.Frag} {mg : Str -> Option Value} {base : Heap} {C : Addr}
def vz(C:Addr):Sp:=fun vs H Q _=>∃(x a dx:Addr) (row:List Pr),vs=[.ref x,.ref a]/\H x=some (.ins C dx [])/\H a=some (.lst (nl (pk (rn 0 row))))/\iJ 0 row/\Sz row/\
 ∀ p H',H p=none->rY C H' x p row 0->SameBut x H H'->Q .non H'
theorem GJ:eX ["self","parts"] ["self","parts"] (er mC):=⟨rfl,rfl,rfl,dk,rfl,dk,dk⟩
seal eK PS PE PT PA PG PI eV eQ in
theorem HW{f fu:Addr}{fd fdu:FuncData}(F:fD K "__init__" "Walk.__init__" mC f fd)(T:pS K mg C)(DU:Df K mg "unpacked_row" nh fu fdu)(GU:d8 P w K mg base eu 4 fu fdu ["parts"] sL):d8 P w K mg base eu 5 f fd ["self","parts"] (vz C):=by
 have bU:=fN (p:="parts") DU.F fun _ _ _ _ _ _ _=>rfl
 refine F.ok GJ (fun vs H Q E h=>?_) (fun cdv A outer s H vs Q E hr h=>?_)
 ·obtain⟨x,a,dx,row,rfl,_⟩:=h
  rfl
 ·obtain⟨x,a,dx,row,rfl,hx,hA,ho,hs,k⟩:=h
  refine⟨_,d6 (ml (pv 0) (eI GU hr rfl DU.m DU.F.kp bU .nil eM (dY (pv 1) dZ)) rfl) (d9 (ml (pv 0) d5 rfl)),?_⟩
  refine⟨_,rfl,a,row,rfl,hA,ho,hs,fun p H1 s1 hp U=>?_⟩
  have I:=s1 _ _ hx
  refine⟨_,rfl,x,C,dx,[],rfl,I,T.cl,T.nP,(by show 0 < 1000;decide),_,rfl,x,C,dx,_,rfl,d7,T.cl,T.nL,(by show 1 < 1000;decide),?_⟩
  have J:p≠x:=U.ne I fun ts z=>by cases z
  refine k p _ hp ⟨⟨dx,d7⟩,(U.updO I (fun ts z=>by cases z) J).updO d7 (fun ts z=>by cases z) J,Nat.zero_le _⟩ fun b u e hb=>?_
  rw [eC hb,eC hb]
  exact s1 _ _ e
def zh(C:Addr):Sp:=fun vs H Q _=>∃(x p:Addr) (row:List Pr) (j:Nat),vs=[.ref x]/\rY C H x p row j/\∀ z H',d3 H H'->H z=none->fj H' z (row.drop j)->Q (.ref z) H'
theorem AV:eX ["self"] ["self"] (er my):=⟨rfl,rfl,rfl,dk,rfl,dk,dk⟩
seal eK PS PE PT PA PG PI eV eQ in
theorem AI{f:Addr}{fd:FuncData}(F:fD K "rest" "Walk.rest" my f fd)(T:pS K mg C):d8 P w K mg base eu 1 f fd ["self"] (zh C):=by
 refine F.ok AV (fun vs H Q E h=>?_) (fun cdv A outer s H vs Q E hr h=>?_)
 ·obtain⟨x,p,row,j,rfl,_⟩:=h
  rfl
 ·obtain⟨x,p,row,j,rfl,U,k⟩:=h
  obtain⟨⟨dx,J⟩,⟨xs,hX,hp⟩,hj⟩:=id U
  refine⟨_,d9 (eG (g7 kB (ji (pv 0) rfl) (gR (ji (pv 0) rfl)) iq)),?_⟩
  refine⟨_,rfl,x,C,dx,_,_,rfl,J,T.cl,T.nP,Ha _ _,_,rfl,x,C,dx,_,_,rfl,J,T.cl,T.nL,Hl _ _,_,rfl,p,_,rfl,d4.of hX,fun z I=>?_⟩
  rw [tL]
  exact k z _ (eh I) I ⟨_,d7,Paired.dp j (Gn.Paired.imp2 hp fun _ _ q=>gB.same q (eh I))⟩
end
section
variable {P : Program} {w : World} {K : PySem.W.Frag} {mg : Str -> Option Value} {base : Heap} {C CN CNo CW CWk : Addr}
theorem vV:bootBuiltins "sum"=some (.builtin "sum"):=dk
def xA(C:Addr):Sp:=fun vs H Q _=>∃(x:Addr) (ps:List (Str×Str)),vs=[.ref x]/\gc C H x ps/\gJ (d0 ps)/\Q (.int ((fO (d0 ps):Nat):Int)) H
theorem CZ:eX ["self"] ["self"] (er lP):=⟨rfl,rfl,rfl,dk,rfl,dk,dk⟩
seal eK PS PE PT PA PG PI eV eQ in
theorem HV{f:Addr}{fd:FuncData}(F:fD K "total" "Book.total" lP f fd)(B:iF K mg C)(T:Txt mg):d8 P w K mg base eu 1 f fd ["self"] (xA C):=by
 refine F.ok CZ (fun vs H Q E h=>?_) (fun cdv A outer s H vs Q E hr h=>?_)
 ·obtain⟨x,ps,rfl,_⟩:=h
  rfl
 ·obtain⟨x,ps,rfl,I,J,k⟩:=h
  obtain⟨dx,dn,pa,sz,dr,ri,xs,es,ts,h1,h2,h3,h4,U,h6,h7,h8,h9⟩:=I.ex
  refine⟨_,d9 (eG (fG (xC rfl) rfl T.sum vV (dY (ji (pv 0) rfl) dZ))),?_⟩
  have:=J.t
  exact⟨_,rfl,x,C,dx,_,_,rfl,h1,B.cl,B.nS,uY,sz,_,rfl,d4.of U,(by show fO (d0 ps)<=1000000;omega),k⟩
def vT(K:W.Frag)(C CW:Addr):Sp:=fun vs H Q E=>∃(x:Addr) (ps:List (Str×Str)) (z:Str),vs=[.ref x,.str z]/\gc C H x ps/\js (d0 ps)/\iH (.str z)/\fV 2000 (.str z)=true/\
 ∀ l I H',d3 H H'->H l=none->H' l=some (.lst (sl (I.filter fun y=>Txt.startswith y z)))->I.Nodup->(∀ y,y∈I↔∃ ws∈d0 ps,y∈ws)->sortedS I=true->Q (.ref l) H'
theorem EE:eX ["self","word"] ["self","word"] (er kD):=⟨rfl,rfl,rfl,dk,rfl,dk,dk⟩
theorem Aw:(["longer","word"]:List Str).Nodup:=dk
theorem qI{t:List (List Str)}{ts:List Str}(h:js t)(hn:ts.Nodup)(hm:∀ y,y∈ts↔∃ ws∈t,y∈ws):ts.length < 64:=by
 obtain⟨us,U,I⟩:=h
 have:=oX hn fun x J=>by
  obtain⟨ws,h1,h2⟩:=(hm x).mp J
  exact I ws h1 x h2
 omega
seal eK PS PE PT PA PG PI eV eQ in
theorem B6{f fw:Addr}{fd fdw:FuncData}(F:fD K "starts" "Book.starts" kD f fd)(B:iF K mg C)(DW:Df K mg "need_word" m8 fw fdw)(GW:d8 P w K mg base (eP P w) 3 fw fdw ["thing"] (kC K (fV 2000) CW)):d8 P w K mg base (eP P w) 4 f fd ["self","word"] (vT K C CW):=by
 have bW:=fN (p:="thing") DW.F fun _ _ _ _ _ _ _=>rfl
 refine F.ok1 EE (fun vs H Q E h=>?_) (fun cdv A outer s H vs Q E hr h=>?_)
 ·obtain⟨x,ps,z,rfl,_⟩:=h
  rfl
 ·obtain⟨x,ps,z,rfl,hB,hF,J,hg,k⟩:=h
  have hz:(sizeLine:Nat)=16777216:=sizeLine_eq
  obtain⟨dx,dn,pa,sz,dr,ri,xs,es,I,h1,h2,h3,h4,h5,h6,h7,h8,h9⟩:=hB.ex
  refine⟨_,d6 (gq (eI GW hr rfl DW.m DW.F.kp bW .nil (iE (E':=E) (fun _ _ _ h=>h)) (dY (pv 1) dZ)))
   (d9 (eG (ik (own:=1) (caps:=[1]) (N:=["longer","word"]) (N0:=["self","word"]) (sc0:=er kD) rfl (gu (ji (pv 0) rfl)) (fun _ _ _=>eO (i:=0) Aw rfl (Or.inl rfl)) (fun _ _ _=>lX (gC (G8 (K:=K) rfl PySem.F.plainAttrs_str PySem.F.slot_str_startswith PySem.F.type_str_startswith EO (pv 0) (dY (pv 1) dZ)))) (fun _ _ _=>(pv 0)) (gD (by decide)) rfl rfl
    dk rfl dk dk rfl dk))),?_⟩
  refine⟨_,rfl,_,rfl,⟨_,.str _⟩,J,(fun _ H1 s1=>?_),fun c=>(by rw [hg] at c;cases c)⟩
  have tn:=h8.nodup_iff.mpr h6.k
  have tm:∀ y,y∈I↔∃ ws∈d0 ps,y∈ws:=fun y=>by rw [h8.mem_iff];exact h6.w y
  have tl:=qI hF tn tm
  have U:=s1 _ _ h7
  refine⟨_,rfl,x,C,dx,_,_,rfl,s1 _ _ h1,B.cl,B.nI,vD,ri,rfl,⟨_,d4.of U⟩,?_⟩
  have aa:(sl I).length=I.length:=List.length_map _
  refine iL (xs:=sl I) (fun i ys H'=>H'=H1/\ys=sl ((I.take i).filter fun y=>Txt.startswith y z)) (by rw [aa];omega) (fun i ys H' q=>by rw [q.1];exact d4.of U) ⟨rfl,rfl⟩ ?_ ?_
  ·rintro i v ys H' N hv ⟨rfl,rfl⟩ hN
   obtain⟨y,hy,rfl⟩:=j9 hv
   refine⟨_,rfl,rfl,_,rfl,y,z,rfl,rfl,_,rfl,?_⟩
   have tk:(I.take (i + 1)).filter (fun y=>Txt.startswith y z)=(I.take i).filter (fun y=>Txt.startswith y z)++(if Txt.startswith y z=true then [y] else []):=by
    rw [take_snoc hy,List.filter_append]
    congr 1
    rw [List.filter_cons]
    split<;>rfl
   cases hs:Txt.startswith y z with
   | true=>
    rw [hs,if_pos rfl] at tk
    exact eN ⟨_,rfl,hN _ _ ⟨rfl,by rw [tk];unfold sl;rw [List.map_append];rfl⟩⟩
   | false=>
    rw [hs,if_neg (by decide),List.append_nil] at tk
    exact eD (hN _ _ ⟨rfl,by rw [tk]⟩)
  ·rintro ys H' ⟨rfl,rfl⟩ _ p hp
   rw [aa,List.take_of_length_le (Nat.le_refl _)]
   exact k p I _ (s1.trans (eh hp)) (s1.free hp) d7 tn tm h9
def xJ(K:W.Frag)(C CWk:Addr):Sp:=fun vs H Q E=>∃(x:Addr) (ps:List (Str×Str)) (z:Str),vs=[.ref x,.str z]/\gc C H x ps/\gJ (d0 ps)/\iH (.str z)/\fV 2000 (.str z)=true/\
 ∀ y p H',d3 H H'->H y=none->H p=none->rY CWk H' y p (rowOf z (d0 ps) 0) 0->Q (.ref y) H'
theorem Ab:eX ["self","word"] ["self","word"] (er mx):=⟨rfl,rfl,rfl,dk,rfl,dk,dk⟩
seal eK PS PE PT PA PG PI eV eQ in
theorem Ec{f fp fi:Addr}{fd fdp fdi:FuncData}(F:fD K "walk_of" "Book.walk_of" mx f fd)(B:iF K mg C)(FP:fD K "parts_of" "Book.parts_of" j8 fp fdp)(mP:Meth K C "parts_of" fp)(GP:d8 P w K mg base (eP P w) 4 fp fdp ["self","word"] (qP K C CW))
  (FI:fD K "__init__" "Walk.__init__" mC fi fdi)(M:L2.Mk K CWk fi)(TW:pS K mg CWk)(GI:d8 P w K mg base eu 5 fi fdi ["self","parts"] (vz CWk)):d8 P w K mg base (eP P w) 7 f fd ["self","word"] (xJ K C CWk):=by
 have bP:=FP.binds (ps:=["self","word"]) fun _ _ _ _ _ _ us J=>gG (fun _ _=>rfl) us J
 have bI:=FI.binds (ps:=["self","parts"]) fun _ _ _ _ _ _ us J=>gG (fun _ _=>rfl) us J
 refine F.ok1 Ab (fun vs H Q E h=>?_) (fun cdv A outer s H vs Q E hr h=>?_)
 ·obtain⟨x,ps,z,rfl,_⟩:=h
  rfl
 ·obtain⟨x,ps,z,rfl,hB,hF,I,hg,k⟩:=h
  obtain⟨dx,dn,pa,sz,dr,ri,xs,es,ts,h1,_⟩:=hB.ex
  refine⟨_,d9 (eG (uU M GI hr rfl TW.mgC bI .nil eM (dY (iO (pv 0) B.cl mP (GP.mono (by decide)) hr bP .nil (iE (E':=E) (fun _ _ _ h=>h)) (dY (pv 1) dZ)) dZ))),?_⟩
  refine⟨_,rfl,x,dx,_,rfl,h1,jj dk dk dk dk dk,_,rfl,?_⟩
  refine⟨x,ps,.str z,rfl,hB,⟨_,.str _⟩,I,(fun U l H1 e _ s1 J hL=>?_),fun c=>(by rw [hg] at c;cases c)⟩
  have ez:U=z:=by injection e with e;exact e.symm
  subst ez
  intro y dy hy aa ne
  have nl:∀ b u,H1 b=some u->upd (upd H1 dy (.own y)) y (.ins CWk dy []) b=some u:=fun b u e=>by
   rw [eC (fv e hy),eC (fv e aa)]
   exact e
  refine⟨y,l,dy,rowOf U (d0 ps) 0,rfl,d7,nl _ _ hL,gJ.ok U,hF.sz U,fun p H2 hp hW sb=>⟨rfl,?_⟩⟩
  have ab:H1 p=none:=by
   cases q:H1 p with
   | none=>rfl
   | some u=>rw [nl _ _ q] at hp;cases hp
  refine k y p H2 (fun b u e=>?_) (s1.free hy) (s1.free ab) hW
  have e1:=s1 _ _ e
  exact sb _ _ (nl _ _ e1) (fv e1 hy)
end
section
variable {P : Program} {w : World} {K : PySem.W.Frag} {mg : Str -> Option Value} {base : Heap}
def iP(c:Nat):List Nat:=if fq (K01.lo c) then [K01.lo c] else []
def yy:Sp:=fun vs H Q _=>∃ c:Nat,vs=[.str ⟨#[c]⟩]/\gy c=true/\Q (.str ⟨(iP c).toArray⟩) H
theorem uv:eX ["_law_sign","_law_great","_law_small_here"] ["_law_sign"] (er oQ):=⟨rfl,rfl,rfl,dk,rfl,dk,dk⟩
theorem qy(x:String)(c:Nat):(!(Builtin.Str.occurrences (Str.ofString x) ⟨#[c]⟩ 0 (Str.ofString x).length 1).isEmpty)=decide (c∈(Str.ofString x).cps.toList):=PySem.StrLaws.found_one _ _
theorem vN:(Str.ofString "ABCDEFGHIJKLMNOPQRSTUVWXYZ").cps.toList=List.range' 65 26:=dk
theorem ya:(Str.ofString "abcdefghijklmnopqrstuvwxyz").cps.toList=List.range' 97 26:=dk
theorem AA:(Str.ofString "0123456789").cps.toList=List.range' 48 10:=dk
theorem Fu:∀ c,c < 128->65<=c->c<=90->Txt.find (Str.ofString "ABCDEFGHIJKLMNOPQRSTUVWXYZ") ⟨#[c]⟩=((c - 65:Nat):Int):=dk
seal eK PS PE PT PA PG PI eV eQ in
theorem BH{f:Addr}{fd:FuncData}(D:Df K mg "_law_small" oQ f fd):d8 P w K mg base eu 1 f fd ["_law_sign"] yy:=by
 refine D.F.ok uv (fun vs H Q E h=>?_) (fun cdv A outer s H vs Q E hr h=>?_)
 ·obtain⟨c,rfl,_⟩:=h
  rfl
 ·obtain⟨c,rfl,hok,k⟩:=h
  have I:=qE hok
  refine⟨_,d6 (eE (i:=1) uv.nd rfl (Or.inl rfl) fF) (d6 (eE (i:=2) uv.nd rfl (Or.inl rfl) fF)
   (d6 (fE (eY qz (pv 0) (pv 1) rfl) (d9 (eG (fb oM (pv 2) (gj F.plainAttrs_str F.slot_str_index F.type_str_index (CF rfl) (pv 1) (dY (pv 0) dZ)) (fun _ _=>rfl)))) fB)
   (d6 (fE (PW.pt (gU (eY qz (pv 0) (pv 2) rfl) (ip (eY qz (pv 0) fF rfl)))) (d9 (eG (pv 0))) fB)
   (d9 (eG fF))))),?_⟩
  refine⟨_,rfl,_,rfl,_,_,rfl,rfl,_,rfl,?_⟩
  rw [qy,vN]
  by_cases J:65<=c/\c<=90
  ·rw [decide_eq_true (by rw [List.mem_range'_1];(clear I hok;omega))]
   refine eN ?_
   have hf:=Fu c I J.1 J.2
   refine⟨_,rfl,_,rfl,rfl,_,rfl,_,_,rfl,rfl,?_,_,_,c + 32,rfl,rfl,by decide,?_,?_⟩
   ·have e:=qy "ABCDEFGHIJKLMNOPQRSTUVWXYZ" c
    rw [vN,decide_eq_true (by rw [List.mem_range'_1];(clear e hf I hok;omega))] at e
    simpa using e
   ·rw [hf,ya]
    refine fC ?_
    rw [List.getElem?_range' (by(clear hf I hok;omega))]
    congr 1
    (clear hf I hok;omega)
   ·have e:iP c=[c + 32]:=by
     unfold iP K01.lo
     rw [if_pos J,if_pos]
     unfold fq
     simp only [Bool.or_eq_true,Bool.and_eq_true,decide_eq_true_eq]
     (clear hf I hok;omega)
    rw [e] at k
    exact k
  ·rw [decide_eq_false (by rw [List.mem_range'_1];(clear I hok;omega))]
   refine eD ?_
   have U:K01.lo c=c:=by unfold K01.lo;rw [if_neg J]
   refine⟨_,rfl,_,rfl,_,_,rfl,rfl,_,rfl,?_⟩
   rw [qy,ya]
   by_cases hs:97<=c/\c<=122
   ·rw [decide_eq_true (by rw [List.mem_range'_1];(clear U J I hok;omega))]
    refine eN (eN ⟨_,rfl,?_⟩)
    have e:iP c=[c]:=by
     unfold iP
     rw [U,if_pos]
     unfold fq
     simp only [Bool.or_eq_true,Bool.and_eq_true,decide_eq_true_eq]
     (clear U J I hok;omega)
    rw [e] at k
    exact k
   ·rw [decide_eq_false (by rw [List.mem_range'_1];(clear U J I hok;omega))]
    refine eD ⟨_,rfl,_,_,rfl,rfl,_,rfl,?_⟩
    rw [qy,AA]
    by_cases hd:48<=c/\c<=57
    ·rw [decide_eq_true (by rw [List.mem_range'_1];(clear hs U J I hok;omega))]
     refine eN ⟨_,rfl,?_⟩
     have e:iP c=[c]:=by
      unfold iP
      rw [U,if_pos]
      unfold fq
      simp only [Bool.or_eq_true,Bool.and_eq_true,decide_eq_true_eq]
      (clear hs U J I hok;omega)
     rw [e] at k
     exact k
    ·rw [decide_eq_false (by rw [List.mem_range'_1];(clear hs U J I hok;omega))]
     refine eD ?_
     have e:iP c=[]:=by
      unfold iP
      rw [U,if_neg]
      unfold fq
      simp only [Bool.or_eq_true,Bool.and_eq_true,decide_eq_true_eq]
      (clear U J I hok;omega)
     rw [e] at k
     exact k
def tG:Sp:=fun vs H Q _=>∃ x,vs=[.str x]/\Drawn x/\∀ a H',d3 H H'->H a=none->WL H' a (words (codes x))->Q (.ref a) H'
theorem kA:eX ["_law_text_here","_law_found","_law_word","_law_at","_law_sign"] ["_law_text_here"] (er m5):=⟨rfl,rfl,rfl,dk,rfl,dk,dk⟩
seal eK PS PE PT PA PG PI eV eQ in
theorem Ax{f fs:Addr}{fd fds:FuncData}(D:Df K mg "_law_words" m5 f fd)(DS:Df K mg "_law_small" oQ fs fds)(T:Txt mg):d8 P w K mg base eu 2 f fd ["_law_text_here"] tG:=by
 have GS:d8 P w K mg base eu 1 fs fds ["_law_sign"] yy:=BH DS
 have bS:=fN (p:="_law_sign") DS.F fun _ _ _ _ _ _ _=>rfl
 refine D.F.ok kA (fun vs H Q E h=>?_) (fun cdv A outer s H vs Q E hr h=>?_)
 ·obtain⟨x,rfl,_⟩:=h
  rfl
 ·obtain⟨x,rfl,⟨hlen,hok⟩,kk⟩:=h
  have hl:(sizeLine:Nat)=16777216:=sizeLine_eq
  have J:(codes x).length=x.length:=by unfold codes;simp [Str.length]
  refine⟨_,d6 (eE (i:=1) kA.nd rfl (Or.inl rfl) (fJ dZ)) (d6 (eE (i:=2) kA.nd rfl (Or.inl rfl) fF)
   (d6 (fU PassesOwn.never rfl (iW rfl T.range (dY (ek fQ (fG ko rfl T.len gf (dY (pv 0) dZ)) d5) dZ)) (eO (i:=3) kA.nd rfl (Or.inl rfl))
    (d6 (eE (i:=4) kA.nd rfl (Or.inl rfl) fF)
    (d6 (fE (eY jm (pv 3) (fG ko rfl T.len gf (dY (pv 0) dZ)) (eZ _))
     (d9 (eE (i:=4) kA.nd rfl (Or.inl rfl) (eI GS hr rfl DS.m DS.F.kp bS .nil eM (dY (fb oM (pv 0) (pv 3) (fun _ _=>rfl)) dZ)))) fB)
    (d6 (fE (PW.pt (mv (eY ig (pv 4) fF (eZ _)) (mz (eY jv (pv 2) fF (eZ _)))))
     (d6 (gq (gj F.plainAttrs_list F.slot_list_append F.type_list_append gT (pv 1)
       (dY (g8 (dY (pv 2) (dY (ek jc (pv 3) (fG ko rfl T.len gf (dY (pv 2) dZ))) (dY (pv 3) dZ)))) dZ)))
      (d9 (eE (i:=2) kA.nd rfl (Or.inl rfl) fF))) fB)
    (d9 (eE (i:=2) kA.nd rfl (Or.inl rfl) (ek jl (pv 2) (pv 4))))))))
   (d9 (eG (pv 1))))),?_⟩
  refine⟨Nat.zero_le _,fun a ha=>?_⟩
  refine⟨_,rfl,x,rfl,by(clear ha J hok;omega),_,_,rfl,rfl,_,rfl,by(clear ha J hl hok hlen;omega),by(clear ha J hl hok;omega),?_⟩
  have en:(((x.length:Nat):Int) + 1).toNat=x.length + 1:=by(clear ha J hl hok hlen;omega)
  rw [en]
  refine jM (fun i σ H'=>∃(ds:List Wd) (wd:List Nat) (v3 v4:Option V),σ=[some (.str x),some (.ref a),some (.str ⟨wd.toArray⟩),v3,v4]/\d3 H H'/\WL H' a ds/\wd.all fq=true/\wd.length<=i/\ds.length<=i/\
    ((i<=x.length/\ds++gN (((codes x).map K01.lo).drop i) i wd=words (codes x))\/(i=x.length + 1/\ds=words (codes x)))) ?_ ?_ ?_
  ·exact⟨[],[],none,none,rfl,eh ha,⟨[],d7,.nil⟩,rfl,Nat.le_refl _,Nat.le_refl _,.inl ⟨Nat.zero_le _,rfl⟩⟩
  ·intro i σ H' hi hP
   refine uE fun B D' hB ar=>?_
   obtain⟨ds,wd,v3,v4,rfl,sm,hW,aa,ae,af,hm⟩:=hP
   have av:i<=x.length/\ds++gN (((codes x).map K01.lo).drop i) i wd=words (codes x):=by
    rcases hm with q | ⟨q,_⟩
    ·exact q
    ·(clear af ae aa en ha J hl hok hlen;omega)
   obtain⟨ab,heq⟩:=av
   have e0:(0:Int) + (i:Nat)=(i:Int):=by(clear heq ab hm af ae aa hi en ha J hl hok hlen;omega)
   rw [e0]
   have rest:∀(sg:List Nat),((sg=[]/\((i < x.length->False)\/∃ c,(codes x)[i]? =some c/\fq (K01.lo c)=false))\/∃ c,(codes x)[i]? =some c/\fq (K01.lo c)=true/\sg=[K01.lo c])->sg.length<=1->True:=fun _ _ _=>trivial
   refine mj (R:=B) hB fun R hR=>?_
   refine mj (R:=R) hR fun R hR=>?_
   refine⟨_,rfl,_,rfl,x,rfl,by(clear e0 heq ab hm af ae aa hi en ha J hok;omega),_,_,rfl,rfl,_,rfl,?_⟩
   obtain⟨ps,eA,pA⟩:=hW.ex
   have U:=Paired.len pA
   by_cases ak:i < x.length
   ·rw [decide_eq_true (by(clear U eA e0 heq ab hm af ae aa hi en ha J hl hok hlen;omega))]
    refine eN ?_
    have aj:i < (codes x).length:=by(clear U eA e0 heq ab hm af ae aa hi en ha hl hok hlen;omega)
    have hc:(codes x)[i]? =some (codes x)[i]:=List.getElem?_eq_getElem aj
    have I:((codes x).map K01.lo).drop i=K01.lo (codes x)[i]::((codes x).map K01.lo).drop (i + 1):=by
     rw [List.drop_eq_getElem_cons (by rw [List.length_map];exact aj),List.getElem_map]
    have ag:gy (codes x)[i]=true:=List.all_eq_true.mp hok _ (List.getElem_mem aj)
    refine⟨_,rfl,_,rfl,x,_,(codes x)[i],rfl,rfl,by(clear ag I hc aj ak U eA e0 heq ab hm af ae aa hi en ha J hok;omega),fC hc,_,rfl,ag,?_⟩
    refine mj (R:=R) hR fun R hR=>?_
    refine⟨_,rfl,rfl,_,rfl,?_⟩
    have es:decide (V.str ⟨(iP (codes x)[i]).toArray⟩=V.str (Str.ofString ""))=decide (iP (codes x)[i]=[]):=sE _ []
    rw [es]
    cases hS:fq (K01.lo (codes x)[i]) with
    | true=>
     have e1:iP (codes x)[i]=[K01.lo (codes x)[i]]:=by unfold iP;rw [if_pos hS]
     rw [e1,decide_eq_false (by simp)]
     refine eD (eD (lE (R:=R) hR ?_))
     refine⟨_,rfl,_,rfl,_,_,rfl,rfl,?_,?_⟩
     ·rw [iK,iK];simp;(clear e1 hS es ag I hc aj ak U eA e0 heq ab hm af aa en ha J hok;omega)
     ·rw [kO]
      refine ar _ _ ⟨ds,wd++[K01.lo (codes x)[i]],_,_,rfl,sm,hW,by simp [List.all_append,aa,hS],by simp;(clear e1 hS es ag I hc aj ak U eA e0 heq ab hm af aa hi en ha J hl hok hlen;omega),by(clear e1 hS es ag I hc aj ak U eA e0 heq ab hm ae aa hi en ha J hl hok hlen;omega),.inl ⟨by(clear e1 hS es ag I hc aj U eA e0 heq ab hm af ae aa hi en ha J hl hok hlen;omega),?_⟩⟩
      rw [I,md hS] at heq
      exact heq
    | false=>
     have e1:iP (codes x)[i]=[]:=by unfold iP;rw [if_neg (by rw [hS];exact Bool.false_ne_true)]
     rw [e1,decide_eq_true rfl]
     refine eN ⟨_,rfl,rfl,_,rfl,?_⟩
     have ew:(!decide (V.str ⟨wd.toArray⟩=V.str (Str.ofString "")))= !decide (wd=[]):=by rw [show decide (V.str ⟨wd.toArray⟩=V.str (Str.ofString ""))=decide (wd=[]) from sE _ []]
     rw [ew]
     rw [I,lj hS,<-List.append_assoc] at heq
     by_cases ah:wd=[]
     ·subst ah
      rw [decide_eq_true rfl]
      refine eD (lE (R:=R) hR ?_)
      refine⟨_,rfl,_,rfl,_,_,rfl,rfl,pj (a:=[]) (b:=[]) (by simp),?_⟩
      rw [kO]
      refine ar _ _ ⟨ds,[],_,_,rfl,sm,hW,rfl,Nat.zero_le _,by(clear ew heq hm ae aa e1 hS es ag I hc aj ak U eA e0 ab hi en ha J hl hok hlen;omega),.inl ⟨by(clear ew heq hm ae aa e1 hS es ag I hc aj U eA e0 ab af hi en ha J hl hok hlen;omega),?_⟩⟩
      simpa [flush] using heq
     ·rw [decide_eq_false ah]
      refine eN ?_
      refine⟨_,rfl,.inl ⟨rfl,_,d4.of eA⟩,_,rfl,_,rfl,_,rfl,_,rfl,by rw [iK];(clear ah ew e1 hS es ag I hc heq aj ak U eA e0 ab hm af aa en ha J hok;omega),_,_,rfl,rfl,_,rfl,(by show 3<=sizeLine;decide),fun t ht=>?_⟩
      have ao:a≠t:=fv eA ht
      refine⟨a,_,_,rfl,rfl,by rw [eC ao];exact eA,by simp;(clear ao ht ah ew e1 hS es ag I hc heq aj ak eA e0 ab hm ae aa en ha J hok;omega),?_⟩
      refine lE (R:=R) hR ?_
      refine⟨_,rfl,_,rfl,_,_,rfl,rfl,pj (a:=[]) (b:=[]) (by simp),?_⟩
      have et:HO.tup [V.str ⟨wd.toArray⟩,V.int (((i:Nat):Int) - ((Str.length ⟨wd.toArray⟩:Nat):Int)),V.int (i:Int)]=j1 (wd,i - wd.length,i):=by
       unfold j1
       rw [iK]
       show HO.tup [_,V.int _,_]=HO.tup [_,V.int ((i - wd.length:Nat):Int),_]
       rw [show((i:Nat):Int) - ((wd.length:Nat):Int)=((i - wd.length:Nat):Int) by(clear ao ht ah ew e1 hS es ag I hc heq aj ak U eA e0 ab hm af aa hi en ha J hl hok hlen;omega)]
      rw [et]
      have ee:(Str.ofString "":Str)++⟨([]:List Nat).toArray⟩=⟨([]:List Nat).toArray⟩:=kO [] []
      refine ar _ _ ⟨ds++[(wd,i - wd.length,i)],[],_,_,(by rw [ee];rfl),tT sm ha ht,WL.more eA pA ht,rfl,Nat.zero_le _,by simp;(clear ee et ao ht ah ew e1 hS es ag I hc heq aj ak U eA e0 ab hm ae aa hi en ha J hl hok hlen;omega),.inl ⟨by(clear ee et ao ht ah ew e1 hS es ag I hc heq aj U eA e0 ab hm af ae aa hi en ha J hl hok hlen;omega),?_⟩⟩
      have au:flush i wd=[(wd,i - wd.length,i)]:=by unfold flush;rw [if_neg ah]
      rw [au] at heq
      exact heq
   ·rw [decide_eq_false (by(clear U eA e0 heq ab hm af ae aa hi en ha J hl hok hlen;omega))]
    refine eD ?_
    have aq:i=x.length:=by(clear U eA e0 heq ab hm af ae aa en ha J hl hok hlen;omega)
    have I:((codes x).map K01.lo).drop i=[]:=List.drop_of_length_le (by rw [List.length_map];(clear aq U eA e0 heq ab hm af ae aa hi en ha hl hok hlen;omega))
    rw [I] at heq
    have ai:ds++flush i wd=words (codes x):=heq
    refine mj (R:=R) hR fun R hR=>?_
    refine⟨_,rfl,rfl,_,rfl,?_⟩
    have es:decide (V.str (Str.ofString "")=V.str (Str.ofString ""))=true:=decide_eq_true rfl
    rw [es]
    refine eN ⟨_,rfl,rfl,_,rfl,?_⟩
    have ew:(!decide (V.str ⟨wd.toArray⟩=V.str (Str.ofString "")))= !decide (wd=[]):=by rw [show decide (V.str ⟨wd.toArray⟩=V.str (Str.ofString ""))=decide (wd=[]) from sE _ []]
    rw [ew]
    have ee:(⟨wd.toArray⟩:Str)++Str.ofString ""=⟨wd.toArray⟩:=by
     rw [yS,kO,List.append_nil]
    by_cases ah:wd=[]
    ·subst ah
     rw [decide_eq_true rfl]
     refine eD (lE (R:=R) hR ?_)
     refine⟨_,rfl,_,rfl,_,_,rfl,rfl,pj (a:=[]) (b:=[]) (by simp),?_⟩
     rw [ee]
     exact ar _ _ ⟨ds,[],_,_,rfl,sm,hW,rfl,Nat.zero_le _,by(clear ee ew ai heq hm ae aa es I aq ak U eA e0 ab hi en ha J hl hok hlen;omega),.inr ⟨by(clear ee ew ai heq hm ae aa es I aq U eA e0 ab af en ha J hl hok hlen;omega),by simpa [flush] using ai⟩⟩
    ·rw [decide_eq_false ah]
     refine eN ?_
     refine⟨_,rfl,.inl ⟨rfl,_,d4.of eA⟩,_,rfl,_,rfl,_,rfl,_,rfl,by rw [iK];(clear ah ee ew es ai I aq ak U eA e0 heq ab hm af aa en ha J hok;omega),_,_,rfl,rfl,_,rfl,(by show 3<=sizeLine;decide),fun t ht=>?_⟩
     have ao:a≠t:=fv eA ht
     refine⟨a,_,_,rfl,rfl,by rw [eC ao];exact eA,by simp;(clear ao ht ah ee ew es ai I aq ak eA e0 heq ab hm ae aa en ha J hok;omega),?_⟩
     refine lE (R:=R) hR ?_
     refine⟨_,rfl,_,rfl,_,_,rfl,rfl,pj (a:=[]) (b:=[]) (by simp),?_⟩
     have et:HO.tup [V.str ⟨wd.toArray⟩,V.int (((i:Nat):Int) - ((Str.length ⟨wd.toArray⟩:Nat):Int)),V.int (i:Int)]=j1 (wd,i - wd.length,i):=by
      unfold j1
      rw [iK]
      show HO.tup [_,V.int _,_]=HO.tup [_,V.int ((i - wd.length:Nat):Int),_]
      rw [show((i:Nat):Int) - ((wd.length:Nat):Int)=((i - wd.length:Nat):Int) by(clear ao ht ah ee ew es ai I aq ak U eA e0 heq ab hm af aa hi en ha J hl hok hlen;omega)]
     rw [et]
     have e2:(Str.ofString "":Str)++Str.ofString ""=⟨([]:List Nat).toArray⟩:=kO [] []
     have au:flush i wd=[(wd,i - wd.length,i)]:=by unfold flush;rw [if_neg ah]
     rw [au] at ai
     exact ar _ _ ⟨ds++[(wd,i - wd.length,i)],[],_,_,(by rw [e2];rfl),tT sm ha ht,WL.more eA pA ht,rfl,Nat.zero_le _,by simp;(clear au e2 et ao ht ah ee ew es ai I aq ak U eA e0 heq ab hm ae aa hi en ha J hl hok hlen;omega),.inr ⟨by(clear au e2 et ao ht ah ee ew es ai I aq U eA e0 heq ab hm af ae aa en ha J hl hok hlen;omega),ai⟩⟩
  ·rintro σ H' ⟨ds,wd,v3,v4,rfl,sm,hW,_,_,_,hm⟩
   rcases hm with ⟨q,_⟩ | ⟨_,q⟩
   ·(clear en ha J hl hok hlen;omega)
   ·subst q
    exact⟨_,rfl,kk a H' sm ha hW⟩
def oU(x:Pr):PyData:= .tuple [.int (x.1:Int),.tuple (dN x.2)]
def mL(row:List Pr):PyData:= .list (row.map oU)
theorem pY{H:Hp}{a:Addr}{row:List Pr}(h:fj H a row):ia K H (.ref a) (mL row):=by
 obtain⟨xs,e,p⟩:=h
 refine .lst (d4.of e) ?_
 clear e
 induction p with
 | nil=>exact .nil
 | cons r _ I=>
  cases r with
  | mk h ht=>exact .cons (.tup (eW.of h) (.cons (.int _) (.cons (.tup (eW.of ht) (qA _)) .nil))) I
theorem wW:∀(ns:List Nat),(PyData.tuple (dN ns)).canLay0=true
 | []=>rfl
 | n::ns=>wW ns
theorem Bi(x:Pr):(oU x).canLay0=true:=by
 show((PyData.tuple (dN x.2)).canLay0 && true)=true
 rw [wW]
 rfl
theorem nz:∀(row:List Pr),(mL row).canLay0=true
 | []=>rfl
 | x::r=>by
  show((oU x).canLay0 && (mL r).canLay0)=true
  rw [Bi,nz r]
  rfl
theorem vX:∀ ns:List Nat,(PyData.tuple (dN ns)).depth<=2
 | []=>by decide
 | s::ss=>by
  show max 0 (PyData.depthAll (dN ss)) + 1<=2
  have I:PyData.depthAll (dN ss) + 1<=2:=vX ss
  omega
theorem rS:∀ row:List Pr,(mL row).depth<=4
 | []=>by decide
 | x::r=>by
  show max (max 0 (max (PyData.tuple (dN x.2)).depth 0) + 1) (PyData.depthAll (r.map oU)) + 1<=4
  have I:PyData.depthAll (r.map oU) + 1<=4:=rS r
  have:=vX x.2
  omega
theorem Cs:bootBuiltins "any"=some (.builtin "any"):=dk
theorem qm:(["_law_one"]:List Str).Nodup:=dk
structure qt (K : W.Frag) (H : Hp) (a b : Addr) : Prop where
 ex : ∃ (xs : List V) (d : PyData), H a = some (.lst xs) /\ xs.length <= 3000 /\ (∀ x ∈ xs, Known K H x /\ rO x = false) /\ ia K H (.ref a) d /\ ia K H (.ref b) d /\ d.canLay0 = true /\ d.depth <= 10
def zI(K:W.Frag):Sp:=fun vs H Q _=>∃(a b:Addr),vs=[.ref a,.ref b]/\qt K H a b/\∀ H',d3 H H'->Q (.bl true) H'
theorem D1:eX ["_law_found","_law_due"] ["_law_found","_law_due"] (er m7):=⟨rfl,rfl,rfl,dk,rfl,dk,dk⟩
seal eK PS PE PT PA PG PI eV eQ in
theorem zY{f:Addr}{fd:FuncData}(D:Df K mg "_law_list_is" m7 f fd)(T:Txt mg):d8 P w K mg base eu 1 f fd ["_law_found","_law_due"] (zI K):=by
 refine D.F.ok D1 (fun vs H Q E h=>?_) (fun cdv A outer s H vs Q E U h=>?_)
 ·obtain⟨a,b,rfl,_⟩:=h
  rfl
 ·obtain⟨a,b,rfl,⟨xs,d,J,hl,hk,d1,d2,lay,dep⟩,kk⟩:=h
  have hz:(sizeLine:Nat)=16777216:=sizeLine_eq
  refine⟨_,(d6 (fE (PW.pt (gU (gH (gC (fG (wC (K:=K) rfl) rfl T.isi jH (dY (pv 0) (dY (jE (v:= .ty "list") rfl T.list j7 rfl) dZ))))) (ip (eY (rg U.units100) (pv 0) (pv 1) (eZ _))))) (d9 (eG gM)) fB)
   (d9 (eG (yO (fG (AF rfl) rfl T.any Cs (dY (ik (own:=1) (caps:=[]) (N:=["_law_one"]) (N0:=["_law_found","_law_due"]) (sc0:=er m7) rfl (gu (pv 0)) (fun _ _ _=>eO (i:=0) qm rfl (Or.inl rfl)) (fun _ _ _=>iG) (fun _ _ _=>fG (wC (K:=K) rfl) rfl T.isi jH (dY (pv 0) (dY (jE (v:= .ty "bool") rfl T.bool ve rfl) dZ))) (gD (by decide)) rfl rfl
    dk rfl dk dk rfl dk) dZ)))))),?_⟩
  refine⟨_,rfl,_,_,_,_,rfl,.lst J,.inl ⟨_,rfl,t8⟩,_,rfl,eD ⟨_,rfl,_,rfl,d,d,d1,d2,lay,lay,(by omega),_,rfl,?_⟩⟩
  rw [sk lay]
  refine eD ⟨_,rfl,a,rfl,⟨_,d4.of J⟩,?_⟩
  refine iL (xs:=xs) (fun i ys H'=>H'=H/\ys=List.replicate i (V.bl false)) (by omega) (fun i ys H' q=>by rw [q.1];exact d4.of J) ⟨rfl,rfl⟩ ?_ ?_
  ·rintro i v ys H' N hv ⟨rfl,rfl⟩ hN
   obtain⟨⟨n,I⟩,hb⟩:=hk v (List.mem_of_getElem? hv)
   refine g1 ⟨_,rfl,v,.ty "bool",_,_,rfl,I,.inl ⟨_,rfl,vp I⟩,?_⟩
   rw [hb]
   exact hN _ _ ⟨rfl,by rw [List.replicate_succ']⟩
  ·rintro ys H' ⟨rfl,rfl⟩ _ p hp
   refine⟨p,List.replicate xs.length false,rfl,d4.of (by rw [d7,List.map_replicate]),_,rfl,?_⟩
   have e:(List.replicate xs.length false).any id=false:=by
    rw [List.any_eq_false]
    intro x hx
    rw [List.eq_of_mem_replicate hx]
    decide
   rw [e]
   exact kk _ (eh hp)
def wA:TE:=fun σ H Q=>∃(t:Addr) (pl:List Nat) (j c g:Nat),σ[4]? =some (some (.ref t))/\σ[5]? =some (some (.int (j:Int)))/\H t=some (.tup (nl pl))/\pl[j]? =some c/\(j=0->g=0)/\(∀ b,0 < j->pl[j - 1]? =some b->g=b + 1)/\g<=c/\Q (.int ((c - g:Nat):Int)) H
theorem z5{σ:L2.St}{H:Hp}{Q:VK}(h:wA σ H Q):xl (xW (iQ vP (ie 5) (tC (.int 0)))) (iQ (pX K) (ie 4) (tC (.int 0))) (iQ (jN fun i j=> .int (i - j)) (iQ (jN fun i j=> .int (i - j)) (iQ (pX K) (ie 4) (ie 5)) (iQ (pX K) (ie 4) (iQ (jN fun i j=> .int (i - j)) (ie 5) (tC (.int 1))))) (tC (.int 1))) σ H Q:=by
 obtain⟨t,pl,j,c,g,I,J,ht,U,g0,aa,hle,q⟩:=h
 refine⟨_,J,rfl,_,rfl,?_⟩
 by_cases hj:j=0
 ·subst hj
  rw [iy (by rfl)]
  have:=g0 rfl
  subst this
  exact eN ⟨_,I,t,_,_,_,rfl,rfl,eW.of ht,fC (j:=0) (by unfold nl;rw [List.getElem?_map,U];rfl),q⟩
 ·rw [jg (by omega)]
  have ab:=(List.getElem?_eq_some_iff.mp U).1
  obtain⟨b,hb⟩:∃ b,pl[j - 1]? =some b:=⟨pl[j - 1]'(by omega),List.getElem?_eq_getElem (by omega)⟩
  have:=aa b (by omega) hb
  subst this
  have e:(j:Int) - 1=((j - 1:Nat):Int):=by omega
  refine eD ⟨_,I,_,J,t,_,_,_,rfl,rfl,eW.of ht,fC (by unfold nl;rw [List.getElem?_map,U];rfl),_,I,_,J,_,_,rfl,rfl,t,_,_,.int (b:Int),rfl,rfl,eW.of ht,?_,_,_,rfl,rfl,_,_,rfl,rfl,?_⟩
  ·rw [e]
   exact fC (by unfold nl;rw [List.getElem?_map,hb];rfl)
  ·have e2:(c:Int) - (b:Int) - 1=((c - (b + 1):Nat):Int):=by omega
   show Q (V.int ((c:Int) - (b:Int) - 1)) H
   rw [e2]
   exact q
def yN(K:W.Frag):Sp:=fun vs H Q _=>∃(a:Addr) (row:List Pr),vs=[.ref a]/\fj H a row/\iJ 0 row/\Sz row/\(∀ x∈row,x.2.length<=2000)/\∀ p H',d3 H H'->H p=none->H' p=some (.lst (nl (pk (rn 0 row))))->Q (.ref p) H'
theorem jz:eX ["_law_row","_law_numbers","_law_last","_law_number_here","_law_places","_law_k","_law_parts_here"] ["_law_row"] (er p8):=⟨rfl,rfl,rfl,dk,rfl,dk,dk⟩
seal eK PS PE PT PA PG PI eV eQ in
theorem AG{f:Addr}{fd:FuncData}(D:Df K mg "_law_parts" p8 f fd)(T:Txt mg):d8 P w K mg base eu 1 f fd ["_law_row"] (yN K):=by
 refine D.F.ok jz (fun vs H Q E h=>?_) (fun cdv A outer s H vs Q E hr h=>?_)
 ·obtain⟨a,row,rfl,_⟩:=h
  rfl
 ·obtain⟨a,row,rfl,hA,ho,hs,ah,kk⟩:=h
  have hl:(sizeLine:Nat)=16777216:=sizeLine_eq
  refine⟨_,(d6 (eE (i:=1) jz.nd rfl (Or.inl rfl) (fJ dZ))
   (d6 (eE (i:=2) jz.nd rfl (Or.inl rfl) (yM ye d5))
   (d6 (fU PassesOwn.never rfl (gu (pv 0)) (iz (n:=2) rfl (gh (eO (i:=3) jz.nd rfl (Or.inl rfl)) (gh (eO (i:=4) jz.nd rfl (Or.inl rfl)) iC))) (d6 (eE (i:=1) jz.nd rfl (Or.inl rfl) (ek jK (pv 1) (fJ (dY (ek jc (ek jc (pv 3) (pv 2)) d5) (dY (ek jc (fG gQ rfl T.len gf (dY (pv 4) dZ)) d5) dZ)))))
   (d6 (eE (i:=2) jz.nd rfl (Or.inl rfl) (pv 3))
   (d9 (fU PassesOwn.never rfl (iW rfl T.range (dY (fG gQ rfl T.len gf (dY (pv 4) dZ)) dZ)) (eO (i:=5) jz.nd rfl (Or.inl rfl)) (d9 (gq (gj F.plainAttrs_list F.slot_list_append F.type_list_append gT (pv 1) (dY (PE.imp (t':=wA) (oR (eY ig (pv 5) d5 (eZ _)) (fb iu (pv 4) d5 (fun _ _=>rfl)) (ek jc (ek jc (fb iu (pv 4) (pv 5) (fun _ _=>rfl)) (fb iu (pv 4) (ek jc (pv 5) d5) (fun _ _=>rfl))) d5)) fun _ _ _=>z5) dZ)))))))))
   (d6 (eE (i:=6) jz.nd rfl (Or.inl rfl) (fJ dZ))
   (d6 (fU PassesOwn.never rfl (gu (pv 1)) (eO (i:=3) jz.nd rfl (Or.inl rfl)) (d6 (ux PassesOwn.never (eY jq (pv 3) d5 (eZ _)) (d6 (gq (gj F.plainAttrs_list F.slot_list_append F.type_list_append gT (pv 6) (dY (ek fQ (ek fY (pv 3) d5) d5) dZ)))
   (d9 (eE (i:=3) jz.nd rfl (Or.inl rfl) (ek g9 (pv 3) d5)))))
   (d9 (gq (gj F.plainAttrs_list F.slot_list_append F.type_list_append gT (pv 6) (dY (pv 3) dZ))))))
   (d9 (eG (pv 6)))))))),?_⟩
  obtain⟨xs,hX,hp⟩:=id hA
  have aw:=Gn.Paired.len hp
  have aK:=hs.l
  have ax:=hs.r
  refine⟨(by show 0<=sizeLine;decide),fun p0 ai=>?_⟩
  have s0:d3 H (upd H p0 (.lst [])):=eh ai
  refine⟨_,rfl,_,rfl,a,rfl,⟨_,d4.of (s0 _ _ hX)⟩,?_⟩
  refine iS (xs:=xs) (fun i σ H'=>∃(U:Addr) (l:Nat) (done:List Nat) (o3 o4 o5 o6:Option V),σ=[some (.ref a),some (.ref U),some (.int ((l:Int) - 1)),o3,o4,o5,o6]/\d3 H H'/\H U=none/\H' U=some (.lst (nl done))/\rn 0 row=done++rn l (row.drop i)/\iJ l (row.drop i)) ?_ ?_ ?_ ?_
  ·exact⟨p0,0,[],none,none,none,none,rfl,s0,ai,d7,rfl,ho⟩
  ·rintro i σ H' _ ⟨_,_,_,_,_,_,_,_,sm,_⟩
   exact d4.of (sm _ _ hX)
  ·rintro i x σ H' hx ⟨U,l,done,o3,o4,o5,o6,rfl,sm,ay,hN,J,hok⟩
   obtain⟨r,aj,af⟩:=gK hp hx
   rw [jX aj] at J hok
   have az:=ah r (List.mem_of_getElem? aj)
   replace af:=af.same sm
   cases af with
   | mk h ht=>
    rename_i p t n pl
    have aJ:pl.length<=2000:=az
    obtain⟨aL,ak,ao⟩:=hok.head
    have aM:0 < pl.length:=List.length_pos_iff.mpr ak
    have ae:rn 0 row=done++[n - l,pl.length - 1]++(gw 0 pl++rn (n + 1) (row.drop (i + 1))):=by
     rw [J,List.append_assoc]
     rfl
    have aN:done.length + 2 + pl.length<=2000:=by
     have aq:=ax
     rw [ae,List.length_append,List.length_append,List.length_append,ku] at aq
     have:[n - l,pl.length - 1].length=2:=rfl
     omega
    refine⟨p,_,rfl,eW.of h,rfl,_,_,rfl,_,_,rfl,rfl,?_⟩
    refine⟨_,rfl,_,rfl,_,rfl,_,_,rfl,rfl,_,_,rfl,rfl,_,rfl,t,_,rfl,.inr (eW.of ht),_,_,rfl,rfl,(by show 2<=sizeLine;decide),fun z hz=>?_⟩
    have e1:nl done++[V.int ((n:Int) - ((l:Int) - 1) - 1),V.int (((nl pl).length:Nat) - 1)]=nl (done++[n - l,pl.length - 1]):=by
     rw [iw]
     have q1:((n:Int) - ((l:Int) - 1) - 1)=((n - l:Nat):Int):=by omega
     have q2:((((nl pl).length:Nat):Int) - 1)=((pl.length - 1:Nat):Int):=by rw [fZ];omega
     rw [q1,q2]
     rfl
    have sz:=eh (o:= .lst [V.int ((n:Int) - ((l:Int) - 1) - 1),V.int (((nl pl).length:Nat) - 1)]) hz
    refine⟨U,z,_,_,rfl,rfl,sz _ _ hN,d7,(by rw [fZ];show _ + 2<=sizeLine;omega),fun I ar=>?_⟩
    have sM:d3 H' (upd (upd H' z (.lst [V.int ((n:Int) - ((l:Int) - 1) - 1),V.int (((nl pl).length:Nat) - 1)])) I (.lst (nl (done++[n - l,pl.length - 1])))):=d3.upd sz ar
    have hM:(upd (upd H' z (.lst [V.int ((n:Int) - ((l:Int) - 1) - 1),V.int (((nl pl).length:Nat) - 1)])) I (.lst (nl (done++[n - l,pl.length - 1])))) I=some (.lst (nl (done++[n - l,pl.length - 1]))):=d7
    have au:H' I=none:=sz.free ar
    have eU:upd (upd H' z (.lst [V.int ((n:Int) - ((l:Int) - 1) - 1),V.int (((nl pl).length:Nat) - 1)])) I (.lst (nl done++[V.int ((n:Int) - ((l:Int) - 1) - 1),V.int (((nl pl).length:Nat) - 1)]))=upd (upd H' z (.lst [V.int ((n:Int) - ((l:Int) - 1) - 1),V.int (((nl pl).length:Nat) - 1)])) I (.lst (nl (done++[n - l,pl.length - 1]))):=by rw [e1]
    show jT 1 (.ref I) _ (upd (upd H' z (.lst [V.int ((n:Int) - ((l:Int) - 1) - 1),V.int (((nl pl).length:Nat) - 1)])) I (.lst (nl done++[V.int ((n:Int) - ((l:Int) - 1) - 1),V.int (((nl pl).length:Nat) - 1)]))) _
    rw [eU]
    generalize upd (upd H' z (.lst [V.int ((n:Int) - ((l:Int) - 1) - 1),V.int (((nl pl).length:Nat) - 1)])) I (.lst (nl (done++[n - l,pl.length - 1])))=H2 at sM hM ⊢
    have aA:=ht
    replace ht:=sM _ _ ht
    refine⟨_,rfl,_,rfl,t,_,rfl,.inr (eW.of ht),_,rfl,by rw [fZ];omega,by rw [fZ];omega,?_⟩
    rw [Int.toNat_natCast,fZ]
    refine jM (fun j σ H3=>∃(g:Nat) (gd:List Nat) (o5:Option V),σ=[some (.ref a),some (.ref I),some (.int (n:Int)),some (.int (n:Int)),some (.ref t),o5,o6]/\d3 H' H3/\H3 I=some (.lst (nl (done++[n - l,pl.length - 1]++gd)))/\gd.length=j/\Gp pl gd g (pl.drop j)/\(j=0->g=0)/\(∀ b,0 < j->pl[j - 1]? =some b->g=b + 1)) ?_ ?_ ?_
    ·exact⟨0,[],_,rfl,sM,(by rw [List.append_nil];exact hM),rfl,⟨rfl,ao⟩,fun _=>rfl,fun b h0=>absurd h0 (Nat.lt_irrefl 0)⟩
    ·rintro j σ H3 hj ⟨g,gd,q5,rfl,aa,ab,av,hG,aB,aC⟩
     rw [Int.zero_add]
     obtain⟨c,hc⟩:∃ c,pl[j]? =some c:=⟨pl[j],List.getElem?_eq_getElem hj⟩
     rw [jX hc] at hG
     obtain⟨hle,aD⟩:=hG.step
     refine⟨_,rfl,.inl ⟨rfl,_,d4.of ab⟩,t,pl,j,c,g,rfl,rfl,aa _ _ aA,hc,aB,aC,hle,I,_,_,rfl,rfl,ab,(by rw [fZ,List.length_append,List.length_append];show done.length + 2 + gd.length < sizeLine;omega),?_⟩
     refine⟨c + 1,gd++[c - g],_,rfl,fun b u e=>?_,?_,by rw [List.length_append,av];rfl,aD,(fun z=>absurd z (Nat.succ_ne_zero _)),fun b _ hb=>?_⟩
     ·rw [eC (fv e au)]
      exact aa _ _ e
     ·rw [d7,<-List.append_assoc,iw _ [c - g]]
      rfl
     ·rw [Nat.add_sub_cancel,hc] at hb
      rw [Option.some.inj hb]
    ·rintro σ H3 ⟨g,gd,q5,rfl,aa,ab,av,hG,_,_⟩
     rw [List.drop_length] at hG
     have e:gw 0 pl=gd:=by rw [hG.1];exact List.append_nil _
     have en:((n + 1:Nat):Int) - 1=(n:Int):=by omega
     refine⟨I,n + 1,_,_,_,_,_,(by rw [en]),sm.trans aa,sm.free au,ab,?_,hok.tail⟩
     rw [ae,<-e,List.append_assoc,List.append_assoc,List.append_assoc]
  ·rintro σ H' ⟨U,l,done,o3,o4,o5,o6,rfl,sm,ay,hN,J,hok⟩
   rw [aw,List.drop_length] at J
   have e:rn 0 row=done:=by rw [J];exact List.append_nil _
   subst e
   refine⟨(by show 0<=sizeLine;decide),fun p hp=>?_⟩
   have sp:=eh (o:= .lst []) hp
   have aE:=sp _ _ hN
   refine⟨_,rfl,U,rfl,⟨_,d4.of aE⟩,?_⟩
   have aF:=hs.p
   have aG:U≠p:=fv hN hp
   refine iS (xs:=nl (rn 0 row)) (fun i σ H2=>∃(o3 o4 o5:Option V) (ol:V),σ=[some (.ref a),some (.ref U),some ol,o3,o4,o5,some (.ref p)]/\H2=upd H' p (.lst (nl (pk ((rn 0 row).take i))))) ?_ ?_ ?_ ?_
   ·exact⟨_,_,_,_,rfl,rfl⟩
   ·rintro i σ H2 _ ⟨_,_,_,_,_,rfl⟩
    refine d4.of ?_
    rw [eC aG]
    exact hN
   ·rintro i x σ H2 aH ⟨q3,q4,q5,ol,rfl,rfl⟩
    obtain⟨n,hn,rfl⟩:=kx aH
    have aI:pk ((rn 0 row).take (i + 1))=pk ((rn 0 row).take i)++gZ n:=by rw [List.take_add_one,hn,qC];exact congrArg _ (yV n)
    have hle:(pk ((rn 0 row).take (i + 1))).length<=3000:=by
     have e:pk (rn 0 row)=pk ((rn 0 row).take (i + 1))++pk ((rn 0 row).drop (i + 1)):=by rw [<-qC,List.take_append_drop]
     rw [e,List.length_append] at aF
     omega
    refine uK (fun σ H3=>∃(r:Nat) (ys:List Nat),σ=[some (.ref a),some (.ref U),some ol,some (.int r),q4,q5,some (.ref p)]/\H3=upd H' p (.lst (nl ys))/\pk ((rn 0 row).take (i + 1))=ys++gZ r) (fun σ _=>match σ with | [_,_,_,some (.int r),_,_,_]=>r.toNat | _=>0) ⟨n,_,rfl,rfl,aI⟩ ?_ ?_
    ·rintro σ H3 ⟨r,ys,rfl,rfl,he⟩
     have aO:ys.length<=3000:=by rw [he,List.length_append] at hle;omega
     refine⟨_,rfl,_,_,rfl,rfl,_,rfl,?_⟩
     by_cases hr:(127:Int) < r
     ·rw [decide_eq_true hr]
      refine eN ?_
      have ag:¬ r < 128:=by omega
      refine⟨_,rfl,.inl ⟨rfl,_,d4.of d7⟩,?_⟩
      refine⟨_,rfl,_,_,rfl,rfl,(by show(0:Int) < 128;decide),_,_,rfl,rfl,p,_,_,rfl,rfl,d7,(by rw [fZ];omega),?_⟩
      refine⟨_,rfl,_,_,rfl,rfl,⟨by decide,by decide⟩,?_⟩
      refine⟨⟨r / 128,ys++[128 + r % 128],?_,?_,?_⟩,?_⟩
      ·simp only [List.set]
       have:((r:Int) / 128)=((r / 128:Nat):Int):=by omega
       rw [this]
      ·rw [ke,iw]
       show upd H' p (.lst (nl ys++[V.int ((r:Int) % 128 + 128)]))=_
       have:((r:Int) % 128 + 128)=((128 + r % 128:Nat):Int):=by omega
       rw [this]
       rfl
      ·rw [he,me ag]
       simp
      ·show((r:Int) / 128).toNat < (r:Int).toNat
       omega
     ·rw [decide_eq_false hr]
      refine eD ?_
      have ag:r < 128:=by omega
      refine⟨_,rfl,.inl ⟨rfl,_,d4.of d7⟩,_,rfl,p,_,_,rfl,rfl,d7,(by rw [fZ];omega),_,_,_,_,rfl,?_⟩
      rw [ke,he,kM ag,iw]
      rfl
    ·intro σ H3 Q1 Q2 hq h
     obtain⟨x,h1,i,j,e1,e2,h2⟩:=h
     exact⟨x,h1,i,j,e1,e2,let ⟨b,e,z⟩:=h2;⟨b,e,hq _ _ z⟩⟩
   ·rintro σ H2 ⟨q3,q4,q5,ol,rfl,rfl⟩
    refine⟨_,rfl,kk p _ (sm.trans (eh hp)) (sm.free hp) ?_⟩
    rw [d7,fZ,List.take_length]
theorem CU:(["_law_k","_law_word","_law_words_here"]:List Str).Nodup:=dk
theorem DA(a:List Nat)(n:Nat):nl (a++[n])=nl a++[V.int (n:Int)]:=by rw [iw];rfl
theorem Bd(w:Str){t:List (List Str)}(h:rowOf w t 0≠[]):∃ r x,rowOf w t 0=r++[x]/\x.1 < t.length:=by
 refine⟨(rowOf w t 0).dropLast,(rowOf w t 0).getLast h,(List.dropLast_concat_getLast h).symm,?_⟩
 obtain⟨j,ws,h1,_,I⟩:=qG w t 0 _ (List.getLast_mem h)
 rw [I]
 have:=(List.getElem?_eq_some_iff.mp h1).1
 show 0 + j < t.length
 omega
theorem PT.imp {X:Cx}{e:Expr}{t t':TT}(h:PT X e t)(i:∀ σ H Q,t' σ H Q->t σ H Q):PT X e t':=fun pins s σ H Q I q=>h pins s σ H Q I (i σ H Q q)
def mm(row:List Pr)(i:Nat):Bool:=match row.getLast? with
 | none=>true
 | some x=> !decide (x.1=i)
def Gh:TT:=fun σ H Q=>∃(p:Addr) (row:List Pr) (i:Nat),σ[6]? =some (some (.ref p))/\σ[2]? =some (some (.int (i:Int)))/\fj H p row/\∀ H',d3 H H'->Q (mm row i) H'
theorem Fo{H:Hp}{ys:List V}{row:List Pr}{x:Pr}(h:Paired (gB H) ys (row++[x])):∃ y0 yl,ys=y0++[yl]/\gB H yl x:=by
 have U:=Gn.Paired.len h
 rw [List.length_append] at U
 have l1:[x].length=1:=rfl
 obtain⟨v,J,aa⟩:=Gn.Paired.at h (i:=row.length) (b:=x) (by simp)
 have hlen:row.length=ys.length - 1:=by omega
 have I:ys≠[]:=fun z=>by rw [z] at J;cases J
 refine⟨ys.dropLast,v,?_,aa⟩
 rw [hlen] at J
 have:=List.getLast?_eq_getElem? (l:=ys)
 rw [J,List.getLast?_eq_some_getLast I] at this
 rw [<-Option.some.inj this]
 exact(List.dropLast_concat_getLast I).symm
def yC:Sp:=fun vs H Q _=>∃(a:Addr) (xs:List V) (ps:List (Str×Str)),vs=[.ref a]/\H a=some (.lst xs)/\fX H xs (ps.map kp)/\(∀ p∈ps,gL (.str p.2)=true)/\gJ (d0 ps)/\
 ∀ d es H',d3 H H'->H d=none->DL H H' d es (FR (d0 ps))->(∀ x,x∈es.map (·.1)↔∃ ws∈d0 ps,x∈ws)->Q (.ref d) H'
theorem lr:eX ["_law_pairs_here","_law_rows_here","_law_number_here","_law_pair","_law_words_here","_law_word","_law_row"] ["_law_pairs_here"] (er mf):=⟨rfl,rfl,rfl,dk,rfl,dk,dk⟩
seal eK PS PE PT PA PG PI eV eQ in
theorem Ga{f fw:Addr}{fd fdw:FuncData}(D:Df K mg "_law_rows" mf f fd)(DW:Df K mg "_law_words" m5 fw fdw)(GW:d8 P w K mg base eu 2 fw fdw ["_law_text_here"] tG)(T:Txt mg):d8 P w K mg base eu 3 f fd ["_law_pairs_here"] yC:=by
 have bW:=fN (p:="_law_text_here") DW.F fun _ _ _ _ _ _ _=>rfl
 refine D.F.ok lr (fun vs H Q E h=>?_) (fun cdv A outer s H vs Q E hr h=>?_)
 ·obtain⟨a,xs,ps,rfl,_⟩:=h
  rfl
 ·obtain⟨a,xs,ps,rfl,hA,hP,hT,aB,k⟩:=h
  have hl:(sizeLine:Nat)=16777216:=sizeLine_eq
  have a5:=Gn.Paired.len hP
  have bw:=aB.l
  have bx:=aB.t
  refine⟨_,(d6 (eE (i:=1) lr.nd rfl (Or.inl rfl) kZ)
   (d6 (fU PassesOwn.never rfl (kd rfl T.enum (dY (pv 0) dZ)) (iz (n:=2) rfl (gh (eO (i:=2) lr.nd rfl (Or.inl rfl)) (gh (eO (i:=3) lr.nd rfl (Or.inl rfl)) iC))) (d6 (eE (i:=4) lr.nd rfl (Or.inr rfl) (ik (own:=1) (caps:=[]) (N:=["_law_one"]) (N0:=["_law_pairs_here","_law_rows_here","_law_number_here","_law_pair","_law_words_here","_law_word","_law_row"]) (sc0:=er mf) rfl (gu (eI (GW.mono (by decide)) hr rfl DW.m DW.F.kp bW .nil eM (dY (fb iu (pv 3) d5 (fun _ _=>rfl)) dZ))) (fun _ _ _=>eO (i:=0) qm rfl (Or.inl rfl)) (fun _ _ _=>iG) (fun _ _ _=>fb (p6 (K:=K) rfl) (pv 0) d5 (fun _ _=>rfl)) (gD (by decide)) rfl rfl
    dk rfl dk dk rfl dk))
   (d9 (fU PassesOwn.never rfl (gu (pv 4)) (eO (i:=5) lr.nd rfl (Or.inr rfl)) (d6 (eE (i:=6) lr.nd rfl (Or.inl rfl) (PE.imp (t':=pZ 1 5) (gj F.plainAttrs_dict F.slot_dict_setdefault F.type_dict_setdefault qV (pv 1) (dY (pv 5) (dY (fJ dZ) dZ))) fun _ _ _=>getL))
   (d9 (fE (PT.imp (t':=Gh) (PW.pt (gU (eY (lV hr.units100) (pv 6) (fJ dZ) (eZ _)) (ip (eY jv (fb iu (fb fS (pv 6) (yM ye d5) (fun _ _=>rfl)) d5 (fun _ _=>rfl)) (pv 2) (eZ _))))) (fun σ H Q h=>by
     obtain⟨p,row,i,e6,e2,hR,kq⟩:=h
     obtain⟨ys,af,aw⟩:=id hR
     refine⟨_,e6,Nat.zero_le _,fun q0 a6=>?_⟩
     have s6:d3 H (upd H q0 (.lst [])):=eh a6
     have z6:upd H q0 (.lst []) q0=some (.lst []):=d7
     generalize upd H q0 (.lst [])=H6 at s6 z6 ⊢
     refine⟨mL row,.list [],pY (hR.same s6),.lst (d4.of z6) .nil,nz _,rfl,Nat.le_trans (Nat.min_le_right _ _) (by decide),_,rfl,?_⟩
     have ah:=kq _ s6
     rcases List.eq_nil_or_concat row with rfl | ⟨r,x,e⟩
     ·exact eN ah
     ·rw [List.concat_eq_append] at e
      subst e
      have a7:PyData.eqv (mL (r++[x])) (.list [])=false:=by cases r<;>rfl
      rw [a7]
      obtain⟨y0,yl,rfl,aF⟩:=Fo aw
      have ax:=aF.same s6
      have eB:mm (r++[x]) i= !decide (x.1=i):=by unfold mm;rw [List.getLast?_concat]
      rw [eB] at ah
      cases ax with
      | mk hq bz=>
       refine eD ⟨_,e6,_,rfl,p,_,_,_,rfl,rfl,d4.of (s6 _ _ af),Ib _ _,_,_,_,_,rfl,rfl,eW.of hq,fC (j:=0) rfl,_,e2,rfl,_,rfl,?_⟩
       rename_i p2 t2 n pl
       by_cases en:n=i
       ·rw [iy (by omega)]
        rw [decide_eq_true (show(n,pl).1=i from en)] at ah
        exact ah
       ·rw [jg (by omega)]
        rw [decide_eq_false (show ¬ (n,pl).1=i from en)] at ah
        exact ah)) (d9 (gq (gj F.plainAttrs_list F.slot_list_append F.type_list_append gT (pv 6) (dY (g8 (dY (pv 2) (dY (jA tN rfl T.tuple nJ (dY (ik (own:=1) (caps:=[5,4]) (N:=["_law_k","_law_word","_law_words_here"]) (N0:=["_law_pairs_here","_law_rows_here","_law_number_here","_law_pair","_law_words_here","_law_word","_law_row"]) (sc0:=er mf) rfl (iW rfl T.range (dY (fG gQ rfl T.len gf (dY (pv 4) dZ)) dZ)) (fun _ _ _=>eO (i:=0) CU rfl (Or.inl rfl)) (fun _ _ _=>lX (eY ig (fb (yh (K:=K) rfl) (pv 2) (pv 0) (fun _ _=>rfl)) (pv 1) (eZ _))) (fun _ _ _=>pv 0) (gD (by decide)) rfl rfl
    dk rfl dk dk rfl dk) dZ)) dZ))) dZ)))) fB)))))))
   (d9 (eG (pv 1))))),?_⟩
  intro d hd
  refine⟨_,rfl,a,xs,rfl,eh hd _ _ hA,?_⟩
  refine kN (xs:=xs) (fun i σ H'=>∃(es:En) (o2 o3 o4 o5 o6:Option V),σ=[some (.ref a),some (.ref d),o2,o3,o4,o5,o6]/\d3 H H'/\DL H H' d es (FR ((d0 ps).take i))/\es.length<=fO ((d0 ps).take i)/\(∀ x,x∈es.map (·.1)↔∃ ws∈(d0 ps).take i,x∈ws)) ?_ ?_ ?_ ?_
  ·exact⟨[],none,none,none,none,none,rfl,eh hd,⟨d7,List.nodup_nil,List.nodup_nil,(fun e he=>nomatch he),(fun e he=>nomatch he)⟩,Nat.le_refl _,fun x=>by simp⟩
  ·rintro i σ H' _ ⟨_,_,_,_,_,_,_,sm,_⟩
   exact sm _ _ hA
  ·rintro i x σ H' t hx ⟨es,o2,o3,o4,o5,o6,rfl,sm,J,ag,I⟩ ht
   obtain⟨kt,aP,pp,rfl,a8⟩:=gK hP hx
   rw [List.getElem?_map] at aP
   obtain⟨pr,aw,e⟩:=Option.map_eq_some_iff.mp aP
   subst e
   have a9:Drawn pr.2:=m4 (hT pr (List.mem_of_getElem? aw))
   have ay:(d0 ps)[i]? =some (tw pr.2):=by unfold d0;rw [List.getElem?_map,aw];rfl
   have st:d3 H' (upd H' t (.tup [.int i,.ref pp])):=eh ht
   refine⟨t,_,rfl,eW.of d7,rfl,_,_,rfl,_,_,rfl,rfl,?_⟩
   generalize upd H' t (.tup [.int i,.ref pp])=H1 at st ⊢
   have aQ:=sm.trans st
   have bA:(tw pr.2).length<=330:=by have:=oq (List.mem_of_getElem? ay);omega
   refine⟨_,rfl,pp,_,_,_,rfl,rfl,eW.of (aQ _ _ a8),fC (j:=1) rfl,pr.2,rfl,a9,fun wa H2 s2 bB hW=>?_⟩
   have aR:=aQ.trans s2
   obtain⟨us,eU,pU⟩:=hW.ex
   have ul:=Gn.Paired.len pU
   have bC:(tw pr.2).length=(words (codes pr.2)).length:=List.length_map _
   refine⟨wa,rfl,⟨_,d4.of eU⟩,?_⟩
   refine iL (xs:=us.map V.ref) (fun j ys H3=>H2=H3/\ys=sl ((tw pr.2).take j)) (by rw [List.length_map];omega) (fun j ys H3 q=>by rw [<-q.1];exact d4.of eU) ⟨rfl,rfl⟩ ?_ ?_
   ·rintro j v ys H3 N hv ⟨rfl,rfl⟩ hN
    rw [List.getElem?_map] at hv
    obtain⟨u,hu,rfl⟩:=Option.map_eq_some_iff.mp hv
    obtain⟨y,hy,ba⟩:=gK pU hu
    have bb:(tw pr.2)[j]? =some ⟨y.1.toArray⟩:=by unfold tw;rw [List.getElem?_map,hy];rfl
    refine g1 ⟨_,rfl,u,_,_,_,rfl,rfl,eW.of ba,fC (j:=0) rfl,?_⟩
    exact hN _ _ ⟨rfl,by rw [take_snoc bb];unfold sl;rw [List.map_append];rfl⟩
   ·rintro ys H3 ⟨rfl,rfl⟩ _ pw aG
    have ll:(us.map V.ref).length=(tw pr.2).length:=by rw [List.length_map];omega
    rw [ll,List.take_of_length_le (Nat.le_refl _)]
    have s3:d3 H2 (upd H2 pw (.lst (sl (tw pr.2)))):=eh aG
    have aH:upd H2 pw (.lst (sl (tw pr.2))) pw=some (.lst (sl (tw pr.2))):=d7
    generalize upd H2 pw (.lst (sl (tw pr.2)))=H3 at s3 aH ⊢
    have bc:=aR.trans s3
    have aS:=(st.trans s2).trans s3
    generalize bD:tw pr.2=ws at *
    refine⟨_,rfl,pw,rfl,⟨_,d4.of aH⟩,?_⟩
    have e1:(d0 ps).take (i + 1)=(d0 ps).take i++[ws]:=take_snoc ay
    have e2:((d0 ps).take i).length=i:=lh ay
    have aa:∀ u,u∈ws->rowOf u ((d0 ps).take (i + 1)) 0=rowOf u ((d0 ps).take i) 0++[(i,fz u ws 0)]:=fun u aI=>by
     rw [e1,oB,if_pos aI,e2,Nat.zero_add]
    have aj:∀ u,u∉ws->rowOf u ((d0 ps).take (i + 1)) 0=rowOf u ((d0 ps).take i) 0:=fun u aI=>by
     rw [e1,oB,if_neg aI,List.append_nil]
    have bu:H pw=none:=aR.free aG
    have aT:∀ e∈es,e.2≠pw:=fun e he z=>by
     obtain⟨ys,h1,_⟩:=J.f e he
     have:=(st.trans s2) _ _ h1
     rw [z,aG] at this
     cases this
    refine iS (xs:=sl ws) (fun j σ H4=>∃(es:En) (o5 o6:Option V),σ=[some (.ref a),some (.ref d),some (.int (i:Int)),some (.ref pp),some (.ref pw),o5,o6]/\d3 H H4/\H4 pw=some (.lst (sl ws))/\(∀ e∈es,e.2≠pw)/\
     DL H H4 d es (FM ((d0 ps).take i) ((d0 ps).take (i + 1)) (ws.take j))/\es.length<=fO ((d0 ps).take i) + j/\(∀ x,x∈es.map (·.1)↔(∃ ab∈(d0 ps).take i,x∈ab)\/x∈ws.take j)) ?_ ?_ ?_ ?_
    ·refine⟨es,_,_,rfl,bc,aH,aT,⟨aS _ _ J.d,J.k,J.a,J.n,fun e he=>?_⟩,ag,fun x=>by rw [I];simp⟩
     show fj _ e.2 (mid _ _ _ e.1)
     rw [kG (by simp)]
     have hR:fj H' e.2 (rowOf e.1 ((d0 ps).take i) 0):=J.f e he
     exact hR.same aS
    ·rintro j σ H4 _ ⟨_,_,_,_,_,h,_⟩
     exact d4.of h
    ·rintro j v σ H4 hv ⟨es,o5,o6,rfl,az,ae,aJ,J,ag,I⟩
     obtain⟨x,aK,rfl⟩:=j9 hv
     have aL:x∈ws:=List.mem_of_getElem? aK
     have ak:ws.take (j + 1)=ws.take j++[x]:=take_snoc aK
     have bE:=(List.getElem?_eq_some_iff.mp aK).1
     have bF:=uI (d0 ps) i
     have bf:∀ e'∈es,∃ l,H4 e'.2=some (.lst l):=fun e' aU=>let ⟨ys,h1,_⟩:=J.f e' aU;⟨ys,h1⟩
     refine⟨H,d,es,x,FM ((d0 ps).take i) ((d0 ps).take (i + 1)) (ws.take j),rfl,rfl,J,by omega,fun z hz=>az.free hz,bf,?_,?_,?_⟩
     ·intro G b y l sb hb hf
      exact fj.but hf sb (fun q=>by rw [q,J.d] at hb;cases hb) fun ts q=>by rw [J.d] at q;cases q
     ·intro G z hn hz
      refine⟨[],hz,?_⟩
      rw [kG (fun q=>hn ((I x).mpr (.inr q))),(kT x _ 0).mpr fun ab bg q=>hn ((I x).mpr (.inl ⟨ab,bg,q⟩))]
      exact .nil
     ·rintro p ai H5 sb U hp aM ⟨l,bG⟩
      have bh:pw≠d:=fun q=>by rw [q,J.d] at ae;cases ae
      have ao:=sb _ _ ae bh
      have aV:d3 H H5:=fun b u q=>sb _ _ (az _ _ q) (fv q hd)
      have aq:∀ e2∈ai,e2.2≠pw:=fun e2 he2=>by
       rcases aM with rfl | ⟨_,rfl,bj⟩
       ·exact aJ e2 he2
       ·rcases List.mem_append.mp he2 with he2 | he2
        ·exact aJ e2 he2
        ·rw [List.mem_singleton.mp he2]
         exact(fv ae bj).symm
      have aC:ai.length<=fO ((d0 ps).take i) + (j + 1):=by
       rcases aM with rfl | ⟨_,rfl,_⟩
       ·omega
       ·rw [List.length_append]
        show es.length + 1<=_
        omega
      have aD:∀ y,y∈ai.map (·.1)↔(∃ ab∈(d0 ps).take i,y∈ab)\/y∈ws.take (j + 1):=fun y=>by
       have hm:y∈ai.map (·.1)↔y∈es.map (·.1)\/y=x:=by
        rcases aM with rfl | ⟨_,rfl,_⟩
        ·exact⟨.inl,fun q=>q.elim id fun z=>by rw [z];exact List.mem_map.mpr ⟨_,hp,rfl⟩⟩
        ·rw [List.map_append,List.mem_append]
         show(_\/y∈[x])↔_
         rw [List.mem_singleton]
       rw [hm,I,ak,List.mem_append,List.mem_singleton,or_assoc]
      have aW:fj H5 p (mid ((d0 ps).take i) ((d0 ps).take (i + 1)) (ws.take j) x):=U.f _ hp
      obtain⟨ys,af,ar⟩:=id aW
      refine⟨p,_,i,rfl,rfl,aW,fun H6 s6=>?_⟩
      by_cases aX:x∈ws.take j
      ·
       have em:mid ((d0 ps).take i) ((d0 ps).take (i + 1)) (ws.take j) x=rowOf x ((d0 ps).take i) 0++[(i,fz x ws 0)]:=by
        show(if x∈ws.take j then _ else _)=_
        rw [if_pos aX,aa x aL]
       have eB:mm (mid ((d0 ps).take i) ((d0 ps).take (i + 1)) (ws.take j) x) i=false:=by
        rw [em]
        unfold mm
        rw [List.getLast?_concat]
        simp
       rw [eB]
       refine eD ⟨ai,_,_,rfl,aV.trans s6,s6 _ _ ao,aq,⟨s6 _ _ U.d,U.k,U.a,U.n,fun e he=>?_⟩,aC,aD⟩
       show fj _ e.2 (mid _ _ _ e.1)
       have hR:fj H5 e.2 (mid ((d0 ps).take i) ((d0 ps).take (i + 1)) (ws.take j) e.1):=U.f e he
       by_cases hex:e.1=x
       ·rw [hex] at hR ⊢
        rw [ak,uu,aa x aL,<-em]
        exact hR.same s6
       ·rw [ak,uc hex]
        exact hR.same s6
      ·have em:mid ((d0 ps).take i) ((d0 ps).take (i + 1)) (ws.take j) x=rowOf x ((d0 ps).take i) 0:=kG aX
       have eB:mm (mid ((d0 ps).take i) ((d0 ps).take (i + 1)) (ws.take j) x) i=true:=by
        rw [em]
        unfold mm
        by_cases h0:rowOf x ((d0 ps).take i) 0=[]
        ·rw [h0];rfl
        ·obtain⟨r,y,e,bo⟩:=Bd x h0
         rw [e,List.getLast?_concat]
         rw [e2] at bo
         show(!decide (y.1=i))=true
         rw [decide_eq_false (by omega)]
         rfl
       rw [eB]
       rw [em] at ar
       have bH:ys.length<=300:=by
        have h1:=Gn.Paired.len ar
        have h2:=(lO x ((d0 ps).take i) 0).1
        have h3:=(List.getElem?_eq_some_iff.mp ay).1
        rw [h1]
        omega
       have aE:=s6 _ _ ao
       have au:(sl ws).length=ws.length:=List.length_map _
       refine eN ⟨_,rfl,.inl ⟨rfl,_,d4.of (s6 _ _ af)⟩,_,rfl,_,rfl,pw,_,rfl,.inl (d4.of aE),_,rfl,by rw [au];omega,by rw [au];omega,?_⟩
       rw [Int.toNat_natCast,au]
       refine rG (fun m zs H7=>H6=H7/\zs=nl (fz x (ws.take m) 0)) (by omega) ⟨rfl,rfl⟩ ?_ ?_
       ·rintro m zs H7 N hm ⟨rfl,rfl⟩ hN
        rw [Int.zero_add]
        obtain⟨y,hy⟩:∃ y,ws[m]? =some y:=⟨ws[m],List.getElem?_eq_getElem hm⟩
        have bp:(ws.take m).length=m:=lh hy
        have ep:fz x (ws.take (m + 1)) 0=fz x (ws.take m) 0++(if y=x then [m] else []):=by
         rw [take_snoc hy,qw,bp,Nat.zero_add]
        refine⟨_,rfl,_,rfl,pw,_,_,.str y,rfl,rfl,d4.of aE,fC (by rw [List.getElem?_map,hy];rfl),_,rfl,rfl,_,rfl,?_⟩
        by_cases aA:y=x
        ·rw [decide_eq_true (show V.str y=V.str x by rw [aA])]
         rw [if_pos aA] at ep
         exact eN ⟨_,rfl,hN _ _ ⟨rfl,by rw [ep,DA]⟩⟩
        ·rw [decide_eq_false (show ¬ V.str y=V.str x from fun z=>aA (by injection z))]
         rw [if_neg aA,List.append_nil] at ep
         exact eD (hN _ _ ⟨rfl,by rw [ep]⟩)
       ·rintro zs H7 ⟨rfl,rfl⟩ _ pl aY
        rw [List.take_length]
        have s7:d3 H6 (upd H6 pl (.lst (nl (fz x ws 0)))):=eh aY
        have e7:upd H6 pl (.lst (nl (fz x ws 0))) pl=some (.lst (nl (fz x ws 0))):=d7
        generalize upd H6 pl (.lst (nl (fz x ws 0)))=H7 at s7 e7 ⊢
        refine⟨pl,_,rfl,.inl ⟨d4.of e7,fun pt bq=>⟨(by show 2<=sizeLine;decide),fun pq aZ=>?_⟩⟩⟩
        have s8:d3 H7 (upd H7 pt (.tup (nl (fz x ws 0)))):=eh bq
        have h8:(upd H7 pt (.tup (nl (fz x ws 0)))) pt=some (.tup (nl (fz x ws 0))):=d7
        generalize upd H7 pt (.tup (nl (fz x ws 0)))=H8 at s8 h8 aZ ⊢
        have s9:d3 H8 (upd H8 pq (.tup [.int (i:Int),.ref pt])):=eh aZ
        have h9:(upd H8 pq (.tup [.int (i:Int),.ref pt])) pq=some (.tup [.int (i:Int),.ref pt]):=d7
        generalize upd H8 pq (.tup [.int (i:Int),.ref pt])=H9 at s9 h9 ⊢
        have aN:=((s6.trans s7).trans s8).trans s9
        have br:gB H9 (.ref pq) (i,fz x ws 0):= .mk h9 (s9 _ _ h8)
        have a0:Paired (gB H9) ys (rowOf x ((d0 ps).take i) 0):=Gn.Paired.imp2 ar fun _ _ q=>q.same aN
        have a3:=aN _ _ af
        refine⟨p,ys,_,rfl,rfl,a3,by omega,?_⟩
        have av:SameBut p H5 (upd H9 p (.lst (ys++[.ref pq]))):=fun b u q hb=>by rw [eC hb];exact aN _ _ q
        have a4:=fj.snoc a3 a0 br
        generalize upd H9 p (.lst (ys++[.ref pq]))=Hn at av a4 ⊢
        have bt:d≠p:=fun q=>by rw [<-q,U.d] at af;cases af
        have nt:∀ ts,H5 p≠some (.tup ts):=fun ts q=>by rw [af] at q;cases q
        refine⟨ai,_,_,rfl,fun b u q=>?_,?_,aq,U.put hp (av _ _ U.d bt) (fun e' aU n1 n2 hf=>?_) ?_,aC,aD⟩
        ·exact av _ _ (aV _ _ q) (fv q (U.n _ hp))
        ·exact av _ _ ao (aq _ hp).symm
        ·show fj Hn e'.2 (mid _ _ _ e'.1)
         rw [ak,uc n1]
         exact fj.but hf av n2 nt
        ·show fj Hn p (mid _ _ _ x)
         rw [ak,uu,aa x aL]
         exact a4
    ·rintro σ H4 ⟨es,o5,o6,rfl,az,ae,aJ,J,ag,I⟩
     have eT:ws.take (sl ws).length=ws:=by unfold sl;rw [List.length_map,List.take_length]
     rw [eT] at J I
     refine⟨es,_,_,_,_,_,rfl,az,⟨J.d,J.k,J.a,J.n,fun e he=>?_⟩,?_,fun x=>?_⟩
     ·have hR:fj H4 e.2 (mid ((d0 ps).take i) ((d0 ps).take (i + 1)) ws e.1):=J.f e he
      show fj H4 e.2 (rowOf e.1 ((d0 ps).take (i + 1)) 0)
      by_cases aO:e.1∈ws
      ·rw [show mid ((d0 ps).take i) ((d0 ps).take (i + 1)) ws e.1=rowOf e.1 ((d0 ps).take (i + 1)) 0 from if_pos aO] at hR
       exact hR
      ·rw [kG aO] at hR
       rw [aj e.1 aO]
       exact hR
     ·rw [e1,xF]
      unfold sl at ag
      rw [List.length_map] at ag
      exact ag
     ·rw [I,e1]
      constructor
      ·rintro(⟨ab,h1,h2⟩ | h)
       ·exact⟨ab,List.mem_append_left _ h1,h2⟩
       ·exact⟨ws,List.mem_append_right _ (List.mem_singleton.mpr rfl),h⟩
      ·rintro⟨ab,h1,h2⟩
       rcases List.mem_append.mp h1 with q | q
       ·exact .inl ⟨ab,q,h2⟩
       ·rw [List.mem_singleton.mp q] at h2
        exact .inr h2
  ·rintro σ H' ⟨es,o2,o3,o4,o5,o6,rfl,sm,J,ag,I⟩
   have eT:(d0 ps).take xs.length=d0 ps:=by
    have:xs.length=(d0 ps).length:=by rw [a5,List.length_map];unfold d0;rw [List.length_map]
    rw [this,List.take_length]
   rw [eT] at J I
   exact⟨_,rfl,k d es H' sm hd J I⟩
theorem AK:(["_law_k"]:List Str).Nodup:=dk
theorem Fs{X:Cx}{K:W.Frag}(h:X.K=K):gz X (compareOp .In) (vh K false):=by subst h;exact CH
def qS:Str:=Txt.mul (Str.ofString "q ") 200++Str.ofString "z q"
def jw(k:Nat):Str×Str:=(Str.ofString "far"++Str.ofString (toString (k:Int)),if k=0\/k=139 then Str.ofString "z p" else Str.ofString "p")
def fM(c:Int):List (Str×Str):=if c=1 then [(Str.ofString "long",qS)] else if c=2 then (List.range 140).map jw else []
theorem BW:∀ k:Nat,k < 140->qK (.int (k:Int)) [.int 0,.int 139]=decide (k=0\/k=139):=dk
theorem AD:∀ k:Nat,k < 140->(Str.ofString (toString (k:Int))).length<=3:=dk
theorem Gu:MulOk (Str.ofString "q ") 200:=⟨dk,fun _ _=>dk,fun _ _=>dk⟩
theorem DI:(Txt.mul (Str.ofString "q ") 200).length=400:=dk
theorem CG{H:Hp}{p:Addr}{q:Str×Str}(hp:H p=some (.tup [.str q.1,.str q.2])):fX H [.ref p] ([q].map kp):= .cons ⟨p,rfl,hp⟩ .nil
def vF:Sp:=fun vs H Q _=>∃ c:Int,vs=[.int c]/\∀ l xs H',d3 H H'->H l=none->H' l=some (.lst xs)->fX H' xs ((fM c).map kp)->Q (.ref l) H'
theorem Cd:eX ["_law_kind"] ["_law_kind"] (er m3):=⟨rfl,rfl,rfl,dk,rfl,dk,dk⟩
seal eK PS PE PT PA PG PI eV eQ in
theorem Gz{f:Addr}{fd:FuncData}(D:Df K mg "_law_far_pairs" m3 f fd)(T:Txt mg):d8 P w K mg base eu 1 f fd ["_law_kind"] vF:=by
 refine D.F.ok Cd (fun vs H Q E h=>?_) (fun cdv A outer s H vs Q E hr h=>?_)
 ·obtain⟨c,rfl,_⟩:=h
  rfl
 ·obtain⟨c,rfl,kk⟩:=h
  have hl:(sizeLine:Nat)=16777216:=sizeLine_eq
  refine⟨_,(d6 (fE (eY ig (pv 0) d5 (eZ _)) (d9 (eG (fJ (dY (g8 (dY fF (dY (ek jl (ek zT fF d5) fF) dZ))) dZ)))) fB)
   (d6 (fE (eY ig (pv 0) d5 (eZ _)) (d9 (eG (ik (own:=1) (caps:=[]) (N:=["_law_k"]) (N0:=["_law_kind"]) (sc0:=er m3) rfl (iW rfl T.range (dY d5 dZ)) (fun _ _ _=>eO (i:=0) AK rfl (Or.inl rfl)) (fun _ _ _=>iG) (fun _ _ _=>g8 (dY (ek jl fF (jA B8 rfl T.str uT (dY (pv 0) dZ))) (dY (fb (yh (K:=K) rfl) (fJ (dY fF (dY fF dZ))) (jA Co rfl T.int yX (dY (pP (Fs (K:=K) rfl) (pv 0) (g8 (dY d5 (dY d5 dZ))) rfl) dZ)) (fun _ _=>rfl)) dZ))) (gD (by decide)) rfl rfl
    dk rfl dk dk rfl dk))) fB)
   (d9 (eG (fJ dZ))))),?_⟩
  refine⟨_,rfl,rfl,_,rfl,?_⟩
  by_cases h1:c=1
  ·rw [iy h1]
   refine eN ⟨_,_,rfl,rfl,Gu,_,_,rfl,rfl,(by rw [DI];show 400 + 3<=sizeLine;omega),(by show 2<=sizeLine;omega),fun t ht=>⟨(by show 1<=sizeLine;omega),fun l I=>?_⟩⟩
   have s1:=eh (o:= .tup [.str (Str.ofString "long"),.str qS]) ht
   have s2:=eh (H:=upd H t (.tup [.str (Str.ofString "long"),.str qS])) (o:= .lst [.ref t]) I
   refine kk l [.ref t] _ (s1.trans s2) (s1.free I) d7 ?_
   have U:fM c=[(Str.ofString "long",qS)]:=by unfold fM;rw [if_pos h1]
   rw [U]
   exact CG (q:=(Str.ofString "long",qS)) (s2 _ _ d7)
  ·rw [jg h1]
   refine eD ⟨_,rfl,rfl,_,rfl,?_⟩
   by_cases h2:c=2
   ·rw [iy h2]
    have U:fM c=(List.range 140).map jw:=by unfold fM;rw [if_neg h1,if_pos h2]
    refine eN ⟨140,rfl,by decide,by decide,rG (fun i ys H'=>d3 H H'/\fX H' ys (((List.range i).map jw).map kp)) (by rw [hl];decide) ⟨fun _ _ h=>h,.nil⟩ ?_ ?_⟩
    ·rintro i ys H' N hi ⟨sm,hP⟩ hN
     have aa:i < 140:=hi
     rw [Int.zero_add]
     refine g1 ⟨_,rfl,_,rfl,(by show(i:Int).natAbs.log2 < 1920;exact Nat.lt_of_le_of_lt (Nat.log2_le_self _) (by omega)),_,_,rfl,rfl,(by have:=AD i aa;show 3 + _<=sizeLine;omega),(by show 2<=sizeLine;omega),fun J ae=>⟨_,rfl,(by show 2<=sizeLine;omega),fun t1 ab=>?_⟩⟩
     have s1:=eh (o:= .lst [.str (Str.ofString "p"),.str (Str.ofString "z p")]) ae
     have e1:upd H' J (.lst [.str (Str.ofString "p"),.str (Str.ofString "z p")]) J=some (.lst [.str (Str.ofString "p"),.str (Str.ofString "z p")]):=d7
     generalize upd H' J (.lst [.str (Str.ofString "p"),.str (Str.ofString "z p")])=H1 at s1 e1 ab ⊢
     have s2:=eh (o:= .tup [.int 0,.int 139]) ab
     have e2:upd H1 t1 (.tup [.int 0,.int 139]) t1=some (.tup [.int 0,.int 139]):=d7
     generalize upd H1 t1 (.tup [.int 0,.int 139])=H2 at s2 e2 ⊢
     refine⟨t1,_,rfl,.inr (eW.of e2),rfl,rfl,.inr ⟨_,rfl,?_⟩⟩
     show rk K (.ref J) (.int (if qK (.int (i:Int)) [.int 0,.int 139]=true then 1 else 0)) H2 _
     rw [BW i aa]
     have fin:∀ z:Str,z=(jw i).2->∀ t,H2 t=none->N (ys++[.ref t]) (upd H2 t (.tup [.str (jw i).1,.str z])):=fun z ez t ht=>by
      subst ez
      refine hN _ _ ⟨((sm.trans s1).trans s2).trans (eh ht),?_⟩
      rw [List.range_succ,List.map_append,List.map_append]
      exact Gn.Paired.cat (hP.same ((s1.trans s2).trans (eh ht))) (.cons ⟨t,rfl,d7⟩ .nil)
     by_cases hk:i=0\/i=139
     ·rw [decide_eq_true hk,if_pos rfl]
      exact⟨J,_,_,.str (Str.ofString "z p"),rfl,rfl,d4.of (s2 _ _ e1),fC (j:=1) rfl,(by show 2<=sizeLine;omega),fun t ht=>fin _ (by unfold jw;rw [if_pos hk]) t ht⟩
     ·rw [decide_eq_false hk,if_neg (by decide)]
      exact⟨J,_,_,.str (Str.ofString "p"),rfl,rfl,d4.of (s2 _ _ e1),fC (j:=0) rfl,(by show 2<=sizeLine;omega),fun t ht=>fin _ (by unfold jw;rw [if_neg hk]) t ht⟩
    ·rintro ys H' ⟨sm,hP⟩ _ p hp
     refine kk p ys _ (sm.trans (eh hp)) (sm.free hp) d7 ?_
     rw [U]
     exact hP.same (eh hp)
   ·rw [jg h2]
    have U:fM c=[]:=by unfold fM;rw [if_neg h1,if_neg h2]
    refine eD ⟨Nat.zero_le _,fun l I=>kk l [] _ (eh I) I d7 ?_⟩
    rw [U]
    exact .nil
end
theorem BP:jh ((List.range 140).map jw):=⟨dk,dk⟩
theorem zE:∀ p∈(List.range 140).map jw,(tw p.2).length<=2/\∀ x∈tw p.2,x=Str.ofString "p"\/x=Str.ofString "z":=dk
theorem wx:gL (.str qS)=true/\fV 12 (.str (Str.ofString "long"))=true:=dk
theorem zc:(tw qS).length<=202/\∀ x∈tw qS,x=Str.ofString "q"\/x=Str.ofString "z":=dk
structure ka (ps : List (Str × Str)) : Prop where
 g : jh ps
 f : gJ (d0 ps)
 w : js (d0 ps)
 l : ps.length <= 150
def gv(p:Nat×Nat):Option (V×V):=some (.int (p.1:Int),.int (p.2:Int))
theorem yc{G:List (Nat×Nat)}{i j:Nat}:some (V.int (i:Int),V.int (j:Int))∈G.map gv↔(i,j)∈G:=by
 constructor
 ·intro h
  obtain⟨p,I,e⟩:=List.mem_map.mp h
  have e:=Option.some.inj e
  have J:=V.int.inj (congrArg Prod.fst e)
  have U:=V.int.inj (congrArg Prod.snd e)
  have:p=(i,j):=Prod.ext (by omega) (by omega)
  rw [<-this]
  exact I
 ·intro h
  exact List.mem_map.mpr ⟨(i,j),h,rfl⟩
section
variable {α : Type}
def kf(G:List (Nat×Nat))(i:Nat):Nat->List α->List α
 | _,[]=>[]
 | s,p::r=>if (i,s)∈G then kf G i (s + 1) r else p::kf G i (s + 1) r
def kg(G:List (Nat×Nat)):Nat->List (List α)->List α
 | _,[]=>[]
 | i,ps::r=>kf G i 0 ps++kg G (i + 1) r
theorem rf(G:List (Nat×Nat))(i:Nat):∀(ps:List α) (s:Nat),(kf G i s ps).Sublist ps
 | [],_=> .slnil
 | p::r,s=>by
  show(if (i,s)∈G then kf G i (s + 1) r else p::kf G i (s + 1) r).Sublist _
  split
  ·exact(rf G i r (s + 1)).cons p
  ·exact(rf G i r (s + 1)).cons_cons p
theorem xV{G1 G2:List (Nat×Nat)}(h:∀ p,p∈G2->p∈G1)(i:Nat):∀(ps:List α) (s:Nat),(kf G1 i s ps).Sublist (kf G2 i s ps)
 | [],_=> .slnil
 | p::r,s=>by
  have I:=xV h i r (s + 1)
  show(if (i,s)∈G1 then kf G1 i (s + 1) r else p::kf G1 i (s + 1) r).Sublist (if (i,s)∈G2 then kf G2 i (s + 1) r else p::kf G2 i (s + 1) r)
  by_cases h2:(i,s)∈G2
  ·rw [if_pos h2,if_pos (h _ h2)]
   exact I
  ·rw [if_neg h2]
   split
   ·exact I.cons p
   ·exact I.cons_cons p
theorem yi{G G':List (Nat×Nat)}{i i':Nat}:∀(ps:List α) (s:Nat),(∀ j,s<=j->j < s + ps.length->((i,j)∈G↔(i',j)∈G'))->kf G i s ps=kf G' i' s ps
 | [],_,_=>rfl
 | p::r,s,h=>by
  have I:=yi (G:=G) (G':=G') (i:=i) (i':=i') r (s + 1) fun j h1 h2=>h j (by omega) (by rw [List.length_cons];omega)
  have h0:=h s (Nat.le_refl _) (by rw [List.length_cons];omega)
  show(if (i,s)∈G then kf G i (s + 1) r else p::kf G i (s + 1) r)=(if (i',s)∈G' then kf G' i' (s + 1) r else p::kf G' i' (s + 1) r)
  rw [I]
  by_cases q:(i,s)∈G
  ·rw [if_pos q,if_pos (h0.mp q)]
  ·rw [if_neg q,if_neg fun z=>q (h0.mpr z)]
theorem rm{G:List (Nat×Nat)}{i:Nat}(h:∀ j,(i,j)∉G):∀(ps:List α) (s:Nat),kf G i s ps=ps
 | [],_=>rfl
 | p::r,s=>by
  show(if (i,s)∈G then kf G i (s + 1) r else p::kf G i (s + 1) r)=_
  rw [if_neg (h s),rm h r (s + 1)]
theorem vv{G:List (Nat×Nat)}{i:Nat}:∀(ps:List α) (s:Nat),(∀ j,s<=j->(i,j)∉G)->kf G i s ps=ps
 | [],_,_=>rfl
 | p::r,s,h=>by
  show(if (i,s)∈G then kf G i (s + 1) r else p::kf G i (s + 1) r)=_
  rw [if_neg (h s (Nat.le_refl _)),vv r (s + 1) fun j I=>h j (by omega)]
theorem t9(i:Nat):∀(ps:List α) (s j:Nat),kf [(i,s + j)] i s ps=ps.eraseIdx j
 | [],_,_=>rfl
 | p::r,s,0=>by
  show(if (i,s)∈[(i,s + 0)] then _ else _)=r
  rw [if_pos (by simp)]
  exact vv r (s + 1) fun j I z=>by
   have:=List.mem_singleton.mp z
   injection this
   omega
 | p::r,s,j + 1=>by
  show(if (i,s)∈[(i,s + (j + 1))] then _ else p::_)=p::r.eraseIdx j
  rw [if_neg fun z=>by
   have:=List.mem_singleton.mp z
   injection this
   omega]
  have:=t9 i r (s + 1) j
  rw [show s + (j + 1)=s + 1 + j by omega,this]
theorem qO(G:List (Nat×Nat)):∀(a b:List (List α)) (s:Nat),kg G s (a++b)=kg G s a++kg G (s + a.length) b
 | [],b,s=>rfl
 | x::a,b,s=>by
  show kf G s 0 x++kg G (s + 1) (a++b)=(kf G s 0 x++kg G (s + 1) a)++_
  rw [qO G a b (s + 1),List.append_assoc,show s + 1 + a.length=s + (x::a).length by rw [List.length_cons];omega]
theorem xv{G1 G2:List (Nat×Nat)}(h:∀ p,p∈G2->p∈G1):∀(gs:List (List α)) (s:Nat),(kg G1 s gs).Sublist (kg G2 s gs)
 | [],_=> .slnil
 | x::a,s=>(xV h s x 0).append (xv h a (s + 1))
theorem rX{G G':List (Nat×Nat)}:∀(gs:List (List α)) (s s':Nat),(∀ k,k < gs.length->∀ j,((s + k,j)∈G↔(s' + k,j)∈G'))->kg G s gs=kg G' s' gs
 | [],_,_,_=>rfl
 | x::a,s,s',h=>by
  show kf G s 0 x++kg G (s + 1) a=kf G' s' 0 x++kg G' (s' + 1) a
  rw [yi (i:=s) (i':=s') (G:=G) (G':=G') x 0 fun j _ _=>h 0 (by rw [List.length_cons];omega) j,rX a (s + 1) (s' + 1) fun k hk j=>by
   have:=h (k + 1) (by rw [List.length_cons];omega) j
   rwa [show s + (k + 1)=s + 1 + k by omega,show s' + (k + 1)=s' + 1 + k by omega] at this]
theorem tJ{G:List (Nat×Nat)}:∀(gs:List (List α)) (s:Nat),(∀ i j,s<=i->(i,j)∉G)->kg G s gs=gs.flatten
 | [],_,_=>rfl
 | x::a,s,h=>by
  show kf G s 0 x++kg G (s + 1) a=x++a.flatten
  rw [rm (fun j=>h s j (Nat.le_refl _)) x 0,tJ a (s + 1) fun i j hi=>h i j (by omega)]
theorem ui{G:List (Nat×Nat)}{gs:List (List α)}(hl:gs.length<=3):
  kg (G.filter fun p=>decide (p.1 < 2)) 0 (gs.take 2)=kg G 0 (gs.take 2)/\
  kg ((G.filter fun p=>decide (p.1=2)).map fun p=>(1,p.2)) 0 (kg (G.filter fun p=>decide (p.1 < 2)) 0 (gs.take 2)::gs.drop 2)=kg G 0 gs:=by
 have I:kg (G.filter fun p=>decide (p.1 < 2)) 0 (gs.take 2)=kg G 0 (gs.take 2):=rX _ 0 0 fun k hk j=>by
  rw [List.length_take] at hk
  rw [List.mem_filter]
  constructor
  ·exact fun h=>h.1
  ·exact fun h=>⟨h,decide_eq_true (by show 0 + k < 2;omega)⟩
 refine⟨I,?_⟩
 rw [I]
 show kf _ 0 0 _++kg _ 1 (gs.drop 2)=_
 have m1:∀ i j,(i,j)∈((G.filter fun p=>decide (p.1=2)).map fun p=>(1,p.2))↔i=1/\(2,j)∈G:=fun i j=>by
  constructor
  ·intro h
   obtain⟨p,hp,e⟩:=List.mem_map.mp h
   obtain⟨h1,h2⟩:=List.mem_filter.mp hp
   have h2:=of_decide_eq_true h2
   injection e with I J
   refine⟨I.symm,?_⟩
   rw [<-J,<-h2]
   exact h1
  ·rintro⟨rfl,h⟩
   exact List.mem_map.mpr ⟨(2,j),List.mem_filter.mpr ⟨h,decide_eq_true rfl⟩,rfl⟩
 rw [rm (fun j=>fun z=>by have:=((m1 0 j).mp z).1;omega) _ 0]
 have J:kg ((G.filter fun p=>decide (p.1=2)).map fun p=>(1,p.2)) 1 (gs.drop 2)=kg G 2 (gs.drop 2):=rX _ 1 2 fun k hk j=>by
  rw [List.length_drop] at hk
  have U:k=0:=by omega
  subst U
  rw [m1]
  exact⟨fun h=>h.2,fun h=>⟨rfl,h⟩⟩
 rw [J]
 by_cases h2:2<=gs.length
 ·have:=qO G (gs.take 2) (gs.drop 2) 0
  rw [List.take_append_drop,List.length_take,Nat.min_eq_left h2] at this
  exact this.symm
 ·rw [List.drop_eq_nil_of_le (by omega),List.take_of_length_le (by omega)]
  exact List.append_nil _
end
theorem wH(G:List (Nat×Nat))(i:Nat){β:Type}:∀(ps:List β) (s:Nat),fL ((List.range' s ps.length).map fun(j:Nat)=> !decide (some (V.int (i:Int),V.int (j:Int))∈G.map gv)) ps=kf G i s ps
 | [],_=>rfl
 | p::r,s=>by
  rw [List.length_cons,List.range'_succ,List.map_cons]
  have I:=wH G i r (s + 1)
  show _=(if (i,s)∈G then kf G i (s + 1) r else p::kf G i (s + 1) r)
  by_cases h:(i,s)∈G
  ·rw [if_pos h,decide_eq_true (yc.mpr h)]
   exact I
  ·rw [if_neg h,decide_eq_false fun z=>h (yc.mp z)]
   show p::fL _ r=_
   rw [I]
theorem z9(G:List (Nat×Nat))(i:Nat)(ps:List (Str×Str)):fL (gI (G.map gv) i ps.length) ps=kf G i 0 ps:=by
 unfold gI
 rw [List.range_eq_range']
 exact wH G i ps 0
theorem lY(G:List (Nat×Nat)):∀(gs:List (List (Str×Str))) (s:Nat),kept (G.map gv) s gs=kg G s gs
 | [],_=>rfl
 | x::a,s=>by
  show fL _ x++kept _ (s + 1) a=kf G s 0 x++kg G (s + 1) a
  rw [z9,lY G a (s + 1)]
theorem xn{α:Type}(G:List (Nat×Nat))(i:Nat)(p:α):∀(a:List α) (s:Nat),kf G i s (a++[p])=kf G i s a++(if (i,s + a.length)∈G then [] else [p])
 | [],s=>by
  show(if (i,s)∈G then [] else [p])=_
  rfl
 | x::a,s=>by
  have I:=xn G i p a (s + 1)
  show(if (i,s)∈G then kf G i (s + 1) (a++[p]) else x::kf G i (s + 1) (a++[p]))=(if (i,s)∈G then kf G i (s + 1) a else x::kf G i (s + 1) a)++_
  rw [I,show s + 1 + a.length=s + (x::a).length by rw [List.length_cons];omega]
  split<;>rfl
theorem Gj{α:Type}{G:List (Nat×Nat)}{i j:Nat}{ps:List α}{p:α}(h:ps[j]? =some p):kf G i 0 (ps.take (j + 1))=kf G i 0 (ps.take j)++(if (i,j)∈G then [] else [p]):=by
 rw [take_snoc h,xn,Nat.zero_add,lh h]
theorem Ho{α:Type}{G:List (Nat×Nat)}{i:Nat}{gs:List (List α)}{ps:List α}(h:gs[i]? =some ps):kg G 0 (gs.take (i + 1))=kg G 0 (gs.take i)++kf G i 0 ps:=by
 rw [take_snoc h,qO,Nat.zero_add,lh h]
 show _++(_++[])=_
 rw [List.append_nil]
structure g5 (gs : List (List (Str × Str))) (G : List (Nat × Nat)) : Prop where
 n : gs.length <= 3
 good : ∀ ps ∈ gs, jh ps
 few : gJ (d0 gs.flatten)
 fewW : js (d0 gs.flatten)
 l : gs.flatten.length <= 150
 ok : ∀ p ∈ G, p.1 < gs.length /\ p.2 < (gs.getD p.1 []).length
 nd : ((kg G 0 gs).map (·.1)).Nodup
 gl : G.length <= 100
theorem E5{gs:List (List (Str×Str))}{G:List (Nat×Nat)}(h:∀ p∈G,p.1 < gs.length/\p.2 < (gs.getD p.1 []).length):(G.map gv).all (jP (gs.map List.length))=true:=by
 rw [List.all_eq_true]
 intro o I
 obtain⟨p,J,rfl⟩:=List.mem_map.mp I
 obtain⟨h1,h2⟩:=h p J
 show(g4 (.int (p.1:Int)) 0 (some (((gs.map List.length).length:Int) - 1)) && g4 (.int (p.2:Int)) 0 (some ((((gs.map List.length).getD (p.1:Int).toNat 0:Nat):Int) - 1)))=true
 have e:(gs.map List.length).getD (p.1:Int).toNat 0=(gs.getD p.1 []).length:=by
  rw [Int.toNat_natCast,List.getD_eq_getElem?_getD,List.getElem?_map,List.getD_eq_getElem?_getD,List.getElem?_eq_getElem h1]
  rfl
 have g1:g4 (.int (p.1:Int)) 0 (some (((gs.map List.length).length:Int) - 1))=true:=by
  show(decide ((0:Int)<=p.1) && decide ((p.1:Int)<=((gs.map List.length).length:Int) - 1))=true
  rw [List.length_map,decide_eq_true (by omega),decide_eq_true (by omega)]
  rfl
 have g2:g4 (.int (p.2:Int)) 0 (some ((((gs.map List.length).getD (p.1:Int).toNat 0:Nat):Int) - 1))=true:=by
  rw [e]
  show(decide ((0:Int)<=p.2) && decide ((p.2:Int)<=(((gs.getD p.1 []).length:Nat):Int) - 1))=true
  rw [decide_eq_true (by omega),decide_eq_true (by omega)]
  rfl
 rw [g1,g2]
 rfl
theorem oa{α:Type}(G:List (Nat×Nat)):∀(gs:List (List α)) (s:Nat),(kg G s gs).Sublist gs.flatten
 | [],_=> .slnil
 | x::a,s=>(rf G s x 0).append (oa G a (s + 1))
theorem xq{gs:List (List (Str×Str))}{a:List (Str×Str)}(hg:∀ ps∈gs,jh ps)(hf:gJ (d0 gs.flatten))(hw:js (d0 gs.flatten))(hl:gs.flatten.length<=150)(s:a.Sublist gs.flatten)(hn:(a.map (·.1)).Nodup):ka a:=by
 refine⟨⟨fun p I=>?_,hn⟩,hf.sub s,hw.sub s,Nat.le_trans s.length_le hl⟩
 obtain⟨ps,h1,h2⟩:=List.mem_flatten.mp (s.mem I)
 exact(hg ps h1).g p h2
section
variable {gs : List (List (Str × Str))} {G : List (Nat × Nat)}
theorem g5.left (h:g5 gs G):ka (kg G 0 gs):=xq h.good h.few h.fewW h.l (oa G gs 0) h.nd
theorem g5.grp (h:g5 gs G){ps:List (Str×Str)}(hp:ps∈gs):ka ps:=xq h.good h.few h.fewW h.l (oG hp) (h.good ps hp).n
theorem g5.two (h:g5 gs G):g5 (gs.take 2) (G.filter fun p=>decide (p.1 < 2)):=by
 have I:(gs.take 2).flatten.Sublist gs.flatten:=qF gs 2
 have hn:=h.n
 refine⟨by rw [List.length_take];omega,fun ps J=>h.good ps (List.mem_of_mem_take J),h.few.sub I,h.fewW.sub I,Nat.le_trans I.length_le h.l,fun p J=>?_,?_,Nat.le_trans (List.length_filter_le _ _) h.gl⟩
 ·obtain⟨h1,h2⟩:=List.mem_filter.mp J
  have h2:=of_decide_eq_true h2
  obtain⟨a,b⟩:=h.ok p h1
  have e:(gs.take 2).getD p.1 []=gs.getD p.1 []:=by
   rw [List.getD_eq_getElem?_getD,List.getD_eq_getElem?_getD,List.getElem?_take_of_lt h2]
  rw [e,List.length_take]
  exact⟨by omega,b⟩
 ·rw [(ui h.n).1]
  have:=qO G (gs.take 2) (gs.drop 2) 0
  rw [List.take_append_drop] at this
  have nd:=h.nd
  rw [this,List.map_append] at nd
  exact(List.nodup_append.mp nd).1
theorem g5.both (h:g5 gs G):g5 (kg (G.filter fun p=>decide (p.1 < 2)) 0 (gs.take 2)::gs.drop 2) ((G.filter fun p=>decide (p.1=2)).map fun p=>(1,p.2)):=by
 have hn:=h.n
 have h2:=h.two
 have I:(kg (G.filter fun p=>decide (p.1 < 2)) 0 (gs.take 2)::gs.drop 2).flatten.Sublist gs.flatten:=by
  have:gs.flatten=(gs.take 2).flatten++(gs.drop 2).flatten:=by rw [<-List.flatten_append,List.take_append_drop]
  rw [this]
  exact(oa _ _ 0).append (List.Sublist.refl _)
 refine⟨by rw [List.length_cons,List.length_drop];omega,fun ps J=>?_,h.few.sub I,h.fewW.sub I,Nat.le_trans I.length_le h.l,fun p J=>?_,?_,?_⟩
 ·rcases List.mem_cons.mp J with e | e
  ·rw [e];exact h2.left.g
  ·exact h.good ps (List.mem_of_mem_drop e)
 ·obtain⟨q,hq,rfl⟩:=List.mem_map.mp J
  obtain⟨h1,U⟩:=List.mem_filter.mp hq
  have U:=of_decide_eq_true U
  obtain⟨a,b⟩:=h.ok q h1
  rw [U] at a b
  have e:(kg (G.filter fun p=>decide (p.1 < 2)) 0 (gs.take 2)::gs.drop 2).getD 1 []=gs.getD 2 []:=by
   rw [List.getD_eq_getElem?_getD,List.getD_eq_getElem?_getD,List.getElem?_cons_succ,List.getElem?_drop]
  show 1 < _/\q.2 < List.length _
  rw [e,List.length_cons,List.length_drop]
  exact⟨by omega,b⟩
 ·rw [(ui h.n).2]
  exact h.nd
 ·rw [List.length_map]
  exact Nat.le_trans (List.length_filter_le _ _) h.gl
end
structure rH (P : Program) (w : World) (K : W.Frag) (mg : Str -> Option Value) (base : Heap) (C CWk CN CNo CW : Addr) : Prop where
 cl : iF K mg C
 many : ∃ f fd, fD K "many" "Book.many" jO f fd /\ Meth K C "many" f /\ d8 P w K mg base eu 1 f fd ["self"] (o9 C)
 total : ∃ f fd, fD K "total" "Book.total" lP f fd /\ Meth K C "total" f /\ d8 P w K mg base eu 1 f fd ["self"] (xA C)
 key : ∃ f fd, fD K "key_of" "Book.key_of" kL f fd /\ Meth K C "key_of" f /\ d8 P w K mg base (eP P w) 4 f fd ["self", "number"] (nG K C CN (·.1))
 text : ∃ f fd, fD K "text_of" "Book.text_of" kz f fd /\ Meth K C "text_of" f /\ d8 P w K mg base (eP P w) 4 f fd ["self", "number"] (nG K C CN (·.2))
 size : ∃ f fd, fD K "size_of" "Book.size_of" lW f fd /\ Meth K C "size_of" f /\ d8 P w K mg base (eP P w) 4 f fd ["self", "number"] (y6 K C CN)
 num : ∃ f fd, fD K "number_of" "Book.number_of" lB f fd /\ Meth K C "number_of" f /\ d8 P w K mg base (eP P w) 3 f fd ["self", "key"] (vq K C CNo)
 words : ∃ f fd, fD K "words" "Book.words" kK f fd /\ Meth K C "words" f /\ d8 P w K mg base eu 1 f fd ["self"] (sy C)
 parts : ∃ f fd, fD K "parts_of" "Book.parts_of" j8 f fd /\ Meth K C "parts_of" f /\ d8 P w K mg base (eP P w) 4 f fd ["self", "word"] (qP K C CW)
 row : ∃ f fd, fD K "row_of" "Book.row_of" kJ f fd /\ Meth K C "row_of" f /\ d8 P w K mg base (eP P w) 5 f fd ["self", "word"] (uj K C CW)
 starts : ∃ f fd, fD K "starts" "Book.starts" kD f fd /\ Meth K C "starts" f /\ d8 P w K mg base (eP P w) 4 f fd ["self", "word"] (vT K C CW)
 walk : ∃ f fd, fD K "walk_of" "Book.walk_of" mx f fd /\ Meth K C "walk_of" f /\ d8 P w K mg base (eP P w) 7 f fd ["self", "word"] (xJ K C CWk)
 wt : pS K mg CWk
 rest : ∃ f fd, fD K "rest" "Walk.rest" my f fd /\ Meth K CWk "rest" f /\ d8 P w K mg base eu 1 f fd ["self"] (zh CWk)
def qi:List Str:=["many","total","key_of","text_of","size_of","number_of","words","parts_of","row_of","starts","walk_of"]
theorem Gf:∀ m∈qi,m≠"numbers"/\m≠"pairs"/\m≠"sizes"/\m≠"rows"/\m≠"rising":=dk
theorem gc.at {C:Addr}{H:Hp}{x:Addr}{ps:List (Str×Str)}(h:gc C H x ps):∃ dx fs,H x=some (.ins C dx fs)/\∀ m∈qi,fs.lookup m=none:=by
 obtain⟨dx,dn,pa,sz,dr,ri,xs,es,I,h1,_⟩:=h.ex
 refine⟨dx,_,h1,fun m hm=>?_⟩
 obtain⟨a,b,c,d,e⟩:=Gf m hm
 exact jj e d c b a
theorem mn{m:Str}(h:m∈qi:=by decide +kernel):m∈qi:=h
theorem EK{j n:Nat}(h:j < n):g4 (.int (j:Int)) 0 (some ((n:Int) - 1))=true:=by
 show(decide ((0:Int)<=j) && decide ((j:Int)<=(n:Int) - 1))=true
 rw [decide_eq_true (by omega),decide_eq_true (by omega)]
 rfl
theorem qM{m:Nat}{z:Str}(h:fV m (.str z)=true)(hm:m<=5000):iH (.str z):=by
 intro y e
 injection e with e
 subst e
 have h':(decide (1<=z.length) && decide (z.length<=m) && z.cps.toList.all fq)=true:=h
 rw [Bool.and_eq_true,Bool.and_eq_true,decide_eq_true_eq,decide_eq_true_eq] at h'
 omega
section
variable {P : Program} {w : World} {K : PySem.W.Frag} {mg : Str -> Option Value} {base : Heap} {C CWk CN CNo CW : Addr}
theorem Hb:(["_law_pair"]:List Str).Nodup:=dk
def xk(C:Addr):Sp:=fun vs H Q _=>∃(x a:Addr) (xs:List V) (ps:List (Str×Str)),vs=[.ref x,.ref a]/\gc C H x ps/\ka ps/\H a=some (.lst xs)/\fX H xs (ps.map kp)/\∀ H',d3 H H'->Q (.bl true) H'
theorem q8:eX ["_law_book","_law_pairs_here","_law_pair","_law_sizes","_law_number_here"] ["_law_book","_law_pairs_here"] (er m9):=⟨rfl,rfl,rfl,dk,rfl,dk,dk⟩
seal eK PS PE PT PA PG PI eV eQ in
theorem Cp{f fw:Addr}{fd fdw:FuncData}(D:Df K mg "_law_texts_told" m9 f fd)(M:rH P w K mg base C CWk CN CNo CW)(DW:Df K mg "_law_words" m5 fw fdw)(GW:d8 P w K mg base eu 2 fw fdw ["_law_text_here"] tG)(T:Txt mg):d8 P w K mg base eu 5 f fd ["_law_book","_law_pairs_here"] (xk C):=by
 have bW:=fN (p:="_law_text_here") DW.F fun _ _ _ _ _ _ _=>rfl
 obtain⟨fm,aD,FM,mM,GM⟩:=M.many
 obtain⟨ft,aE,FT,mT,GT⟩:=M.total
 obtain⟨fk,aF,av,mK,GK⟩:=M.key
 obtain⟨fx,aG,FX,mX,GX⟩:=M.text
 obtain⟨aH,aI,FS,mS,GS⟩:=M.size
 obtain⟨fn,aJ,FN,mN,GN⟩:=M.num
 have bM:=FM.binds (ps:=["self"]) fun _ _ _ _ _ _ us hl=>oC (fun _=>rfl) us hl
 have bT:=FT.binds (ps:=["self"]) fun _ _ _ _ _ _ us hl=>oC (fun _=>rfl) us hl
 have bK:=av.binds (ps:=["self","number"]) fun _ _ _ _ _ _ us hl=>gG (fun _ _=>rfl) us hl
 have bX:=FX.binds (ps:=["self","number"]) fun _ _ _ _ _ _ us hl=>gG (fun _ _=>rfl) us hl
 have bS:=FS.binds (ps:=["self","number"]) fun _ _ _ _ _ _ us hl=>gG (fun _ _=>rfl) us hl
 have bN:=FN.binds (ps:=["self","key"]) fun _ _ _ _ _ _ us hl=>gG (fun _ _=>rfl) us hl
 refine D.F.ok q8 (fun vs H Q E h=>?_) (fun cdv A outer s H vs Q E hr h=>?_)
 ·obtain⟨x,a,xs,ps,rfl,_⟩:=h
  rfl
 ·obtain⟨x,a,xs,ps,rfl,hB,hL,hA,hP,kk⟩:=h
  have hz:(sizeLine:Nat)=16777216:=sizeLine_eq
  have aj:=Gn.Paired.len hP
  rw [List.length_map] at aj
  have aw:=hL.l
  refine⟨_,(d6 (oP (i:=3) q8.nd rfl (Or.inl rfl) (own:=1) (caps:=[]) (N:=["_law_pair"]) (N0:=["_law_book","_law_pairs_here","_law_pair","_law_sizes","_law_number_here"]) (sc0:=er m9) rfl (gu (pv 1)) (fun _ _ _=>eO (i:=0) Hb rfl (Or.inl rfl)) (fun _ _ _=>iG) (fun _ _ _=>fG (zH (K:=K) rfl) rfl T.len gf (dY (eI (GW.mono (by decide)) hr rfl DW.m DW.F.kp bW .nil eM (dY (fb (p6 (K:=K) rfl) (pv 0) d5 (fun _ _=>rfl)) dZ)) dZ)) (gD (by decide)) rfl rfl
    dk rfl dk dk rfl dk (fun _ _ _ h=>h))
   (d6 (fE (PW.pt (gU (eY jv (kW (pv 0) M.cl.cl mM (GM.mono (by decide)) hr bM .nil eM) (fG gQ rfl T.len gf (dY (pv 1) dZ)) (eZ _)) (ip (eY jv (kW (pv 0) M.cl.cl mT (GT.mono (by decide)) hr bT .nil eM) (fG (xC rfl) rfl T.sum vV (dY (pv 3) dZ)) (eZ _))))) (d9 (eG gM)) fB)
   (d6 (fU PassesOwn.never rfl (kd rfl T.enum (dY (pv 1) dZ)) (iz (n:=2) rfl (gh (eO (i:=4) q8.nd rfl (Or.inl rfl)) (gh (eO (i:=2) q8.nd rfl (Or.inl rfl)) iC))) (d6 (fE (PW.pt (gU (eY jv (iO (pv 0) M.cl.cl mK (GK.mono (by decide)) hr bK .nil hV (dY (pv 4) dZ)) (fb iu (pv 2) d5 (fun _ _=>rfl)) (eZ _)) (ip (eY jv (iO (pv 0) M.cl.cl mX (GX.mono (by decide)) hr bX .nil hV (dY (pv 4) dZ)) (fb iu (pv 2) d5 (fun _ _=>rfl)) (eZ _))))) (d9 (eG gM)) fB)
   (d9 (fE (PW.pt (gU (eY jv (iO (pv 0) M.cl.cl mS (GS.mono (by decide)) hr bS .nil hV (dY (pv 4) dZ)) (fb fS (pv 3) (pv 4) (fun _ _=>rfl)) (eZ _)) (ip (eY jv (iO (pv 0) M.cl.cl mN (GN.mono (by decide)) hr bN .nil hV (dY (fb iu (pv 2) d5 (fun _ _=>rfl)) dZ)) (pv 4) (eZ _))))) (d9 (eG gM)) fB))))
   (d9 (eG gM))))),?_⟩
  refine⟨_,rfl,a,rfl,⟨_,d4.of hA⟩,?_⟩
  refine iL (xs:=xs) (fun i ys H'=>d3 H H'/\ys=nl (((d0 ps).take i).map List.length)) (by omega) (fun i ys H' q=>d4.of (q.1 _ _ hA)) ⟨fun _ _ h=>h,rfl⟩ ?_ ?_
  ·rintro i v ys H' N hv ⟨sm,rfl⟩ hN
   obtain⟨kt,aa,pp,rfl,ai⟩:=gK hP hv
   rw [List.getElem?_map] at aa
   obtain⟨pr,I,e⟩:=Option.map_eq_some_iff.mp aa
   subst e
   have ax:Drawn pr.2:=m4 (hL.g.g pr (List.mem_of_getElem? I)).2
   have ay:(d0 ps)[i]? =some (tw pr.2):=by unfold d0;rw [List.getElem?_map,I];rfl
   refine g1 ⟨_,rfl,pp,_,_,_,rfl,rfl,eW.of (sm _ _ ai),fC (j:=1) rfl,pr.2,rfl,ax,fun wa H2 s2 aK hW=>?_⟩
   obtain⟨us,eU,pU⟩:=hW.ex
   have ul:(us.map V.ref).length=(tw pr.2).length:=by rw [List.length_map,Gn.Paired.len pU];exact(List.length_map _).symm
   refine⟨wa,_,rfl,.inl (d4.of eU),hN _ _ ⟨sm.trans s2,?_⟩⟩
   rw [ul,take_snoc ay,List.map_append,iw]
   rfl
  ·rintro ys H' ⟨sm,rfl⟩ _ sz hsz
   have eT:(d0 ps).take xs.length=d0 ps:=by
    have:xs.length=(d0 ps).length:=by rw [aj];unfold d0;rw [List.length_map]
    rw [this,List.take_length]
   rw [eT]
   have s1:=sm.trans (eh (o:= .lst (nl ((d0 ps).map List.length))) hsz)
   have eS:upd H' sz (.lst (nl ((d0 ps).map List.length))) sz=some (.lst (nl ((d0 ps).map List.length))):=d7
   generalize upd H' sz (.lst (nl ((d0 ps).map List.length)))=H1 at s1 eS ⊢
   have af:=hB.same s1
   obtain⟨dx,fs,hx,J⟩:=af.at
   have ht:=hL.f.t
   refine⟨_,rfl,x,dx,_,rfl,hx,J _ mn,x,ps,rfl,af,_,rfl,a,_,rfl,.inl (d4.of (s1 _ _ hA)),rfl,_,rfl,?_⟩
   rw [iy (by omega)]
   refine eD ⟨_,rfl,x,dx,_,rfl,hx,J _ mn,x,ps,rfl,af,hL.f,_,rfl,sz,_,rfl,d4.of eS,(by show fO (d0 ps)<=1000000;omega),rfl,_,rfl,?_⟩
   rw [iy (by rfl)]
   refine eD ⟨_,rfl,a,xs,rfl,s1 _ _ hA,?_⟩
   refine kN (xs:=xs) (fun i σ H'=>∃(o2 o4:Option V),σ=[some (.ref x),some (.ref a),o2,some (.ref sz),o4]/\d3 H1 H') ?_ ?_ ?_ ?_
   ·exact⟨_,_,rfl,fun _ _ h=>h⟩
   ·rintro i σ H' _ ⟨_,_,_,ab⟩
    exact ab _ _ (s1 _ _ hA)
   ·rintro i v σ H' t hv ⟨o2,o4,rfl,ab⟩ az
    obtain⟨kt,aa,pp,rfl,ai⟩:=gK hP hv
    rw [List.getElem?_map] at aa
    obtain⟨pr,I,e⟩:=Option.map_eq_some_iff.mp aa
    subst e
    have aA:=(List.getElem?_eq_some_iff.mp I).1
    have st:d3 H' (upd H' t (.tup [.int i,.ref pp])):=eh az
    refine⟨t,_,rfl,eW.of d7,rfl,_,_,rfl,_,_,rfl,rfl,?_⟩
    have U:=ab.trans st
    generalize upd H' t (.tup [.int i,.ref pp])=H2 at st U ⊢
    have ag:=af.same U
    have ah:=U _ _ hx
    have ae:=U _ _ (s1 _ _ ai)
    have gb:g4 (.int (i:Int)) 0 (some ((ps.length:Int) - 1))=false->False:=fun c=>by rw [EK aA] at c;cases c
    refine⟨_,rfl,x,dx,_,rfl,ah,J _ mn,_,rfl,x,ps,_,rfl,ag,⟨_,.int _⟩,(fun j p e hj=>?_),fun c=>(gb c).elim⟩
    have ej:j=i:=by injection e with e;omega
    subst ej
    have ep:p=pr:=by rw [I] at hj;exact(Option.some.inj hj).symm
    subst ep
    refine⟨_,rfl,pp,_,_,_,rfl,rfl,eW.of ae,fC (j:=0) rfl,rfl,_,rfl,?_⟩
    rw [show(!decide (V.str p.1=(kp p).1))=false by show(!decide (V.str p.1=V.str p.1))=false;rw [decide_eq_true rfl];rfl]
    refine eD ⟨_,rfl,x,dx,_,rfl,ah,J _ mn,_,rfl,x,ps,_,rfl,ag,⟨_,.int _⟩,(fun j' p' e' ak=>?_),fun c=>(gb c).elim⟩
    have ej:j'=j:=by injection e' with e';omega
    subst ej
    have ep:p'=p:=by rw [I] at ak;exact(Option.some.inj ak).symm
    subst ep
    refine⟨_,rfl,pp,_,_,_,rfl,rfl,eW.of ae,fC (j:=1) rfl,rfl,_,rfl,?_⟩
    rw [show(!decide (V.str p'.2=(kp p').2))=false by show(!decide (V.str p'.2=V.str p'.2))=false;rw [decide_eq_true rfl];rfl]
    refine eD ⟨_,rfl,x,dx,_,rfl,ah,J _ mn,_,rfl,x,ps,_,rfl,ag,⟨_,.int _⟩,(fun j2 p2 e2 ao=>?_),fun c=>(gb c).elim⟩
    have ej:j2=j':=by injection e2 with e2;omega
    subst ej
    have ep:p2=p':=by rw [I] at ao;exact(Option.some.inj ao).symm
    subst ep
    have aq:((d0 ps).map List.length)[j2]? =some (tw p2.2).length:=by unfold d0;rw [List.map_map,List.getElem?_map,I];rfl
    refine⟨_,rfl,_,rfl,sz,_,_,_,rfl,rfl,d4.of (U _ _ eS),fC (by unfold nl;rw [List.getElem?_map,aq];rfl),rfl,_,rfl,?_⟩
    rw [iy rfl]
    have ar:=(hL.g.g p2 (List.mem_of_getElem? I)).1
    refine eD ⟨_,rfl,x,dx,_,rfl,ah,J _ mn,_,rfl,pp,_,_,_,rfl,rfl,eW.of ae,fC (j:=0) rfl,x,ps,_,rfl,ag,⟨_,.str _⟩,qM ar (by decide),(fun p hp=>(hL.g.g p hp).1),hL.g.n,(fun j3 z H3 ez au s3=>?_),fun c=>(c p2.1 rfl (List.mem_map.mpr ⟨p2,List.mem_of_getElem? I,rfl⟩)).elim⟩
    have aB:z=p2.1:=by injection ez with ez;exact ez.symm
    subst aB
    have aC:j3=j2:=by
     have h1:(ps.map (·.1))[j2]? =some p2.1:=by rw [List.getElem?_map,I];rfl
     exact(List.getElem?_inj (List.getElem?_eq_some_iff.mp au).1 hL.g.n).mp (au.trans h1.symm)
    subst aC
    refine⟨_,rfl,rfl,_,rfl,?_⟩
    rw [iy rfl]
    exact eD ⟨_,_,rfl,U.trans s3⟩
   ·rintro σ H' ⟨o2,o4,rfl,ab⟩
    exact kk H' (s1.trans ab)
theorem tM{H:Hp}:∀(ts:List Str),iT K H (sl ts) (ts.map PyData.str)
 | []=> .nil
 | t::ts=> .cons (.str t) (tM ts)
theorem w4:∀(ns:List Str),(∀ n∈ns,(PyData.str n).canLay0=true)->(PyData.list (ns.map PyData.str)).canLay0=true
 | [],_=>rfl
 | n::ns,h=>by
  show((PyData.str n).canLay0 && (PyData.list (ns.map PyData.str)).canLay0)=true
  rw [h n List.mem_cons_self,w4 ns fun m hm=>h m (List.mem_cons_of_mem _ hm)]
  rfl
theorem xf{z:Str}(h:∀ c∈z.cps.toList,c < 1114112):(PyData.str z).canLay0=true:=by
 show(z.cps.all fun c=>decide (c < 0x110000))=true
 rw [<-Array.all_toList,List.all_eq_true]
 exact fun c I=>decide_eq_true (h c I)
theorem vW{t:Str}(h:t.cps.toList.all fq=true):(PyData.str t).canLay0=true:=xf fun c I=>by
 have:=lC (List.all_eq_true.mp h c I)
 omega
theorem vg:∀ ts:List Str,(PyData.list (ts.map PyData.str)).depth<=2
 | []=>by decide
 | s::ss=>by
  show max 0 (PyData.depthAll (ss.map PyData.str)) + 1<=2
  have I:PyData.depthAll (ss.map PyData.str) + 1<=2:=vg ss
  omega
theorem vQ{H:Hp}{a b:Addr}{ts:List Str}(h1:H a=some (.lst (sl ts)))(h2:H b=some (.lst (sl ts)))(hl:ts.length<=3000)(hc:∀ t∈ts,t.cps.toList.all fq=true):qt K H a b:=by
 refine⟨_,_,h1,by unfold sl;rw [List.length_map];exact hl,fun x I=>?_,.lst (d4.of h1) (tM ts),.lst (d4.of h2) (tM ts),w4 ts (fun n hn=>vW (hc n hn)),Nat.le_trans (vg ts) (by decide)⟩
 obtain⟨t,_,rfl⟩:=List.mem_map.mp I
 exact⟨⟨_,.str _⟩,rfl⟩
theorem AR{H:Hp}{a b:Addr}{ns:List Nat}(h1:H a=some (.lst (nl ns)))(h2:H b=some (.lst (nl ns)))(hl:ns.length<=3000):qt K H a b:=by
 refine⟨_,_,h1,by rw [fZ];exact hl,fun x I=>?_,.lst (d4.of h1) (qA ns),.lst (d4.of h2) (qA ns),w9 ns,Nat.le_trans (vm ns) (by decide)⟩
 obtain⟨t,_,rfl⟩:=List.mem_map.mp I
 exact⟨⟨_,.int _⟩,rfl⟩
theorem CA{H:Hp}{a b:Addr}{row:List Pr}(h1:fj H a row)(h2:fj H b row)(hl:row.length<=3000):qt K H a b:=by
 obtain⟨xs,e,p⟩:=id h1
 refine⟨xs,_,e,by rw [Gn.Paired.len p];exact hl,fun x I=>?_,pY h1,pY h2,nz row,Nat.le_trans (rS row) (by decide)⟩
 obtain⟨j,J⟩:=List.getElem?_of_mem I
 obtain⟨r,_,U⟩:=gK p J
 cases U with
 | mk h _=>exact⟨⟨_,.tup h⟩,rfl⟩
structure nW (H : Hp) (d : Addr) (t : List (List Str)) (es : En) : Prop where
 d : H d = some (.dK (fP es))
 k : (es.map (·.1)).Nodup
 w : ∀ x, x ∈ es.map (·.1) ↔ ∃ ws ∈ t, x ∈ ws
 f : ∀ e ∈ es, fj H e.2 (rowOf e.1 t 0)
theorem nW.same {H H':Hp}{d:Addr}{t:List (List Str)}{es:En}(h:nW H d t es)(s:d3 H H'):nW H' d t es:=⟨s _ _ h.d,h.k,h.w,fun e he=>(h.f e he).same s⟩
def wN:TE:=fun σ H Q=>∃(d:Addr) (es:En) (t:List (List Str)) (z:Str),σ[1]? =some (some (.ref d))/\σ[3]? =some (some (.str z))/\nW H d t es/\∀ r H',d3 H H'->fj H' r (rowOf z t 0)->Q (.ref r) H'
theorem Cv{σ:L2.St}{H:Hp}{Q:VK}(h:wN σ H Q):qp K "dict" zk (ie 1) (jd (ie 3) (jd (oi jU) jU)) σ H Q:=by
 obtain⟨d,es,t,z,e1,e3,J,kk⟩:=h
 refine⟨_,e1,rQ J.d,_,e3,(by show 0<=sizeLine;decide),fun q hq=>?_⟩
 have s2:d3 H (upd H q (.lst [])):=eh hq
 have I:upd H q (.lst []) q=some (.lst []):=d7
 generalize upd H q (.lst [])=H2 at s2 I ⊢
 refine⟨d,.str z,.ref q,_,rfl,rfl,ic.k (k:=Sum.inr z) (s2 _ _ J.d),?_⟩
 by_cases U:z∈es.map (·.1)
 ·obtain⟨a,q1,q2⟩:=rE U
  rw [q1]
  exact kk a H2 s2 ((J.f _ q2).same s2)
 ·rw [oF U]
  refine kk q H2 s2 ?_
  rw [(kT z t 0).mpr fun ws hw c=>U ((J.w z).mpr ⟨ws,hw,c⟩)]
  exact⟨[],I,.nil⟩
theorem A2{ps:List (Str×Str)}(hg:jh ps){pr:Str×Str}(hp:pr∈ps){y:Str}(hy:y∈tw pr.2):y.length<=3000:=by
 obtain⟨x,I,e⟩:=List.mem_map.mp hy
 subst e
 have h1:=rT (codes pr.2) x I
 have ht:(decide (pr.2.length<=2000) && pr.2.cps.toList.all gy)=true:=(hg.g pr hp).2
 rw [Bool.and_eq_true,decide_eq_true_eq] at ht
 have l:(codes pr.2).length=pr.2.length:=by simp [codes,Str.length]
 obtain⟨_,_,J,U⟩:=h1
 rw [iK]
 omega
theorem Bw{z y:Str}(hy:y∈tw z):y.cps.toList.all fq=true:=by
 obtain⟨x,I,e⟩:=List.mem_map.mp hy
 subst e
 obtain⟨_,h2,_,_⟩:=rT (codes z) x I
 simpa using h2
def jx(z:Str):Prop:=fV 2000 (.str z)=true
theorem oy{z:Str}(h1:1<=z.length)(h2:z.length<=2000)(h3:z.cps.toList.all fq=true):jx z:=by
 show(decide (1<=z.length) && decide (z.length<=2000) && z.cps.toList.all fq)=true
 rw [decide_eq_true h1,decide_eq_true h2,h3]
 rfl
theorem yk{z:Str}(h:Wm z):jx z:=oy h.2.2 (by have:=h.1;omega) h.2.1
theorem zo{z:Str}(h:Wm z):jx (z++Str.ofString "0"):=by
 have I:(Str.ofString "0").length=1:=dk
 refine oy ?_ ?_ (mE h.2.1 dk)
 ·rw [PySem.Str.length_append];omega
 ·rw [PySem.Str.length_append];have:=h.1;omega
theorem HY{z:Str}(h:Wm z)(h1:1 < z.length):jx (Txt.slice z (some 1) none):=by
 have l:z.cps.toList.length=z.length:=by simp [Str.length]
 have I:Txt.slice z (some 1) none=_:=PySem.StrLaws.sliceText_from ⟨by decide,by omega⟩
 have le:=Txt.slice_le z (some 1) none
 refine oy ?_ (by have:=h.1;omega) (jo _ _ h.2.1)
 rw [I,iK,List.length_take,List.length_drop]
 omega
theorem Bp{z:Str}(h:Wm z):jx (Txt.slice z none (some 1)):=by
 have l:z.cps.toList.length=z.length:=by simp [Str.length]
 have I:Txt.slice z none (some 1)=_:=PySem.StrLaws.sliceText_to ⟨by decide,by have:=h.2.2;omega⟩
 have le:=Txt.slice_le z none (some 1)
 refine oy ?_ (by have:=h.1;omega) (jo _ _ h.2.1)
 rw [I,iK,List.length_take,List.length_drop]
 have:=h.2.2
 omega
theorem BD{ps:List (Str×Str)}(hL:ka ps)(z:Str):(rowOf z (d0 ps) 0).length<=300/\∀ x∈rowOf z (d0 ps) 0,x.2.length<=2000:=by
 have h1:=(lO z (d0 ps) 0).1
 have h2:=hL.f.l
 refine⟨by omega,fun x I=>?_⟩
 obtain⟨j,ws,J,_,e⟩:=qG z (d0 ps) 0 x I
 rw [e]
 have U:=pf z ws 0
 have h4:=oq (List.mem_of_getElem? J)
 have h5:=hL.f.t
 show(fz z ws 0).length<=2000
 omega
theorem xm:(["_law_word"]:List Str).Nodup:=dk
theorem DB:(["_law_one","_law_word"]:List Str).Nodup:=dk
def wz(C:Addr):Sp:=fun vs H Q _=>∃(x d m:Addr) (ps:List (Str×Str)) (es:En) (ws:List Str),vs=[.ref x,.ref d,.ref m]/\gc C H x ps/\ka ps/\nW H d (d0 ps) es/\H m=some (.lst (sl ws))/\0 < ws.length/\ws.length<=10/\(∀ z∈ws,Wm z)/\∀ H',d3 H H'->Q (.bl true) H'
theorem p7:eX ["_law_book","_law_rows_here","_law_menu_here","_law_word","_law_row","_law_pieces"] ["_law_book","_law_rows_here","_law_menu_here"] (er lp):=⟨rfl,rfl,rfl,dk,rfl,dk,dk⟩
seal eK PS PE PT PA PG PI eV eQ in
theorem Dm{f fl fpt:Addr}{fd fdl fdpt:FuncData}(D:Df K mg "_law_words_told" lp f fd)(M:rH P w K mg base C CWk CN CNo CW)(DL:Df K mg "_law_list_is" m7 fl fdl)(GL:d8 P w K mg base eu 1 fl fdl ["_law_found","_law_due"] (zI K))(DPt:Df K mg "_law_parts" p8 fpt fdpt)(GPt:d8 P w K mg base eu 1 fpt fdpt ["_law_row"] (yN K))(T:Txt mg):d8 P w K mg base eu 8 f fd ["_law_book","_law_rows_here","_law_menu_here"] (wz C):=by
 have bL:=DL.F.binds (ps:=["_law_found","_law_due"]) fun _ _ _ _ _ _ us hl=>gG (fun _ _=>rfl) us hl
 have a3:=fN (p:="_law_row") DPt.F fun _ _ _ _ _ _ _=>rfl
 obtain⟨fw,bW,FW,mW,a4⟩:=M.words
 obtain⟨fp,bX,a5,mP,GP⟩:=M.parts
 obtain⟨fr,bY,a6,mR,GR⟩:=M.row
 obtain⟨bZ,b0,FS,a7,a8⟩:=M.starts
 obtain⟨fk,b4,a9,ba,bb⟩:=M.walk
 obtain⟨fe,b5,FE,bc,bf⟩:=M.rest
 have bg:=FW.binds (ps:=["self"]) fun _ _ _ _ _ _ us hl=>oC (fun _=>rfl) us hl
 have bh:=FE.binds (ps:=["self"]) fun _ _ _ _ _ _ us hl=>oC (fun _=>rfl) us hl
 have bP:=a5.binds (ps:=["self","word"]) fun _ _ _ _ _ _ us hl=>gG (fun _ _=>rfl) us hl
 have bR:=a6.binds (ps:=["self","word"]) fun _ _ _ _ _ _ us hl=>gG (fun _ _=>rfl) us hl
 have bj:=FS.binds (ps:=["self","word"]) fun _ _ _ _ _ _ us hl=>gG (fun _ _=>rfl) us hl
 have bo:=a9.binds (ps:=["self","word"]) fun _ _ _ _ _ _ us hl=>gG (fun _ _=>rfl) us hl
 refine D.F.ok p7 (fun vs H Q E h=>?_) (fun cdv A outer s H vs Q E hr h=>?_)
 ·obtain⟨x,d,m,ps,es,ws,rfl,_⟩:=h
  rfl
 ·obtain⟨x,d,m,ps,es,ws,rfl,hB,hL,hD,hM,bp,bV,ai,kk⟩:=h
  have hz:(sizeLine:Nat)=16777216:=sizeLine_eq
  have hu:=jZ hr
  refine⟨_,(d6 (fE (gH (gC (eI (GL.mono (by decide)) hr rfl DL.m DL.F.kp bL .nil eM (dY (kW (pv 0) M.cl.cl mW (a4.mono (by decide)) hr bg .nil eM) (dY (fG (sj rfl) rfl T.sorted sf (dY (pv 1) dZ)) dZ))))) (d9 (eG gM)) fB)
   (d6 (fU PassesOwn.never rfl (gu (ek jK (pv 2) (fJ (dY fF (dY (ek jl (fb fS (pv 2) d5 (fun _ _=>rfl)) fF) dZ))))) (eO (i:=3) p7.nd rfl (Or.inr rfl)) (d6 (eE (i:=4) p7.nd rfl (Or.inl rfl) (PE.imp (t':=wN) (gj F.plainAttrs_dict F.slot_dict_get F.type_dict_get (vf hu) (pv 1) (dY (pv 3) (dY (fJ dZ) dZ))) fun _ _ _ h=>Cv h))
   (d6 (fE (PW.pt (gU (gH (gC (eI (GL.mono (by decide)) hr rfl DL.m DL.F.kp bL .nil eM (dY (iO (pv 0) M.cl.cl mP (GP.mono (by decide)) hr bP .nil hV (dY (pv 3) dZ)) (dY (eI (GPt.mono (by decide)) hr rfl DPt.m DPt.F.kp a3 .nil eM (dY (pv 4) dZ)) dZ))))) (ip (gH (gC (eI (GL.mono (by decide)) hr rfl DL.m DL.F.kp bL .nil eM (dY (iO (pv 0) M.cl.cl mR (GR.mono (by decide)) hr bR .nil hV (dY (pv 3) dZ)) (dY (pv 4) dZ)))))))) (d9 (eG gM)) fB)
   (d9 (fE (eY (rg hr.units100) (kW (iO (pv 0) M.cl.cl ba (bb.mono (by decide)) hr bo .nil hV (dY (pv 3) dZ)) M.wt.cl bc (bf.mono (by decide)) hr bh .nil eM) (pv 4) (eZ _)) (d9 (eG gM)) fB)))))
   (d6 (eE (i:=5) p7.nd rfl (Or.inl rfl) (ek jK (ik (own:=1) (caps:=[]) (N:=["_law_word"]) (N0:=["_law_book","_law_rows_here","_law_menu_here","_law_word","_law_row","_law_pieces"]) (sc0:=er lp) rfl (gu (pv 2)) (fun _ _ _=>eO (i:=0) xm rfl (Or.inl rfl)) (fun _ _ _=>lX (eY jq (fG ko rfl T.len gf (dY (pv 0) dZ)) d5 (eZ _))) (fun _ _ _=>g7 jn (pv 0) (gR d5) iq) (gD (by decide)) rfl rfl
    dk rfl dk dk rfl dk) (ik (own:=1) (caps:=[]) (N:=["_law_word"]) (N0:=["_law_book","_law_rows_here","_law_menu_here","_law_word","_law_row","_law_pieces"]) (sc0:=er lp) rfl (gu (pv 2)) (fun _ _ _=>eO (i:=0) xm rfl (Or.inl rfl)) (fun _ _ _=>iG) (fun _ _ _=>g7 jn (pv 0) iq (gR d5)) (gD (by decide)) rfl rfl
    dk rfl dk dk rfl dk)))
   (d6 (fU PassesOwn.never rfl (gu (ek jK (ek jK (pv 2) (pv 5)) (fJ (dY fF (dY (ek jl (fb fS (pv 2) d5 (fun _ _=>rfl)) fF) dZ))))) (eO (i:=3) p7.nd rfl (Or.inr rfl)) (d9 (fE (gH (gC (eI (GL.mono (by decide)) hr rfl DL.m DL.F.kp bL .nil eM (dY (iO (pv 0) M.cl.cl a7 (a8.mono (by decide)) hr bj .nil hV (dY (pv 3) dZ)) (dY (ik (own:=1) (caps:=[3]) (N:=["_law_one","_law_word"]) (N0:=["_law_book","_law_rows_here","_law_menu_here","_law_word","_law_row","_law_pieces"]) (sc0:=er lp) rfl (gu (fG (sj rfl) rfl T.sorted sf (dY (pv 1) dZ))) (fun _ _ _=>eO (i:=0) DB rfl (Or.inl rfl)) (fun _ _ _=>lX (eY ig (g7 jn (pv 0) iq (gR (fG ko rfl T.len gf (dY (pv 1) dZ)))) (pv 1) (eZ _))) (fun _ _ _=>pv 0) (gD (by decide)) rfl rfl
    dk rfl dk dk rfl dk) dZ))))) (d9 (eG gM)) fB)))
   (d9 (eG gM)))))),?_⟩
  obtain⟨dx,fs,hx,aj⟩:=hB.at
  have au:(es.map (·.1)).length < 64:=qI hL.w hD.k hD.w
  have uq:∀{ts:List Str},ts.Nodup->(∀ y,y∈ts↔∃ ws∈d0 ps,y∈ws)->sortedS ts=true->∀{us:List Str},us.Perm (es.map (·.1))->sortedS us=true->us=ts:=fun tn tm aa us hp hs=>Ai hs aa (hp.trans (Dj hD.k tn fun y=>by rw [hD.w,tm]))
  have aF:∀ t:Str,(∃ ws∈d0 ps,t∈ws)->t.cps.toList.all fq=true:=fun t ⟨wl,aw,ht⟩=>by
   obtain⟨pr,_,e⟩:=List.mem_map.mp aw
   subst e
   exact Bw ht
  refine⟨_,rfl,x,dx,_,rfl,hx,aj _ mn,x,ps,rfl,hB,fun l1 ts H1 s1 b6 e1 tn tm aa=>?_⟩
  have tl:=qI hL.w tn tm
  refine⟨_,rfl,d,_,es.map (·.1),rfl,.inl (s1 _ _ hD.d),rL es,au,fun l2 us aG ax ay=>?_⟩
  have eU:=uq tn tm aa ax ay
  subst eU
  have s2:=s1.trans (eh (o:= .lst (us.map V.str)) aG)
  have aH:=eh (o:= .lst (us.map V.str)) aG _ _ e1
  have aI:upd H1 l2 (.lst (us.map V.str)) l2=some (.lst (sl us)):=d7
  generalize upd H1 l2 (.lst (us.map V.str))=H2 at s2 aH aI ⊢
  refine⟨l1,l2,rfl,vQ aH aI (by omega) (fun t ht=>aF t ((tm t).mp ht)),fun H3 s3=>⟨_,rfl,eD ?_⟩⟩
  have aJ:=s2.trans s3
  obtain⟨I,ak⟩:∃ I,ws[0]? =some I:=⟨ws[0],List.getElem?_eq_getElem bp⟩
  have az:Wm I:=ai I (List.mem_of_getElem? ak)
  have aK:=aJ _ _ hM
  have l0:(Str.ofString "0").length=1:=dk
  have b7:=az.1
  refine⟨_,rfl,_,rfl,m,_,_,_,rfl,rfl,d4.of aK,fC (j:=0) (by unfold sl;rw [List.getElem?_map,ak];rfl),_,_,rfl,rfl,(by rw [l0];omega),(by show 2<=sizeLine;omega),fun q1 bq=>?_⟩
  have s4:=eh (o:= .lst [.str (Str.ofString "zz"),.str (I++Str.ofString "0")]) bq
  have e4:upd H3 q1 (.lst [.str (Str.ofString "zz"),.str (I++Str.ofString "0")]) q1=some (.lst [.str (Str.ofString "zz"),.str (I++Str.ofString "0")]):=d7
  generalize upd H3 q1 (.lst [.str (Str.ofString "zz"),.str (I++Str.ofString "0")])=H4 at s4 e4 ⊢
  have ah:(sl ws).length=ws.length:=List.length_map _
  refine⟨m,q1,_,_,rfl,rfl,s4 _ _ aK,e4,(by rw [ah];show _ + 2<=sizeLine;omega),fun q2 br=>?_⟩
  have s5:=eh (o:= .lst (sl ws++[.str (Str.ofString "zz"),.str (I++Str.ofString "0")])) br
  have e5:upd H4 q2 (.lst (sl ws++[.str (Str.ofString "zz"),.str (I++Str.ofString "0")])) q2=some (.lst (sl (ws++[Str.ofString "zz",I++Str.ofString "0"]))):=by rw [d7];unfold sl;rw [List.map_append];rfl
  generalize upd H4 q2 (.lst (sl ws++[.str (Str.ofString "zz"),.str (I++Str.ofString "0")]))=H5 at s5 e5 ⊢
  have aL:=(aJ.trans s4).trans s5
  have av:jx (Str.ofString "zz"):=oy dk dk dk
  have all1:∀ z∈ws++[Str.ofString "zz",I++Str.ofString "0"],jx z:=fun z af=>by
   rcases List.mem_append.mp af with q | q
   ·exact yk (ai z q)
   ·rcases List.mem_cons.mp q with e | q
    ·rw [e];exact av
    ·rw [List.mem_singleton.mp q];exact zo az
  refine⟨q2,rfl,⟨_,d4.of e5⟩,?_⟩
  refine iS (xs:=sl (ws++[Str.ofString "zz",I++Str.ofString "0"])) (fun i σ H'=>∃(o3 o4:Option V),σ=[some (.ref x),some (.ref d),some (.ref m),o3,o4,none]/\d3 H5 H') ?_ ?_ ?_ ?_
  ·exact⟨_,_,rfl,fun _ _ h=>h⟩
  ·rintro i σ H' _ ⟨_,_,_,sm⟩
   exact d4.of (sm _ _ e5)
  ·rintro i v σ H' hv ⟨o3,o4,rfl,sm⟩
   obtain⟨z,ag,rfl⟩:=j9 hv
   have ab:jx z:=all1 z (List.mem_of_getElem? ag)
   have ae:iH (.str z):=qM ab (by decide)
   have ao:=aL.trans sm
   refine⟨d,es,d0 ps,z,rfl,rfl,hD.same ao,fun r H6 s6 hR=>?_⟩
   have ar:=ao.trans s6
   have bt:=hB.same ar
   obtain⟨rl,rp⟩:=BD hL z
   refine⟨_,rfl,x,dx,_,rfl,ar _ _ hx,aj _ mn,_,rfl,x,ps,_,rfl,bt,⟨_,.str _⟩,ae,(fun z' l7 H7 ez _ s7 b8 e7=>?_),fun c=>(by rw [ab] at c;cases c)⟩
   have bu:z'=z:=by injection ez with ez;exact ez.symm
   subst bu
   have aM:=hL.f.sz z'
   refine⟨_,rfl,r,_,rfl,hR.same s7,gJ.ok z',aM,rp,fun l8 H8 s8 b9 e8=>?_⟩
   have bw:=s8 _ _ e7
   refine⟨l7,l8,rfl,AR bw e8 (by have:=aM.p;show(pk (rn 0 (rowOf z' (d0 ps) 0))).length<=3000;omega),fun H9 s9=>⟨_,rfl,eD ?_⟩⟩
   have aA:=(s7.trans s8).trans s9
   have aN:=ar.trans aA
   refine⟨_,rfl,x,dx,_,rfl,aN _ _ hx,aj _ mn,_,rfl,x,ps,_,rfl,hB.same aN,hL.f,⟨_,.str _⟩,ae,(fun z2 lA HA eA _ sA cb bx=>?_),fun c=>(by rw [ab] at c;cases c)⟩
   have bz:z2=z':=by injection eA with eA;exact eA.symm
   subst bz
   refine⟨_,rfl,lA,r,rfl,CA bx (hR.same (aA.trans sA)) (by omega),fun HB sB=>⟨_,rfl,eD ?_⟩⟩
   have aB:=(aA.trans sA).trans sB
   have aO:=ar.trans aB
   refine⟨_,rfl,x,dx,_,rfl,aO _ _ hx,aj _ mn,_,rfl,x,ps,z2,rfl,hB.same aO,hL.f,ae,ab,fun y p HC sC hy hp aP=>?_⟩
   obtain⟨dy,bA⟩:=aP.ob
   refine⟨y,dy,_,rfl,bA,CC _ _ dk dk,y,p,_,0,rfl,aP,fun zz HD sD cc aQ=>?_⟩
   rw [List.drop_zero] at aQ
   refine⟨_,rfl,_,_,pY aQ,pY (hR.same ((aB.trans sC).trans sD)),nz _,nz _,Nat.le_trans (Nat.min_le_left _ _) (Nat.le_trans (rS _) (by decide)),_,rfl,?_⟩
   rw [sk (nz _)]
   exact eD ⟨_,_,rfl,((sm.trans s6).trans ((aB.trans sC).trans sD))⟩
  ·rintro σ H' ⟨o3,o4,rfl,sm⟩
   have ao:=aL.trans sm
   have aC:=ao _ _ hM
   refine⟨_,rfl,m,rfl,⟨_,d4.of aC⟩,?_⟩
   refine iL (xs:=sl ws) (fun i ys G=>H'=G/\∃ us:List Str,ys=sl us/\us.length<=i/\∀ z∈us,jx z) (by rw [ah];omega) (fun i ys G q=>by rw [<-q.1];exact d4.of aC) ⟨rfl,[],rfl,Nat.le_refl _,fun z af=>nomatch af⟩ ?_ ?_
   ·rintro i v ys G N hv ⟨rfl,us,rfl,bB,hok⟩ hN
    obtain⟨z,ag,rfl⟩:=j9 hv
    have aq:Wm z:=ai z (List.mem_of_getElem? ag)
    have bC:=aq.1
    refine⟨_,rfl,_,rfl,(by omega),_,_,rfl,rfl,_,rfl,?_⟩
    by_cases h1:1 < z.length
    ·rw [decide_eq_true (show(1:Int) < (z.length:Int) by omega)]
     refine eN ⟨_,rfl,_,rfl,z,rfl,by omega,hN _ _ ⟨rfl,us++[Txt.slice z (some 1) none],by unfold sl;rw [List.map_append];rfl,by rw [List.length_append];show us.length + 1<=i + 1;omega,fun y hy=>?_⟩⟩
     rcases List.mem_append.mp hy with q | q
     ·exact hok y q
     ·rw [List.mem_singleton.mp q];exact HY aq h1
    ·rw [decide_eq_false (show ¬ (1:Int) < (z.length:Int) by omega)]
     exact eD (hN _ _ ⟨rfl,us,rfl,by omega,hok⟩)
   ·rintro ys G ⟨rfl,J,rfl,aR,aS⟩ _ c1 bD
    rw [ah] at aR
    have t1:=eh (o:= .lst (sl J)) bD
    have f1:upd H' c1 (.lst (sl J)) c1=some (.lst (sl J)):=d7
    generalize upd H' c1 (.lst (sl J))=G1 at t1 f1 ⊢
    have aT:=t1 _ _ aC
    refine⟨_,rfl,m,rfl,⟨_,d4.of aT⟩,?_⟩
    refine iL (xs:=sl ws) (fun i ys G=>G1=G/\∃ us:List Str,ys=sl us/\us.length<=i/\∀ z∈us,jx z) (by rw [ah];omega) (fun i ys G q=>by rw [<-q.1];exact d4.of aT) ⟨rfl,[],rfl,Nat.le_refl _,fun z af=>nomatch af⟩ ?_ ?_
    ·rintro i v ys G N hv ⟨rfl,us,rfl,bB,hok⟩ hN
     obtain⟨z,ag,rfl⟩:=j9 hv
     have aq:Wm z:=ai z (List.mem_of_getElem? ag)
     have bC:=aq.1
     refine g1 ⟨_,rfl,_,rfl,z,rfl,by omega,hN _ _ ⟨rfl,us++[Txt.slice z none (some 1)],by unfold sl;rw [List.map_append];rfl,by rw [List.length_append];show us.length + 1<=i + 1;omega,fun y hy=>?_⟩⟩
     rcases List.mem_append.mp hy with q | q
     ·exact hok y q
     ·rw [List.mem_singleton.mp q];exact Bp aq
    ·rintro ys G ⟨rfl,U,rfl,aU,aV⟩ _ c2 bE
     rw [ah] at aU
     have t2:=eh (o:= .lst (sl U)) bE
     have f2:upd G1 c2 (.lst (sl U)) c2=some (.lst (sl U)):=d7
     generalize upd G1 c2 (.lst (sl U))=G2 at t2 f2 ⊢
     have bF:(sl J).length=J.length:=List.length_map _
     have bG:(sl U).length=U.length:=List.length_map _
     refine⟨c1,c2,_,_,rfl,rfl,t2 _ _ f1,f2,by rw [bF,bG];omega,fun pc bH=>?_⟩
     have t3:=eh (o:= .lst (sl J++sl U)) bH
     have f3:upd G2 pc (.lst (sl J++sl U)) pc=some (.lst (sl (J++U))):=by rw [d7];unfold sl;rw [List.map_append]
     generalize upd G2 pc (.lst (sl J++sl U))=G3 at t3 f3 ⊢
     have aW:=((ao.trans t1).trans t2).trans t3
     have aX:=aW _ _ hM
     have bI:(sl (J++U)).length=J.length + U.length:=by unfold sl;rw [List.length_map,List.length_append]
     refine⟨_,rfl,_,rfl,m,pc,_,_,rfl,rfl,aX,f3,by rw [ah,bI];omega,fun b1 bJ=>?_⟩
     have t4:=eh (o:= .lst (sl ws++sl (J++U))) bJ
     have f4:upd G3 b1 (.lst (sl ws++sl (J++U))) b1=some (.lst (sl (ws++(J++U)))):=by rw [d7];unfold sl;rw [<-List.map_append]
     generalize upd G3 b1 (.lst (sl ws++sl (J++U)))=G4 at t4 f4 ⊢
     refine⟨_,rfl,m,_,_,_,rfl,rfl,d4.of (t4 _ _ aX),fC (j:=0) (by unfold sl;rw [List.getElem?_map,ak];rfl),_,_,rfl,rfl,(by rw [l0];omega),(by show 2<=sizeLine;omega),fun b2 bK=>?_⟩
     have t5:=eh (o:= .lst [.str (Str.ofString "zz"),.str (I++Str.ofString "0")]) bK
     have f5:upd G4 b2 (.lst [.str (Str.ofString "zz"),.str (I++Str.ofString "0")]) b2=some (.lst [.str (Str.ofString "zz"),.str (I++Str.ofString "0")]):=d7
     generalize upd G4 b2 (.lst [.str (Str.ofString "zz"),.str (I++Str.ofString "0")])=G5 at t5 f5 ⊢
     have bM:(sl (ws++(J++U))).length=ws.length + (J.length + U.length):=by unfold sl;rw [List.length_map,List.length_append,List.length_append]
     refine⟨b1,b2,_,_,rfl,rfl,t5 _ _ f4,f5,by rw [bM];show _ + 2<=sizeLine;omega,fun b3 bN=>?_⟩
     have t6:=eh (o:= .lst (sl (ws++(J++U))++[.str (Str.ofString "zz"),.str (I++Str.ofString "0")])) bN
     have f6:upd G5 b3 (.lst (sl (ws++(J++U))++[.str (Str.ofString "zz"),.str (I++Str.ofString "0")])) b3=some (.lst (sl (ws++(J++U)++[Str.ofString "zz",I++Str.ofString "0"]))):=by rw [d7];unfold sl;rw [List.map_append (l₂:=[Str.ofString "zz",I++Str.ofString "0"])];rfl
     generalize upd G5 b3 (.lst (sl (ws++(J++U))++[.str (Str.ofString "zz"),.str (I++Str.ofString "0")]))=G6 at t6 f6 ⊢
     have aY:=((aW.trans t4).trans t5).trans t6
     have all2:∀ z∈ws++(J++U)++[Str.ofString "zz",I++Str.ofString "0"],jx z:=fun z af=>by
      rcases List.mem_append.mp af with q | q
      ·rcases List.mem_append.mp q with q | q
       ·exact yk (ai z q)
       ·rcases List.mem_append.mp q with q | q
        ·exact aS z q
        ·exact aV z q
      ·rcases List.mem_cons.mp q with e | q
       ·rw [e];exact av
       ·rw [List.mem_singleton.mp q];exact zo az
     refine⟨b3,rfl,⟨_,d4.of f6⟩,?_⟩
     refine iS (xs:=sl (ws++(J++U)++[Str.ofString "zz",I++Str.ofString "0"])) (fun i σ G=>∃(o3:Option V),σ=[some (.ref x),some (.ref d),some (.ref m),o3,o4,some (.ref pc)]/\d3 G6 G) ?_ ?_ ?_ ?_
     ·exact⟨_,rfl,fun _ _ h=>h⟩
     ·rintro i σ G _ ⟨_,_,sm⟩
      exact d4.of (sm _ _ f6)
     ·rintro i v σ G hv ⟨o3,rfl,sm⟩
      obtain⟨z,ag,rfl⟩:=j9 hv
      have ab:jx z:=all2 z (List.mem_of_getElem? ag)
      have ae:iH (.str z):=qM ab (by decide)
      have aD:=aY.trans sm
      refine⟨_,rfl,x,dx,_,rfl,aD _ _ hx,aj _ mn,_,rfl,x,ps,z,rfl,hB.same aD,hL.w,ae,ab,fun lS ts HS sS cf eS tn tm aa=>?_⟩
      have bO:=aD.trans sS
      have tl:=qI hL.w tn tm
      refine⟨_,rfl,d,_,es.map (·.1),rfl,.inl (bO _ _ hD.d),rL es,au,fun lU us bQ ax ay=>?_⟩
      have eU:=uq tn tm aa ax ay
      subst eU
      have tU:=eh (o:= .lst (us.map V.str)) bQ
      have aE:upd HS lU (.lst (us.map V.str)) lU=some (.lst (sl us)):=d7
      generalize upd HS lU (.lst (us.map V.str))=HU at tU aE ⊢
      refine⟨lU,rfl,⟨_,d4.of aE⟩,?_⟩
      have aZ:(sl us).length=us.length:=List.length_map _
      have zl:z.length<=2000:=by
       have h':(decide (1<=z.length) && decide (z.length<=2000) && z.cps.toList.all fq)=true:=ab
       rw [Bool.and_eq_true,Bool.and_eq_true,decide_eq_true_eq,decide_eq_true_eq] at h'
       exact h'.1.2
      have a0:∀ y∈us,y.length<=3000:=fun y hy=>by
       obtain⟨wl,aw,bS⟩:=(tm y).mp hy
       obtain⟨pr,bT,e⟩:=List.mem_map.mp aw
       subst e
       exact A2 hL.g bT bS
      refine iL (xs:=sl us) (fun i ys G'=>HU=G'/\ys=sl ((us.take i).filter fun y=>Txt.startswith y z)) (by rw [aZ];omega) (fun i ys G' q=>by rw [<-q.1];exact d4.of aE) ⟨rfl,rfl⟩ ?_ ?_
      ·rintro i v ys G' N hv ⟨rfl,rfl⟩ hN
       obtain⟨y,hy,rfl⟩:=j9 hv
       have cg:=a0 y (List.mem_of_getElem? hy)
       refine⟨_,rfl,_,rfl,_,rfl,(by omega),_,rfl,y,rfl,(by omega),_,rfl,rfl,_,rfl,?_⟩
       rw [<-D6 y z (by omega)]
       have tk:(us.take (i + 1)).filter (fun y=>Txt.startswith y z)=(us.take i).filter (fun y=>Txt.startswith y z)++(if Txt.startswith y z=true then [y] else []):=by
        rw [take_snoc hy,List.filter_append]
        congr 1
        rw [List.filter_cons]
        split<;>rfl
       cases hs:Txt.startswith y z with
       | true=>
        rw [hs,if_pos rfl] at tk
        exact eN ⟨_,rfl,hN _ _ ⟨rfl,by rw [tk];unfold sl;rw [List.map_append];rfl⟩⟩
       | false=>
        rw [hs,if_neg (by decide),List.append_nil] at tk
        exact eD (hN _ _ ⟨rfl,by rw [tk]⟩)
      ·rintro ys G' ⟨rfl,rfl⟩ _ lF bU
       rw [aZ,List.take_of_length_le (Nat.le_refl _)]
       have tF:=eh (o:= .lst (sl (us.filter fun y=>Txt.startswith y z))) bU
       refine⟨lS,lF,rfl,vQ (tF _ _ (tU _ _ eS)) d7 (by have:=List.length_filter_le (fun y=>Txt.startswith y z) us;omega) (fun t ht=>aF t ((tm t).mp (List.mem_filter.mp ht).1)),fun HX sX=>⟨_,rfl,eD ⟨_,rfl,?_⟩⟩⟩
       exact(((sm.trans sS).trans tU).trans tF).trans sX
     ·rintro σ G ⟨o3,rfl,sm⟩
      exact kk G (aY.trans sm)
end
theorem good_none:∀{ps:List (Str×Str)} {seen:List Str},(∀ p∈ps,fV 12 (.str p.1)=true/\gL (.str p.2)=true)->(∀ p∈ps,p.1∉seen)->(ps.map (·.1)).Nodup->iV seen (ps.map kp)=none
 | [],_,_,_,_=>rfl
 | p::r,seen,h1,h2,J=>by
  obtain⟨a,b⟩:=h1 p List.mem_cons_self
  obtain⟨U,n2⟩:=List.nodup_cons.mp J
  show(if fV 12 (.str p.1)=false then some 0 else if gL (.str p.2)=false then some 1 else if p.1∈seen then some 2 else iV (seen++[p.1]) (r.map kp))=none
  rw [if_neg (by rw [a];decide),if_neg (by rw [b];decide),if_neg (h2 p List.mem_cons_self)]
  refine good_none (fun q I=>h1 q (List.mem_cons_of_mem _ I)) (fun q I z=>?_) n2
  rcases List.mem_append.mp z with z | z
  ·exact h2 q (List.mem_cons_of_mem _ I) z
  ·exact U (List.mem_map.mpr ⟨q,I,List.mem_singleton.mp z⟩)
theorem D4{ps:List (Str×Str)}(h:jh ps):iV [] (ps.map kp)=none:=good_none h.g (fun p _ z=>nomatch z) h.n
def ju(ps:List (Str×Str)):List PyData:=ps.map fun p=> .tuple [.str p.1,.str p.2]
theorem mF{K:W.Frag}{H:Hp}:∀{xs:List V} {ps:List (Str×Str)},fX H xs (ps.map kp)->iT K H xs (ju ps)
 | [],[],_=> .nil
 | _::_,[],h=>by cases h
 | [],_::_,h=>by cases h
 | x::xs,p::ps,h=>by
  cases h with
  | cons h t=>
   obtain⟨q,rfl,I⟩:=h
   exact .cons (.tup (eW.of I) (.cons (.str _) (.cons (.str _) .nil))) (mF t)
theorem mI:∀{ps:List (Str×Str)},(∀ p∈ps,fV 12 (.str p.1)=true/\gL (.str p.2)=true)->(PyData.list (ju ps)).canLay0=true
 | [],_=>rfl
 | p::ps,h=>by
  obtain⟨h1,h2⟩:=h p List.mem_cons_self
  have a1:(PyData.str p.1).canLay0=true:=vW (by
   have h':(decide (1<=p.1.length) && decide (p.1.length<=12) && p.1.cps.toList.all fq)=true:=h1
   rw [Bool.and_eq_true] at h'
   exact h'.2)
  have a2:(PyData.str p.2).canLay0=true:=xf fun c I=>by
   have h':(decide (p.2.length<=2000) && p.2.cps.toList.all gy)=true:=h2
   rw [Bool.and_eq_true] at h'
   have:=qE (List.all_eq_true.mp h'.2 c I)
   omega
  show(((PyData.str p.1).canLay0 && ((PyData.str p.2).canLay0 && true)) && (PyData.list (ju ps)).canLay0)=true
  rw [a1,a2,mI fun q J=>h q (List.mem_cons_of_mem _ J)]
  rfl
theorem nQ:∀ ps:List (Str×Str),(PyData.list (ju ps)).depth<=3
 | []=>by decide
 | p::ps=>by
  show max (max 0 (max 0 0) + 1) (PyData.depthAll (ju ps)) + 1<=3
  have I:PyData.depthAll (ju ps) + 1<=3:=nQ ps
  omega
section
variable {P : Program} {w : World} {K : PySem.W.Frag} {mg : Str -> Option Value} {base : Heap} {C CWk CN CNo CW CK CT C2 : Addr}
theorem Gi{H:Hp}{a x dx:Addr}{xs:List V}{ps:List (Str×Str)}{R:Hp->Prop}{E:XK}(hA:H a=some (.lst xs))(hP:fX H xs (ps.map kp))(hL:ka ps)(hx:H x=none)(hdx:H dx=none)(hne:dx≠x)
  (k:∀ H',d3 H H'->gc C H' x ps->(∀ H'',(∀ b u,H' b=some u->(∀ l0,H b≠some (.lst l0))->H'' b=some u)->gc C H'' x ps)->R H'):
  qf K C CK CT C2 [.ref x,.ref a,.non] (upd (upd H dx (.own x)) x (.ins C dx [])) (fun v H2=>v= .non/\R H2) E:=by
 have up:d3 H (upd (upd H dx (.own x)) x (.ins C dx [])):=fun b u e=>by rw [eC (fv e hx),eC (fv e hdx)];exact e
 refine⟨x,a,dx,.non,xs,ps.map kp,rfl,d7,up _ _ hA,hP.same up,by rw [List.length_map];have:=hL.l;omega,fun kt I=>?_,fun J e hg=>?_,fun i hi=>?_,fun J e hg H' hB hN fr=>?_⟩
 ·obtain⟨p,hp,rfl⟩:=List.mem_map.mp I
  obtain⟨h1,h2⟩:=hL.g.g p hp
  refine⟨⟨_,.str _⟩,qM h1 (by decide),⟨_,.str _⟩,fun z e=>?_⟩
  injection e with e
  subst e
  have h':(decide (p.2.length<=2000) && p.2.cps.toList.all gy)=true:=h2
  rw [Bool.and_eq_true,decide_eq_true_eq] at h'
  omega
 ·have:=pQ e
  subst this
  exact⟨hL.f,hL.w,.inl rfl⟩
 ·rw [D4 hL.g] at hi
  cases hi
 ·have:=pQ e
  subst this
  exact⟨rfl,k H' (fun b u U=>fr b u (up _ _ U) (fv U hx) (by intro z;cases z)) hB fun H'' hU=>hN H'' fun b u e n=>hU b u e fun l0 z=>n l0 (up _ _ z)⟩
def ua(C:Addr):Sp:=fun vs H Q _=>∃(x a m:Addr) (n:Int) (xs:List V) (ps:List (Str×Str)) (ws:List Str),vs=[.ref x,.ref a,.ref m,.int n]/\gc C H x ps/\ka ps/\H a=some (.lst xs)/\fX H xs (ps.map kp)/\H m=some (.lst (sl ws))/\0 < ws.length/\ws.length<=10/\(∀ z∈ws,Wm z)/\∀ H',d3 H H'->Q (.bl true) H'
theorem uh:eX ["_law_book","_law_pairs_here","_law_menu_here","_law_turn","_law_rows_here","_law_k"] ["_law_book","_law_pairs_here","_law_menu_here","_law_turn"] (er nC):=⟨rfl,rfl,rfl,dk,rfl,dk,dk⟩
seal eK PS PE PT PA PG PI eV eQ in
theorem GY{f fr ft fw:Addr}{fd fdr fdt fdw:FuncData}(D:Df K mg "_law_tells" nC f fd)(DRw:Df K mg "_law_rows" mf fr fdr)(GRw:d8 P w K mg base eu 3 fr fdr ["_law_pairs_here"] yC)(DTT:Df K mg "_law_texts_told" m9 ft fdt)(GTT:d8 P w K mg base eu 5 ft fdt ["_law_book","_law_pairs_here"] (xk C))
  (DWT:Df K mg "_law_words_told" lp fw fdw)(GWT:d8 P w K mg base eu 8 fw fdw ["_law_book","_law_rows_here","_law_menu_here"] (wz C))(T:Txt mg):d8 P w K mg base eu 9 f fd ["_law_book","_law_pairs_here","_law_menu_here","_law_turn"] (ua C):=by
 have aa:=fN (p:="_law_pairs_here") DRw.F fun _ _ _ _ _ _ _=>rfl
 have ab:=DTT.F.binds (ps:=["_law_book","_law_pairs_here"]) fun _ _ _ _ _ _ us hl=>gG (fun _ _=>rfl) us hl
 have ae:=DWT.F.binds (ps:=["_law_book","_law_rows_here","_law_menu_here"]) fun _ _ _ _ _ _ us hl=>tZ (fun _ _ _=>rfl) us hl
 refine D.F.ok uh (fun vs H Q E h=>?_) (fun cdv A outer s H vs Q E hr h=>?_)
 ·obtain⟨x,a,m,n,xs,ps,ws,rfl,_⟩:=h
  rfl
 ·obtain⟨x,a,m,n,xs,ps,ws,rfl,hB,U,hA,hP,hM,af,J,ag,kk⟩:=h
  refine⟨_,(d6 (eE (i:=4) uh.nd rfl (Or.inl rfl) (eI (GRw.mono (by decide)) hr rfl DRw.m DRw.F.kp aa .nil eM (dY (pv 1) dZ)))
   (d6 (fU PassesOwn.never rfl (iW rfl T.range (dY d5 dZ)) (eO (i:=5) uh.nd rfl (Or.inl rfl)) (d6 (fE (PW.pt (mv (eY ig (ek fY (ek fQ (pv 3) (pv 5)) d5) d5 (eZ _)) (mz (gH (gC (eI (GTT.mono (by decide)) hr rfl DTT.m DTT.F.kp ab .nil eM (dY (pv 0) (dY (pv 1) dZ)))))))) (d9 (eG gM)) fB)
   (d9 (fE (PW.pt (mv (eY ig (ek fY (ek fQ (pv 3) (pv 5)) d5) d5 (eZ _)) (mz (gH (gC (eI GWT hr rfl DWT.m DWT.F.kp ae .nil eM (dY (pv 0) (dY (pv 4) (dY (pv 2) dZ))))))))) (d9 (eG gM)) fB))))
   (d9 (eG gM)))),?_⟩
  refine⟨_,rfl,a,xs,ps,rfl,hA,hP,(fun p hp=>(U.g.g p hp).2),U.f,fun d es H1 s1 hd hD ah=>?_⟩
  have hR:nW H1 d (d0 ps) es:=⟨hD.d,hD.k,ah,fun e he=>hD.f e he⟩
  refine⟨2,rfl,by decide,by decide,jM (fun i σ H'=>∃(o5:Option V),σ=[some (.ref x),some (.ref a),some (.ref m),some (.int n),some (.ref d),o5]/\d3 H1 H') ?_ ?_ ?_⟩
  ·exact⟨_,rfl,fun _ _ h=>h⟩
  ·rintro i σ H' hi ⟨o5,rfl,I⟩
   have s2:=s1.trans I
   rw [Int.zero_add]
   have par:(n + (i:Int)) % 2=0\/(n + (i:Int)) % 2=1:=by omega
   refine⟨_,rfl,_,rfl,_,_,rfl,rfl,_,_,rfl,rfl,(by show(0:Int) < 2;decide),rfl,_,rfl,?_⟩
   rcases par with h0 | h1
   ·rw [iy h0]
    refine eN ⟨_,rfl,_,rfl,x,a,xs,ps,rfl,hB.same s2,U,s2 _ _ hA,hP.same s2,fun H2 s3=>⟨_,rfl,eD ?_⟩⟩
    refine⟨_,rfl,_,rfl,_,_,rfl,rfl,_,_,rfl,rfl,(by show(0:Int) < 2;decide),rfl,_,rfl,?_⟩
    rw [jg (by omega)]
    exact eD (eD ⟨_,rfl,I.trans s3⟩)
   ·rw [jg (by omega)]
    refine eD (eD ?_)
    refine⟨_,rfl,_,rfl,_,_,rfl,rfl,_,_,rfl,rfl,(by show(0:Int) < 2;decide),rfl,_,rfl,?_⟩
    rw [iy h1]
    exact eN ⟨_,rfl,_,rfl,_,rfl,x,d,m,ps,es,ws,rfl,hB.same s2,U,hR.same I,s2 _ _ hM,af,J,ag,fun H2 s3=>⟨_,rfl,eD ⟨_,rfl,I.trans s3⟩⟩⟩
  ·rintro σ H' ⟨o5,rfl,I⟩
   exact kk H' (s1.trans I)
end
end K09
namespace L2
open PySem PySem.Spec PyProof.Rows
theorem Gb{a:Addr}{xs:List V}{g:TG}{tc:TT}{te:TE}{σ0:L2.St}{H:Hp}{Q:VK}(Pv:Nat->List V->Hp->Prop)(hz:xs.length < sizeLine)(hl:∀ i ys H,Pv i ys H->H a=some (.lst xs))(h0:Pv 0 [] H)
  (hs:∀ i x ys H T (N:List V->Hp->Prop),xs[i]? =some x->Pv i ys H->H T=none->(∀ ys' H2,Pv (i + 1) ys' H2->N ys' H2)->
   g (.ref T) σ0 (upd H T (.tup [.int i,x])) fun σ2 H2=>tc σ2 H2 fun b H3=>if b=true then te σ2 H3 fun y H4=>N (ys++[y]) H4 else N ys H3)
  (hd:∀ ys H,Pv xs.length ys H->ys.length<=xs.length->∀ p,H p=none->Q (.ref p) (upd H p (.lst ys))):nK (nZ a) g tc te σ0 Q H:=qd xs.length Pv hz
 (fun i ys H hi p=>⟨xs,xs[i],hl i ys H p,by simp [hi]⟩) (fun ys H p=>⟨xs,hl _ ys H p,rfl⟩) h0
 (fun i ys H v H' N hi p y I=>by
  obtain⟨T,z,J,hz,rfl,rfl⟩:=y
  exact hs i z ys H T N (hz xs (hl i ys H p)) p J I) hd
end L2
namespace K09
open PySem L2 PyProof.Rows PySem.Spec Gn K04 K01 BK
def iZ(H:Hp):List V->List (List (Str×Str))->Prop:=Paired fun v ps=>∃ a xs,v= .ref a/\H a=some (.lst xs)/\fX H xs (ps.map kp)
theorem iZ.same {H H':Hp}{vs:List V}{gs:List (List (Str×Str))}(h:iZ H vs gs)(s:d3 H H'):iZ H' vs gs:=Gn.Paired.imp2 h fun _ _ ⟨a,xs,e,h1,h2⟩=>⟨a,xs,e,s _ _ h1,h2.same s⟩
def gP(H:Hp):List V->List (Nat×Nat)->Prop:=Paired fun v p=>∃ t,v= .ref t/\H t=some (.tup [.int (p.1:Int),.int (p.2:Int)])
theorem gP.same {H H':Hp}{vs:List V}{G:List (Nat×Nat)}(h:gP H vs G)(s:d3 H H'):gP H' vs G:=Gn.Paired.imp2 h fun _ _ ⟨t,e,q⟩=>⟨t,e,s _ _ q⟩
theorem gP.but {H H':Hp}{vs:List V}{G:List (Nat×Nat)}{a:Addr}{zs:List V}(h:gP H vs G)(s:SameBut a H H')(ha:H a=some (.lst zs)):gP H' vs G:=Gn.Paired.imp2 h fun _ _ ⟨t,e,q⟩=>⟨t,e,s _ _ q fun z=>by rw [z,ha] at q;cases q⟩
def dG(G:List (Nat×Nat)):List PyData:=G.map fun p=> .tuple [.int (p.1:Int),.int (p.2:Int)]
theorem qH{K:W.Frag}{H:Hp}{vs:List V}{G:List (Nat×Nat)}(h:gP H vs G):iT K H vs (dG G):=by
 induction h with
 | nil=>exact .nil
 | cons r _ I=>
  obtain⟨t,rfl,q⟩:=r
  exact .cons (.tup (eW.of q) (.cons (.int _) (.cons (.int _) .nil))) I
theorem nB:∀(G:List (Nat×Nat)),PyData.canLayAll0 (dG G)=true
 | []=>rfl
 | _::G=>nB G
theorem qD:∀(G:List (Nat×Nat)),PyData.depthAll (dG G)<=1
 | []=>Nat.zero_le _
 | p::G=>by
  have I:=qD G
  show max (max 0 (max 0 0) + 1) (PyData.depthAll (dG G))<=1
  omega
theorem yP(i j:Nat):∀(G:List (Nat×Nat)),((dG G).any fun d=>PyData.eqv d (.tuple [.int (i:Int),.int (j:Int)]))=decide ((i,j)∈G)
 | []=>by simp [dG]
 | p::G=>by
  have I:=yP i j G
  have e:PyData.eqv (.tuple [.int (p.1:Int),.int (p.2:Int)]) (.tuple [.int (i:Int),.int (j:Int)])=decide (p=(i,j)):=by
   show(((p.1:Int) == (i:Int)) && (((p.2:Int) == (j:Int)) && true))=_
   by_cases h:p=(i,j)
   ·rw [decide_eq_true h,h]
    simp
   ·rw [decide_eq_false h]
    cases h1:((p.1:Int) == (i:Int)) with
    | false=>rfl
    | true=>
     cases h2:((p.2:Int) == (j:Int)) with
     | false=>rfl
     | true=>
      have a:=eq_of_beq h1
      have b:=eq_of_beq h2
      exact absurd (Prod.ext (by omega) (by omega)) h
  show(PyData.eqv (.tuple [.int (p.1:Int),.int (p.2:Int)]) _ || (dG G).any _)=_
  rw [e,I]
  by_cases h:p=(i,j)
  ·rw [decide_eq_true h,decide_eq_true (show(i,j)∈p::G by rw [h];exact List.mem_cons_self)]
   rfl
  ·rw [decide_eq_false h,Bool.false_or]
   refine decide_eq_decide.mpr ⟨fun q=>List.mem_cons_of_mem _ q,fun q=>?_⟩
   rcases List.mem_cons.mp q with e' | e'
   ·exact absurd e'.symm h
   ·exact e'
theorem vE{α β:Type}{F:α->β->Prop}:∀{l:List α} {m:List β},Paired F l m->Paired F l.reverse m.reverse
 | _,_,.nil=> .nil
 | _,_,.cons h t=>by
  rw [List.reverse_cons,List.reverse_cons]
  exact Gn.Paired.app (vE t) h
theorem wk:(["_law_number_here","_law_pair","_law_gone_here","_law_place"]:List Str).Nodup:=dk
section
variable {P : Program} {w : World} {K : PySem.W.Frag} {mg : Str -> Option Value} {base : Heap}
def ug:Sp:=fun vs H Q _=>∃(l g:Addr) (bs xs:List V) (gs:List (List (Str×Str))) (G:List (Nat×Nat)),vs=[.ref l,.ref g]/\H l=some (.lst bs)/\iZ H bs gs/\gs.flatten.length<=1000/\gs.length<=1000/\H g=some (.lst xs)/\gP H xs G/\
 ∀ q ys H',d3 H H'->H q=none->H' q=some (.lst ys)->fX H' ys ((kg G 0 gs).map kp)->Q (.ref q) H'
theorem pK:eX ["_law_groups","_law_gone_here","_law_left_here","_law_place","_law_pairs_here"] ["_law_groups","_law_gone_here"] (er ma):=⟨rfl,rfl,rfl,dk,rfl,dk,dk⟩
seal eK PS PE PT PA PG PI eV eQ in
theorem Hv{f:Addr}{fd:FuncData}(D:Df K mg "_law_left" ma f fd)(T:Txt mg):d8 P w K mg base eu 1 f fd ["_law_groups","_law_gone_here"] ug:=by
 refine D.F.ok pK (fun vs H Q E h=>?_) (fun cdv A outer s H vs Q E hr h=>?_)
 ·obtain⟨l,g,bs,xs,gs,G,rfl,_⟩:=h
  rfl
 ·obtain⟨l,g,bs,xs,gs,G,rfl,hL,af,ag,aD,hG,ar,kk⟩:=h
  have hz:(sizeLine:Nat)=16777216:=sizeLine_eq
  have au:=Gn.Paired.len af
  refine⟨_,(d6 (eE (i:=2) pK.nd rfl (Or.inl rfl) (fJ dZ))
   (d6 (fU PassesOwn.never rfl (kd rfl T.enum (dY (pv 0) dZ)) (iz (n:=2) rfl (gh (eO (i:=3) pK.nd rfl (Or.inr rfl)) (gh (eO (i:=4) pK.nd rfl (Or.inl rfl)) iC))) (d9 (eE (i:=2) pK.nd rfl (Or.inl rfl) (ek jK (pv 2) (ik (own:=2) (caps:=[1,3]) (N:=["_law_number_here","_law_pair","_law_gone_here","_law_place"]) (N0:=["_law_groups","_law_gone_here","_law_left_here","_law_place","_law_pairs_here"]) (sc0:=er ma) rfl (kd rfl T.enum (dY (pv 4) dZ)) (fun _ _ _=>iz (n:=2) rfl (gh (eO (i:=0) wk rfl (Or.inl rfl)) (gh (eO (i:=1) wk rfl (Or.inl rfl)) iC))) (fun _ _ _=>lX (eY (E8 (K:=K) rfl hr.units100) (g8 (dY (pv 3) (dY (pv 0) dZ))) (pv 2) rfl)) (fun _ _ _=>pv 1) (oV (jD (gD (by decide)) (jD (gD (by decide)) pD))) rfl rfl
    dk rfl dk dk rfl dk)))))
   (d9 (eG (pv 2))))),?_⟩
  refine⟨Nat.zero_le _,fun q0 ab=>?_⟩
  refine⟨_,rfl,l,bs,rfl,eh ab _ _ hL,?_⟩
  refine kN (xs:=bs) (fun i σ H'=>∃(q:Addr) (ys:List V) (o3 o4:Option V),σ=[some (.ref l),some (.ref g),some (.ref q),o3,o4]/\d3 H H'/\H q=none/\H' q=some (.lst ys)/\fX H' ys ((kg G 0 (gs.take i)).map kp)) ?_ ?_ ?_ ?_
  ·exact⟨q0,[],none,none,rfl,eh ab,ab,d7,.nil⟩
  ·rintro i σ H' _ ⟨_,_,_,_,_,sm,_⟩
   exact sm _ _ hL
  ·rintro i x σ H' t hx ⟨q,ys,o3,o4,rfl,sm,hq,ae,hP⟩ ht
   obtain⟨ps,ah,pa,xp,rfl,ai,aj⟩:=gK af hx
   have st:d3 H' (upd H' t (.tup [.int i,.ref pa])):=eh ht
   refine⟨t,_,rfl,eW.of d7,rfl,_,_,rfl,_,_,rfl,rfl,?_⟩
   generalize upd H' t (.tup [.int i,.ref pa])=H1 at st ⊢
   have J:=sm.trans st
   have av:ps.length<=1000:=Nat.le_trans (oG (List.mem_of_getElem? ah)).length_le ag
   have ak:=Gn.Paired.len aj
   rw [List.length_map] at ak
   refine⟨_,rfl,_,rfl,pa,xp,rfl,J _ _ ai,?_⟩
   refine Gb (xs:=xp) (fun j zs I=>d3 H1 I/\fX I zs ((kf G i 0 (ps.take j)).map kp)) (by omega) (fun j zs I p=>p.1 _ _ (J _ _ ai)) ⟨d3.refl _,.nil⟩ ?_ ?_
   ·rintro j v zs I t3 N hv ⟨s3,hZ⟩ aw hN
    obtain⟨kt,ao,pp,rfl,ax⟩:=gK aj hv
    rw [List.getElem?_map] at ao
    obtain⟨pr,ay,e⟩:=Option.map_eq_some_iff.mp ao
    subst e
    have U:d3 I (upd I t3 (.tup [.int j,.ref pp])):=eh aw
    refine⟨t3,_,rfl,eW.of d7,rfl,_,_,rfl,_,_,rfl,rfl,?_⟩
    generalize upd I t3 (.tup [.int j,.ref pp])=H4 at U ⊢
    refine⟨_,rfl,_,rfl,(by show 2<=sizeLine;omega),fun t4 az=>?_⟩
    have aa:d3 H4 (upd H4 t4 (.tup [.int i,.int j])):=eh az
    have aq:upd H4 t4 (.tup [.int i,.int j]) t4=some (.tup [.int i,.int j]):=d7
    generalize upd H4 t4 (.tup [.int i,.int j])=H5 at aa aq ⊢
    have s5:=(s3.trans U).trans aa
    have aA:=s5 _ _ (J _ _ hG)
    refine⟨_,rfl,.tuple [.int i,.int j],dG G,.tup (eW.of aq) (.cons (.int _) (.cons (.int _) .nil)),.lst (d4.of aA) (qH (ar.same (J.trans s5))),rfl,nB G,Nat.le_trans (qD G) (by decide),_,rfl,?_⟩
    rw [yP]
    have tk:=Gj (G:=G) (i:=i) ay
    by_cases hm:(i,j)∈G
    ·rw [decide_eq_true hm]
     rw [if_pos hm,List.append_nil] at tk
     exact eD (hN _ _ ⟨s5,by rw [tk];exact hZ.same (U.trans aa)⟩)
    ·rw [decide_eq_false hm]
     rw [if_neg hm] at tk
     refine eN ⟨_,rfl,hN _ _ ⟨s5,?_⟩⟩
     rw [tk,List.map_append]
     exact Gn.Paired.app (hZ.same (U.trans aa)) ⟨pp,rfl,s5 _ _ (J _ _ ax)⟩
   ·rintro zs I ⟨s3,hZ⟩ _ c hc
    rw [ak,List.take_length] at hZ
    have sc:d3 I (upd I c (.lst zs)):=eh hc
    have ec:upd I c (.lst zs) c=some (.lst zs):=d7
    generalize upd I c (.lst zs)=H4 at sc ec ⊢
    have s4:=(st.trans s3).trans sc
    have aB:=Gn.Paired.len hZ
    have aC:=Gn.Paired.len hP
    rw [List.length_map] at aB aC
    have k1:(kf G i 0 ps).length<=1000:=Nat.le_trans (rf G i ps 0).length_le av
    have k2:(kg G 0 (gs.take i)).length<=1000:=Nat.le_trans ((oa G _ 0).trans (qF gs i)).length_le ag
    refine⟨q,c,ys,zs,rfl,rfl,s4 _ _ ae,ec,by omega,fun n hn=>?_⟩
    have sn:d3 H4 (upd H4 n (.lst (ys++zs))):=eh hn
    have s6:=(sm.trans s4).trans sn
    refine⟨n,ys++zs,_,_,rfl,s6,(sm.trans s4).free hn,d7,?_⟩
    rw [Ho ah,List.map_append]
    exact Gn.Paired.cat ((hP.same s4).same sn) ((hZ.same sc).same sn)
  ·rintro σ H' ⟨q,ys,o3,o4,rfl,sm,hq,ae,hP⟩
   rw [au,List.take_length] at hP
   exact⟨_,rfl,kk q ys H' sm hq ae hP⟩
def zN:TE:=fun σ H Q=>∃(g:Addr) (i j:Nat) (c:Int) (xs:List V) (G:List (Nat×Nat)),σ[2]? =some (some (.ref g))/\σ[3]? =some (some (.int (i:Int)))/\σ[5]? =some (some (.int (j:Int)))/\σ[6]? =some (some (.int c))/\H g=some (.lst xs)/\gP H xs G/\G.length<=1000/\
 ∀(n:Nat) q I H',n<=2->d3 H H'->H q=none->H' q=some (.lst I)->gP H' I (G++List.replicate n (i,j))->Q (.ref q) H'
theorem zQ:∀ r:Nat,r < 5->∃ n:Nat,n<=2/\jr [V.int 0,.int 0,.int 0,.int 1,.int 2] (r:Int)=some (.int (n:Int))
 | 0,_=>⟨0,by decide,rfl⟩
 | 1,_=>⟨0,by decide,rfl⟩
 | 2,_=>⟨0,by decide,rfl⟩
 | 3,_=>⟨1,by decide,rfl⟩
 | 4,_=>⟨2,by decide,rfl⟩
 | r + 5,h=>by omega
theorem sI{α:Type}(x:α):∀ n:Nat,(List.replicate n [x]).flatten=List.replicate n x
 | 0=>rfl
 | n + 1=>by
  rw [List.replicate_succ,List.replicate_succ,List.flatten_cons,sI x n]
  rfl
theorem tX{H:Hp}{t:Addr}{i j:Nat}(h:H t=some (.tup [.int (i:Int),.int (j:Int)])):∀ n:Nat,gP H (List.replicate n (V.ref t)) (List.replicate n (i,j))
 | 0=> .nil
 | n + 1=> .cons ⟨t,rfl,h⟩ (tX h n)
theorem Fl{σ:L2.St}{H:Hp}{Q:VK}(h:zN σ H Q):iQ x6 (ie 2) (iQ xK (oi (jd (zx (jd (ie 3) (jd (ie 5) jU))) jU)) (iQ (rk K) (oi (jd (tC (.int 0)) (jd (tC (.int 0)) (jd (tC (.int 0)) (jd (tC (.int 1)) (jd (tC (.int 2)) jU)))))) (iQ (rI (fun _ j=>0 < j) fun i j=> .int (i % j)) (ie 6) (tC (.int 5))))) σ H Q:=by
 obtain⟨g,i,j,c,xs,G,e2,e3,e5,e6,hg,hG,hl,kk⟩:=h
 have hz:(sizeLine:Nat)=16777216:=sizeLine_eq
 refine⟨_,e2,_,e3,_,e5,(by show 2<=sizeLine;omega),fun t ht=>⟨(by show 1<=sizeLine;omega),fun l J=>⟨(by show 5<=sizeLine;omega),fun m hm=>?_⟩⟩⟩
 have s1:d3 H (upd H t (.tup [.int i,.int j])):=eh ht
 have e1:upd H t (.tup [.int i,.int j]) t=some (.tup [.int i,.int j]):=d7
 generalize upd H t (.tup [.int i,.int j])=H1 at s1 e1 J hm ⊢
 have s2:d3 H1 (upd H1 l (.lst [.ref t])):=eh J
 have U:upd H1 l (.lst [.ref t]) l=some (.lst [.ref t]):=d7
 generalize upd H1 l (.lst [.ref t])=H2 at s2 U hm ⊢
 have s3:d3 H2 (upd H2 m (.lst [.int 0,.int 0,.int 0,.int 1,.int 2])):=eh hm
 have aa:upd H2 m (.lst [.int 0,.int 0,.int 0,.int 1,.int 2]) m=some (.lst [.int 0,.int 0,.int 0,.int 1,.int 2]):=d7
 generalize upd H2 m (.lst [.int 0,.int 0,.int 0,.int 1,.int 2])=H3 at s3 aa ⊢
 have c0:=Int.emod_nonneg c (show(5:Int)≠0 by decide)
 have c1:=Int.emod_lt_of_pos c (show(0:Int) < 5 by decide)
 obtain⟨n,hn,ab⟩:=zQ (c % 5).toNat (by omega)
 refine⟨_,e6,_,_,rfl,rfl,(by show(0:Int) < 5;decide),m,_,_,_,rfl,rfl,d4.of aa,(by rw [show c % 5=((c % 5).toNat:Int) by omega];exact ab),?_⟩
 refine⟨l,n,[.ref t],rfl,rfl,s3 _ _ U,by omega,by omega,(by show 1 * (n:Int).toNat<=sizeLine;omega),fun p hp=>?_⟩
 rw [Int.toNat_natCast,sI]
 have s4:d3 H3 (upd H3 p (.lst (List.replicate n (V.ref t)))):=eh hp
 have e4:upd H3 p (.lst (List.replicate n (V.ref t))) p=some (.lst (List.replicate n (V.ref t))):=d7
 generalize upd H3 p (.lst (List.replicate n (V.ref t)))=H4 at s4 e4 ⊢
 have I:=((s1.trans s2).trans s3).trans s4
 have ae:=Gn.Paired.len hG
 refine⟨g,p,xs,_,rfl,rfl,I _ _ hg,e4,(by rw [List.length_replicate];omega),fun q hq=>?_⟩
 refine kk n q _ _ hn (I.trans (eh hq)) (I.free hq) d7 ?_
 exact Gn.Paired.cat ((hG.same I).same (eh hq)) (tX (eh hq _ _ (s4 _ _ (s3 _ _ (s2 _ _ e1)))) n)
def wB(K:W.Frag):Sp:=fun vs H Q _=>∃(a l:Addr) (ns:List Int) (bs:List V) (gs:List (List (Str×Str))),vs=[.ref a,.ref l]/\d4 K H a (ns.map V.int)/\ns.length<=63/\H l=some (.lst bs)/\iZ H bs gs/\gs.length<=3/\(∀ ps∈gs,ps.length<=3)/\
 ∀ g xs G H',d3 H H'->H g=none->H' g=some (.lst xs)->gP H' xs G->(∀ p∈G,p.1 < gs.length/\p.2 < (gs.getD p.1 []).length)->G.length<=18->Q (.ref g) H'
theorem lR:eX ["_law_script","_law_groups","_law_gone_here","_law_place","_law_pairs_here","_law_number_here","_law_cell"] ["_law_script","_law_groups"] (er pM):=⟨rfl,rfl,rfl,dk,rfl,dk,dk⟩
seal eK PS PE PT PA PG PI eV eQ in
theorem CQ{f fn fc:Addr}{fd fdn fdc:FuncData}(D:Df K mg "_law_gone" pM f fd)(DN:Df K mg "_law_number" lN fn fdn)(GN:d8 P w K mg base eu 2 fn fdn ["_law_script","_law_k"] (rD K))(DC:Df K mg "_law_cell_at" lL fc fdc)(GC:d8 P w K mg base eu 1 fc fdc ["_law_script","_law_k"] (qR K))(T:Txt mg):d8 P w K mg base eu 3 f fd ["_law_script","_law_groups"] (wB K):=by
 have bN:=DN.F.binds (ps:=["_law_script","_law_k"]) fun _ _ _ _ _ _ us hl=>gG (fun _ _=>rfl) us hl
 have bC:=DC.F.binds (ps:=["_law_script","_law_k"]) fun _ _ _ _ _ _ us hl=>gG (fun _ _=>rfl) us hl
 refine D.F.ok lR (fun vs H Q E h=>?_) (fun cdv A outer s H vs Q E hr h=>?_)
 ·obtain⟨a,l,ns,bs,gs,rfl,_⟩:=h
  rfl
 ·obtain⟨a,l,ns,bs,gs,rfl,hS,aj,hL,af,az,ak,kk⟩:=h
  have hz:(sizeLine:Nat)=16777216:=sizeLine_eq
  have aA:=Gn.Paired.len af
  refine⟨_,(d6 (eE (i:=2) lR.nd rfl (Or.inl rfl) (fJ dZ))
   (d6 (fU PassesOwn.never rfl (kd rfl T.enum (dY (pv 1) dZ)) (iz (n:=2) rfl (gh (eO (i:=3) lR.nd rfl (Or.inl rfl)) (gh (eO (i:=4) lR.nd rfl (Or.inl rfl)) iC))) (d9 (fU PassesOwn.never rfl (iW rfl T.range (dY (fG gQ rfl T.len gf (dY (pv 4) dZ)) dZ)) (eO (i:=5) lR.nd rfl (Or.inl rfl)) (d6 (eE (i:=6) lR.nd rfl (Or.inl rfl) (eI (GN.mono (by decide)) hr rfl DN.m DN.F.kp bN .nil eM (dY (pv 0) (dY (ek fQ (ek fQ d5 (ek iD d5 (pv 3))) (pv 5)) dZ))))
   (d9 (eE (i:=2) lR.nd rfl (Or.inl rfl) (PE.imp (t':=zN) (ek jK (pv 2) (ek zt (fJ (dY (g8 (dY (pv 3) (dY (pv 5) dZ))) dZ)) (fb fS (fJ (dY d5 (dY d5 (dY d5 (dY d5 (dY d5 dZ)))))) (ek fY (pv 6) d5) (fun _ _=>rfl)))) fun _ _ _ h=>Fl h)))))))
   (d6 (oj (eY ig (ek fY (eI (GC.mono (by decide)) hr rfl DC.m DC.F.kp bC .nil eM (dY (pv 0) (dY d5 dZ))) d5) d5 (eZ _)) (d9 (gq (nE F.plainAttrs_list F.slot_list_reverse F.type_list_reverse Ci (pv 2)))) fB)
   (d9 (eG (pv 2)))))),?_⟩
  refine⟨Nat.zero_le _,fun q0 ab=>?_⟩
  refine⟨_,rfl,l,bs,rfl,eh ab _ _ hL,?_⟩
  refine kN (xs:=bs) (fun i σ H'=>∃(g:Addr) (xs:List V) (G:List (Nat×Nat)) (o3 o4 o5 o6:Option V),σ=[some (.ref a),some (.ref l),some (.ref g),o3,o4,o5,o6]/\d3 H H'/\H g=none/\H' g=some (.lst xs)/\gP H' xs G/\(∀ p∈G,p.1 < gs.length/\p.2 < (gs.getD p.1 []).length)/\G.length<=6 * i) ?_ ?_ ?_ ?_
  ·exact⟨q0,[],[],none,none,none,none,rfl,eh ab,ab,d7,.nil,(fun p hp=>nomatch hp),Nat.zero_le _⟩
  ·rintro i σ H' _ ⟨_,_,_,_,_,_,_,_,sm,_⟩
   exact sm _ _ hL
  ·rintro i x σ H' t hx ⟨g,xs,G,o3,o4,o5,o6,rfl,sm,hg,I,J,hok,hlen⟩ ht
   obtain⟨ps,ae,pa,xp,rfl,ao,aq⟩:=gK af hx
   have st:d3 H' (upd H' t (.tup [.int i,.ref pa])):=eh ht
   refine⟨t,_,rfl,eW.of d7,rfl,_,_,rfl,_,_,rfl,rfl,?_⟩
   generalize upd H' t (.tup [.int i,.ref pa])=H1 at st ⊢
   have ag:=sm.trans st
   have ar:=Gn.Paired.len aq
   rw [List.length_map] at ar
   have aB:=ak ps (List.mem_of_getElem? ae)
   have au:=(List.getElem?_eq_some_iff.mp ae).1
   have av:gs.getD i []=ps:=by rw [List.getD_eq_getElem?_getD,ae];rfl
   refine⟨_,rfl,pa,_,rfl,.inl (d4.of (ag _ _ ao)),xp.length,rfl,by omega,by omega,?_⟩
   refine jM (fun j σ H2=>∃(g:Addr) (xs:List V) (G:List (Nat×Nat)) (o5 o6:Option V),σ=[some (.ref a),some (.ref l),some (.ref g),some (.int i),some (.ref pa),o5,o6]/\d3 H H2/\H g=none/\H2 g=some (.lst xs)/\gP H2 xs G/\(∀ p∈G,p.1 < gs.length/\p.2 < (gs.getD p.1 []).length)/\G.length<=6 * i + 2 * j) ?_ ?_ ?_
   ·exact⟨g,xs,G,_,_,rfl,ag,hg,st _ _ I,J.same st,hok,by omega⟩
   ·rintro j σ H2 hj ⟨g,xs,G,o5,o6,rfl,U,hg,I,J,hok,hlen⟩
    have aC:j < xp.length:=hj
    rw [Int.zero_add]
    refine⟨_,rfl,_,rfl,_,_,rfl,rfl,(.inl ⟨by decide,by decide⟩),?_⟩
    refine⟨_,_,rfl,rfl,_,rfl,_,_,rfl,rfl,?_⟩
    refine⟨a,ns,40 + 5 * i + j,congrArg (fun z=>[V.ref a,V.int z]) (show(40 + 5 * (i:Int) + (j:Int))=((40 + 5 * i + j:Nat):Int) by omega),U.seq hS,aj,by omega,fun H3 s3=>?_⟩
    refine⟨g,i,j,_,xs,G,rfl,rfl,rfl,rfl,s3 _ _ I,J.same s3,by omega,fun n q aw H4 hn s4 hq ax ah=>?_⟩
    refine⟨q,aw,_,_,_,rfl,(U.trans s3).trans s4,(U.trans s3).free hq,ax,ah,fun p hp=>?_,by rw [List.length_append,List.length_replicate];omega⟩
    rcases List.mem_append.mp hp with hp | hp
    ·exact hok p hp
    ·rw [List.eq_of_mem_replicate hp]
     exact⟨au,by show j < (gs.getD i []).length;rw [av];omega⟩
   ·rintro σ H2 ⟨g,xs,G,o5,o6,rfl,U,hg,I,J,hok,hlen⟩
    have ay:G.length<=6 * i + 2 * xp.length:=hlen
    exact⟨g,xs,G,_,_,_,_,rfl,U,hg,I,J,hok,by omega⟩
  ·rintro σ H' ⟨g,xs,G,o3,o4,o5,o6,rfl,sm,hg,I,J,hok,hlen⟩
   refine⟨fun ai H2=>∃(xs:List V) (G:List (Nat×Nat)),ai=[some (.ref a),some (.ref l),some (.ref g),o3,o4,o5,o6]/\d3 H H2/\H2 g=some (.lst xs)/\gP H2 xs G/\(∀ p∈G,p.1 < gs.length/\p.2 < (gs.getD p.1 []).length)/\G.length<=18,?_,?_⟩
   ·refine⟨_,rfl,a,ns,3,rfl,sm.seq hS,fun c=>?_⟩
    refine⟨_,_,rfl,rfl,(by show(0:Int) < 2;decide),rfl,_,rfl,?_⟩
    have aa:G.length<=18:=by omega
    by_cases h1:c % 2=1
    ·rw [iy h1]
     refine eN ⟨_,rfl,.inl ⟨rfl,_,d4.of I⟩,g,xs,rfl,rfl,I,?_⟩
     have sb:SameBut g H' (upd H' g (.lst xs.reverse)):=fun b u e hb=>by rw [eC hb];exact e
     refine⟨xs.reverse,G.reverse,rfl,fun b u e=>sb _ _ (sm _ _ e) (fv e hg),d7,vE (J.but sb I),fun p hp=>hok p (List.mem_reverse.mp hp),by rw [List.length_reverse];exact aa⟩
    ·rw [jg h1]
     exact eD ⟨xs,G,rfl,sm,I,J,hok,aa⟩
   ·rintro ai H2 ⟨xs,G,rfl,U,I,J,hok,hlen⟩
    exact⟨_,rfl,kk g xs G H2 U hg I J hok hlen⟩
end
structure iA (ns : List Int) (gs : List (List (Str × Str))) : Prop where
 n : gs.length <= 3
 g : ∀ (i : Nat) ps, gs[i]? = some ps -> mV ns (3 * i) ps /\ ps.length <= 3
theorem flat_keys(q:Int):∀(gs:List (List (Str×Str))) (s:Nat),(∀(i:Nat) ps,gs[i]? =some ps->ps.length<=3/\∀(j:Nat) p,ps[j]? =some p->p.1=gX q (3 * (s + i) + j))->
  (gs.flatten.map (·.1)).Nodup/\∀ p∈gs.flatten,∃ m,3 * s<=m/\p.1=gX q m
 | [],_,_=>⟨List.nodup_nil,fun p hp=>nomatch hp⟩
 | x::r,s,h=>by
  obtain⟨h1,h2⟩:=h 0 x rfl
  obtain⟨n1,n2⟩:=flat_keys q r (s + 1) fun i ps hi=>by
   have:=h (i + 1) ps hi
   rwa [show s + (i + 1)=s + 1 + i by omega] at this
  have hx:∀ p∈x,∃ m,3 * s<=m/\m < 3 * s + 3/\p.1=gX q m:=fun p hp=>by
   obtain⟨j,I⟩:=List.getElem?_of_mem hp
   have aa:=(List.getElem?_eq_some_iff.mp I).1
   exact⟨3 * s + j,by omega,by omega,by have:=h2 j p I;rwa [Nat.add_zero] at this⟩
  have nx:(x.map (·.1)).Nodup:=by
   rw [List.Nodup,List.pairwise_iff_getElem]
   intro i j hi I ab e
   rw [List.length_map] at hi I
   rw [List.getElem_map,List.getElem_map,h2 i _ (List.getElem?_eq_getElem hi),h2 j _ (List.getElem?_eq_getElem I)] at e
   have:=uo e
   omega
  constructor
  ·show((x++r.flatten).map _).Nodup
   rw [List.map_append]
   refine List.nodup_append.mpr ⟨nx,n1,fun a ha b hb e=>?_⟩
   obtain⟨p,hp,rfl⟩:=List.mem_map.mp ha
   obtain⟨p',J,rfl⟩:=List.mem_map.mp hb
   obtain⟨m,a1,a2,U⟩:=hx p hp
   obtain⟨m',b1,b2⟩:=n2 p' J
   rw [U,b2] at e
   have:=uo e
   omega
  ·intro p hp
   have hp:p∈x++r.flatten:=hp
   rcases List.mem_append.mp hp with hp | hp
   ·obtain⟨m,a1,_,U⟩:=hx p hp
    exact⟨m,a1,U⟩
   ·obtain⟨m,b1,b2⟩:=n2 p hp
    exact⟨m,by omega,b2⟩
theorem wX{α:Type}{k:Nat}:∀{gs:List (List α)},(∀ ps∈gs,ps.length<=k)->gs.flatten.length<=gs.length * k
 | [],_=>Nat.zero_le _
 | x::r,h=>by
  have J:=wX (k:=k) (gs:=r) fun ps I=>h ps (List.mem_cons_of_mem _ I)
  have:=h x List.mem_cons_self
  show(x++r.flatten).length<=_
  rw [List.length_append,List.length_cons,Nat.succ_mul]
  omega
section
variable {ns : List Int} {gs : List (List (Str × Str))} {G : List (Nat × Nat)}
theorem iA.nd (h:iA ns gs):(gs.flatten.map (·.1)).Nodup:=(flat_keys (gW ns 9) gs 0 fun i ps hi=>by
 obtain⟨a,b⟩:=h.g i ps hi
 refine⟨b,fun j p I=>?_⟩
 rw [Nat.zero_add]
 exact a.k j p I).1
theorem iA.at (h:iA ns gs){ps:List (Str×Str)}(hp:ps∈gs):∃ f,mV ns f ps/\ps.length<=3:=by
 obtain⟨i,hi⟩:=List.getElem?_of_mem hp
 exact⟨_,h.g i ps hi⟩
theorem iA.len (h:iA ns gs):gs.flatten.length<=9:=by
 have:=wX (k:=3) (gs:=gs) fun ps I=>by
  obtain⟨_,_,q⟩:=h.at I
  exact q
 have:=h.n
 omega
theorem iA.few (h:iA ns gs):gJ (d0 gs.flatten)/\js (d0 gs.flatten):=by
 have l:=h.len
 have t:=xG (ps:=gs.flatten) (m:=6) fun p I=>by
  obtain⟨ps,h1,h2⟩:=List.mem_flatten.mp I
  obtain⟨_,q,_⟩:=h.at h1
  exact(q.t p h2).2.2
 refine Eb ?_ (by omega)
 show(gs.flatten.map _).length<=300
 rw [List.length_map]
 omega
theorem iA.good (h:iA ns gs){ps:List (Str×Str)}(hp:ps∈gs):jh ps:=by
 obtain⟨_,q,_⟩:=h.at hp
 exact q.good
theorem iA.w (h:iA ns gs)(ok:∀ p∈G,p.1 < gs.length/\p.2 < (gs.getD p.1 []).length)(hl:G.length<=18):g5 gs G:=by
 have l:=h.len
 refine⟨h.n,fun ps I=>h.good I,h.few.1,h.few.2,by omega,ok,?_,by omega⟩
 exact((oa G gs 0).map _).nodup h.nd
end
theorem zJ{α:Type}{x:α}:∀{l:List α} {i:Nat},l[i]? =some x->(x::l.eraseIdx i).Perm l
 | y::l,0,h=>by
  have:y=x:=Option.some.inj h
  rw [this]
  exact List.Perm.refl _
 | y::l,i + 1,h=>by
  show(x::y::l.eraseIdx i).Perm (y::l)
  exact(List.Perm.swap y x _).trans ((zJ (l:=l) (i:=i) h).cons y)
 | [],_,h=>by cases h
theorem GF{ns:List Int}{a t:List (Str×Str)}{r:List (List (Str×Str))}{x p0:Str×Str}{G:List (Nat×Nat)}{at_:Nat}{c:Nat×Nat}(h:iA ns (a::(x::t)::r))(hp:a[at_]? =some p0)
  (ok:∀ p∈G,p.1 < (a::(x::t)::r).length/\p.2 < ((a::(x::t)::r).getD p.1 []).length)(hl:G.length<=18)(hc:c=(0,at_)\/c=(1,0)):g5 (a::((p0.1,x.2)::t)::r) (G++[c]):=by
 have l:=h.len
 have n:=h.n
 have J:=h.nd
 have f1:(a::(x::t)::r).flatten=a++(x::(t++r.flatten)):=rfl
 have f2:(a::((p0.1,x.2)::t)::r).flatten=a++((p0.1,x.2)::(t++r.flatten)):=rfl
 have sub:(a++(t++r.flatten)).Sublist (a++(x::(t++r.flatten))):=(List.Sublist.refl a).append ((List.Sublist.refl _).cons x)
 have I:((a++(t++r.flatten)).map (·.1)).Nodup:=by
  rw [f1] at J
  exact(sub.map _).nodup J
 have U:p0∈a:=List.mem_of_getElem? hp
 have aa:=(List.getElem?_eq_some_iff.mp hp).1
 have et:d0 (a::((p0.1,x.2)::t)::r).flatten=d0 (a::(x::t)::r).flatten:=by
  rw [f1,f2,qW,qW]
  rfl
 refine⟨n,fun ps hps=>?_,by rw [et];exact h.few.1,by rw [et];exact h.few.2,?_,fun p hp'=>?_,?_,by rw [List.length_append];show G.length + 1<=100;omega⟩
 ·rcases List.mem_cons.mp hps with e | hps
  ·rw [e];exact h.good List.mem_cons_self
  ·rcases List.mem_cons.mp hps with e | hps
   ·subst e
    have gx:=h.good (ps:=x::t) (by simp)
    have ga:=h.good (ps:=a) List.mem_cons_self
    refine⟨fun p hp'=>?_,?_⟩
    ·rcases List.mem_cons.mp hp' with e | hp'
     ·rw [e]
      exact⟨(ga.g p0 U).1,(gx.g x List.mem_cons_self).2⟩
     ·exact gx.g p (List.mem_cons_of_mem _ hp')
    ·have nt:=(List.nodup_cons.mp gx.n).2
     refine List.nodup_cons.mpr ⟨fun hm=>?_,nt⟩
     rw [List.map_append,List.map_append] at I
     exact(List.nodup_append.mp I).2.2 p0.1 (List.mem_map.mpr ⟨p0,U,rfl⟩) p0.1 (List.mem_append_left _ hm) rfl
   ·exact h.good (by simp [hps])
 ·rw [f2,List.length_append,List.length_cons]
  rw [f1,List.length_append,List.length_cons] at l
  omega
 ·have el:∀ k:Nat,((a::((p0.1,x.2)::t)::r).getD k []).length=((a::(x::t)::r).getD k []).length:=fun k=>match k with
   | 0=>rfl
   | 1=>rfl
   | _ + 2=>rfl
  rcases List.mem_append.mp hp' with hp' | hp'
  ·have:=ok p hp'
   rw [el]
   exact this
  ·rw [List.mem_singleton.mp hp']
   rcases hc with e | e
   ·rw [e]
    exact⟨by show 0 < _ + 1;omega,aa⟩
   ·rw [e]
    exact⟨by show 1 < _ + 1 + 1;omega,by show 0 < _ + 1;omega⟩
 ·have mono:=xv (G1:=G++[c]) (G2:=[c]) (fun p hp'=>List.mem_append_right _ hp') (a::((p0.1,x.2)::t)::r) 0
  refine(mono.map _).nodup ?_
  rcases hc with e | e
  ·subst e
   have e1:kg [(0,at_)] 0 (a::((p0.1,x.2)::t)::r)=a.eraseIdx at_++((p0.1,x.2)::(t++r.flatten)):=by
    show kf _ 0 0 a++kg _ 1 (((p0.1,x.2)::t)::r)=_
    have k1:=t9 0 a 0 at_
    rw [Nat.zero_add] at k1
    rw [k1,tJ _ 1 fun i j hi z=>by
     have:=List.mem_singleton.mp z
     injection this
     omega]
    rfl
   rw [e1]
   have pm:(p0::a.eraseIdx at_).Perm a:=zJ hp
   have p2:((a.eraseIdx at_++((p0.1,x.2)::(t++r.flatten))).map (·.1)).Perm ((a++(t++r.flatten)).map (·.1)):=by
    have q1:((a.eraseIdx at_++((p0.1,x.2)::(t++r.flatten))).map (·.1))=((a.eraseIdx at_++(p0::(t++r.flatten))).map (·.1)):=by
     rw [List.map_append,List.map_append]
     rfl
    rw [q1]
    refine List.Perm.map _ (List.perm_middle.trans ?_)
    exact pm.append_right _
   exact p2.nodup_iff.mpr I
  ·subst e
   have e1:kg [(1,0)] 0 (a::((p0.1,x.2)::t)::r)=a++(t++r.flatten):=by
    show kf _ 0 0 a++(kf _ 1 0 ((p0.1,x.2)::t)++kg _ 2 r)=_
    rw [rm (fun j z=>by
     have:=List.mem_singleton.mp z
     injection this
     omega) a 0,t9 1 ((p0.1,x.2)::t) 0 0,tJ r 2 fun i j hi z=>by
     have:=List.mem_singleton.mp z
     injection this
     omega]
    rfl
   rw [e1]
   exact I
theorem sr{α β:Type}{F F':α->β->Prop}:∀{l:List α} {m:List β},Paired F l m->(∀ v x,v∈l->F v x->F' v x)->Paired F' l m
 | _,_,.nil,_=> .nil
 | _,_,.cons h t,i=> .cons (i _ _ List.mem_cons_self h) (sr t fun v x I=>i v x (List.mem_cons_of_mem _ I))
theorem p9:∀ ps:List (Str×Str),PyData.eqv (.list (ju ps)) (.list [])=decide (ps=[])
 | []=>rfl
 | p::ps=>by rw [decide_eq_false (by simp)];rfl
section
variable {P : Program} {w : World} {K : PySem.W.Frag} {mg : Str -> Option Value} {base : Heap}
def wG(K:W.Frag):Sp:=fun vs H Q _=>∃(a l g:Addr) (U:Hp) (ns:List Int) (bs xs:List V) (gs:List (List (Str×Str))) (G:List (Nat×Nat)),vs=[.ref a,.ref l,.ref g]/\d4 K U a (ns.map V.int)/\d3 U H/\(∀ b,V.ref b∈V.ref g::bs->U b=none)/\ns.length<=63/\H l=some (.lst bs)/\iZ H bs gs/\iA ns gs/\H g=some (.lst xs)/\gP H xs G/\
 (∀ p∈G,p.1 < gs.length/\p.2 < (gs.getD p.1 []).length)/\G.length<=18/\(V.ref g::V.ref l::bs).Nodup/\
 ∀ I J G' H',(∀ b u,H b=some u->V.ref b∉V.ref g::bs->H' b=some u)->H' l=some (.lst bs)->iZ H' bs J->H' g=some (.lst I)->gP H' I G'->g5 J G'->Q (.ref l) H'
theorem xZ:eX ["_law_script","_law_groups","_law_gone_here","_law_at"] ["_law_script","_law_groups","_law_gone_here"] (er p3):=⟨rfl,rfl,rfl,dk,rfl,dk,dk⟩
seal eK PS PE PT PA PG PI eV eQ in
theorem Hh{f fc:Addr}{fd fdc:FuncData}(D:Df K mg "_law_doubled" p3 f fd)(DC:Df K mg "_law_cell_at" lL fc fdc)(GC:d8 P w K mg base eu 1 fc fdc ["_law_script","_law_k"] (qR K))(T:Txt mg):d8 P w K mg base eu 2 f fd ["_law_script","_law_groups","_law_gone_here"] (wG K):=by
 have bC:=DC.F.binds (ps:=["_law_script","_law_k"]) fun _ _ _ _ _ _ us hl=>gG (fun _ _=>rfl) us hl
 refine D.F.ok xZ (fun vs H Q E h=>?_) (fun cdv A outer s H vs Q E hr h=>?_)
 ·obtain⟨a,l,g,Hs,ns,bs,xs,gs,G,rfl,_⟩:=h
  rfl
 ·obtain⟨a,l,g,Hs,ns,bs,xs,gs,G,rfl,aD,aE,aF,bh,hL,av,J,hg,aw,hok,aG,aU,kk⟩:=h
  have hz:(sizeLine:Nat)=16777216:=sizeLine_eq
  have hS:=aE.seq aD
  have aa:=Gn.Paired.len av
  have done:∀ H',d3 H H'->Q (.ref l) H':=fun H' s=>kk xs gs G H' (fun b u e _=>s _ _ e) (s _ _ hL) (av.same s) (s _ _ hg) (aw.same s) (J.w hok aG)
  refine⟨_,(d6 (fE (PW.pt (gU (eY jm (fG gQ rfl T.len gf (dY (pv 1) dZ)) d5 (eZ _)) (gU (eY (lV hr.units100) (fb fS (pv 1) d5 (fun _ _=>rfl)) (fJ dZ) (eZ _)) (gU (eY (lV hr.units100) (fb fS (pv 1) d5 (fun _ _=>rfl)) (fJ dZ) (eZ _)) (ip (eY ig (ek fY (eI GC hr rfl DC.m DC.F.kp bC .nil eM (dY (pv 0) (dY d5 dZ))) d5) d5 (eZ _))))))) (d9 (eG (pv 1))) fB)
   (d6 (eE (i:=3) xZ.nd rfl (Or.inl rfl) (ek fY (ek g9 (eI GC hr rfl DC.m DC.F.kp bC .nil eM (dY (pv 0) (dY d5 dZ))) d5) (fG gQ rfl T.len gf (dY (fb fS (pv 1) d5 (fun _ _=>rfl)) dZ))))
   (d6 (Gd (g8 (dY (fb iu (fb fS (fb fS (pv 1) d5 (fun _ _=>rfl)) (pv 3) (fun _ _=>rfl)) d5 (fun _ _=>rfl)) (dY (fb iu (fb fS (fb fS (pv 1) d5 (fun _ _=>rfl)) d5 (fun _ _=>rfl)) d5 (fun _ _=>rfl)) dZ))) (Es (fb fS (pv 1) d5 (fun _ _=>rfl)) d5 set_list))
   (d6 (gq (gj F.plainAttrs_list F.slot_list_append F.type_list_append gT (pv 2) (dY (fb fS (fJ (dY (g8 (dY d5 (dY (pv 3) dZ))) (dY (g8 (dY d5 (dY d5 dZ))) dZ))) (ek fY (ek g9 (eI GC hr rfl DC.m DC.F.kp bC .nil eM (dY (pv 0) (dY d5 dZ))) d5) d5) (fun _ _=>rfl)) dZ)))
   (d9 (eG (pv 1))))))),?_⟩
  refine⟨_,rfl,l,_,rfl,.inl (d4.of hL),_,_,rfl,rfl,_,rfl,?_⟩
  rcases gs with _ | ⟨pa,_ | ⟨pb,r⟩⟩
  ·rw [decide_eq_true (show((bs.length:Nat):Int) < 2 by rw [aa];decide)]
   exact eN (eN ⟨_,rfl,done _ (d3.refl _)⟩)
  ·rw [decide_eq_true (show((bs.length:Nat):Int) < 2 by rw [aa];show((1:Nat):Int) < 2;decide)]
   exact eN (eN ⟨_,rfl,done _ (d3.refl _)⟩)
  ·rw [decide_eq_false (show ¬ ((bs.length:Nat):Int) < 2 by rw [aa,List.length_cons,List.length_cons];omega)]
   obtain⟨b0,aH⟩:∃ b0,bs=b0::bs.tail:=by
    cases bs with
    | nil=>cases aa
    | cons x y=>exact⟨x,rfl⟩
   generalize bs.tail=ah at aH
   subst aH
   cases av with
   | cons hA aI=>
   obtain⟨b1,aJ⟩:∃ b1,ah=b1::ah.tail:=by
    cases ah with
    | nil=>cases aa
    | cons x y=>exact⟨x,rfl⟩
   generalize ah.tail=br at aJ
   subst aJ
   cases aI with
   | cons hB aK=>
   obtain⟨A0,xa,rfl,ai,aj⟩:=hA
   obtain⟨U,xb,rfl,ak,ax⟩:=hB
   have ga:=J.good (ps:=pa) List.mem_cons_self
   have gb:=J.good (ps:=pb) (by simp)
   refine eD ⟨_,rfl,l,_,_,_,rfl,rfl,d4.of hL,fC (j:=0) rfl,Nat.zero_le _,fun q1 aV=>?_⟩
   have s1:d3 H (upd H q1 (.lst [])):=eh aV
   have e1:upd H q1 (.lst []) q1=some (.lst []):=d7
   generalize upd H q1 (.lst [])=H1 at s1 e1 ⊢
   refine⟨.list (ju pa),.list [],.lst (d4.of (s1 _ _ ai)) (mF (aj.same s1)),.lst (d4.of e1) .nil,mI ga.g,rfl,(by have:=nQ pa;omega),_,rfl,?_⟩
   rw [p9]
   by_cases ay:pa=[]
   ·rw [decide_eq_true ay]
    exact eN (eN ⟨_,rfl,done _ s1⟩)
   rw [decide_eq_false ay]
   refine eD ⟨_,rfl,l,_,_,_,rfl,rfl,d4.of (s1 _ _ hL),fC (j:=1) rfl,Nat.zero_le _,fun q2 aW=>?_⟩
   have s2:d3 H1 (upd H1 q2 (.lst [])):=eh aW
   have e2:upd H1 q2 (.lst []) q2=some (.lst []):=d7
   generalize upd H1 q2 (.lst [])=H2 at s2 e2 ⊢
   have I:=s1.trans s2
   refine⟨.list (ju pb),.list [],.lst (d4.of (I _ _ ak)) (mF (ax.same I)),.lst (d4.of e2) .nil,mI gb.g,rfl,(by have:=nQ pb;omega),_,rfl,?_⟩
   rw [p9]
   by_cases az:pb=[]
   ·rw [decide_eq_true az]
    exact eN (eN ⟨_,rfl,done _ I⟩)
   rw [decide_eq_false az]
   refine eD ⟨_,rfl,a,ns,4,rfl,I.seq hS,fun c0=>?_⟩
   refine⟨_,_,rfl,rfl,(by show(0:Int) < 2;decide),rfl,_,rfl,?_⟩
   by_cases aL:c0 % 2=0
   ·rw [iy aL]
    exact eN ⟨_,rfl,done _ I⟩
   rw [jg aL]
   refine eD ?_
   have aX:=Gn.Paired.len aj
   rw [List.length_map] at aX
   have la:0 < pa.length:=by cases pa with
    | nil=>exact absurd rfl ay
    | cons _ _=>rw [List.length_cons];omega
   refine⟨_,rfl,a,ns,4,rfl,I.seq hS,fun c1=>?_⟩
   refine⟨_,_,rfl,rfl,⟨by decide,by decide⟩,_,rfl,l,_,_,_,rfl,rfl,d4.of (I _ _ hL),fC (j:=0) rfl,A0,_,rfl,.inl (d4.of (I _ _ ai)),_,_,rfl,rfl,(by show(0:Int) < ((xa.length:Nat):Int);omega),?_⟩
   have m0:=Int.emod_nonneg (c1 / 2) (show((xa.length:Nat):Int)≠0 by omega)
   have m1:=Int.emod_lt_of_pos (c1 / 2) (show(0:Int) < ((xa.length:Nat):Int) by omega)
   obtain⟨at_,aM⟩:∃ at_:Nat,c1 / 2 % ((xa.length:Nat):Int)=(at_:Int):=⟨(c1 / 2 % ((xa.length:Nat):Int)).toNat,by omega⟩
   rw [aM] at m1
   show jT 3 (V.int (c1 / 2 % ((xa.length:Nat):Int))) _ _ _
   rw [aM]
   obtain⟨p0,aN⟩:∃ p0,pa[at_]? =some p0:=⟨pa[at_]'(by omega),List.getElem?_eq_getElem (by omega)⟩
   obtain⟨v0,aY,t0,rfl,aZ⟩:=Gn.Paired.at aj (show(pa.map kp)[at_]? =some (kp p0) by rw [List.getElem?_map,aN];rfl)
   obtain⟨x,t,rfl⟩:∃ x t,pb=x::t:=by
    cases pb with
    | nil=>exact absurd rfl az
    | cons x t=>exact⟨x,t,rfl⟩
   obtain⟨u0,xt,rfl⟩:∃ u0 xt,xb=u0::xt:=by
    cases xb with
    | nil=>have:=Gn.Paired.len ax;cases this
    | cons x t=>exact⟨x,t,rfl⟩
   cases ax with
   | cons a0 a3=>
   obtain⟨w0,rfl,a4⟩:=a0
   have aO:=I _ _ hL
   refine⟨_,rfl,l,_,_,_,rfl,rfl,d4.of aO,fC (j:=0) rfl,_,rfl,A0,_,_,_,rfl,rfl,d4.of (I _ _ ai),fC aY,t0,_,_,_,rfl,rfl,eW.of (I _ _ aZ),fC (j:=0) rfl,?_⟩
   refine⟨_,rfl,l,_,_,_,rfl,rfl,d4.of aO,fC (j:=1) rfl,U,_,_,_,rfl,rfl,d4.of (I _ _ ak),fC (j:=0) rfl,w0,_,_,_,rfl,rfl,eW.of (I _ _ a4),fC (j:=1) rfl,?_⟩
   refine⟨(by show 2<=sizeLine;omega),fun tt a5=>?_⟩
   have s3:d3 H2 (upd H2 tt (.tup [.str p0.1,.str x.2])):=eh a5
   have e3:upd H2 tt (.tup [.str p0.1,.str x.2]) tt=some (.tup [.str p0.1,.str x.2]):=d7
   show uZ _ _ _ _ _ (upd H2 tt (.tup [.str p0.1,.str x.2])) _
   generalize upd H2 tt (.tup [.str p0.1,.str x.2])=H3 at s3 e3 ⊢
   have ab:=I.trans s3
   have ar:=ab _ _ ak
   refine⟨_,rfl,l,_,_,_,rfl,rfl,d4.of (ab _ _ hL),fC (j:=1) rfl,U,_,0,0,rfl,rfl,ar,(by unfold jL;rw [if_pos (by decide),if_pos (by rw [List.length_cons];omega)];rfl),?_⟩
   show qh _ _ _ _ (upd H3 U (.lst (.ref tt::xt)))
   have ae:SameBut U H3 (upd H3 U (.lst (.ref tt::xt))):=fun b u e hb=>by rw [eC hb];exact e
   have e4:upd H3 U (.lst (.ref tt::xt)) U=some (.lst (.ref tt::xt)):=d7
   generalize upd H3 U (.lst (.ref tt::xt))=H4 at ae e4 ⊢
   obtain⟨ao,a6⟩:=List.nodup_cons.mp aU
   obtain⟨p5,a7⟩:=List.nodup_cons.mp a6
   obtain⟨a8,a9⟩:=List.nodup_cons.mp a7
   obtain⟨ba,bj⟩:=List.nodup_cons.mp a9
   have au:g≠U:=fun z=>ao (by rw [z];simp)
   have aP:g≠A0:=fun z=>ao (by rw [z];simp)
   have bb:g≠l:=fun z=>ao (by rw [z];simp)
   have aQ:l≠U:=fun z=>p5 (by rw [z];simp)
   have aR:A0≠U:=fun z=>a8 (by rw [z];simp)
   have bc:∀{b:Addr} {u:HO},Hs b=some u->b≠U/\b≠g:=fun{b u} e=>⟨fun z=>(by rw [aF b (by rw [z];simp)] at e;cases e),fun z=>(by rw [aF b (by rw [z];simp)] at e;cases e)⟩
   have bf:d3 Hs H4:=fun b u e=>ae _ _ (ab _ _ (aE _ _ e)) (bc e).1
   have aA:=ae _ _ (ab _ _ hg) au
   refine⟨_,rfl,.inl ⟨rfl,_,d4.of aA⟩,_,rfl,(by show 2<=sizeLine;omega),fun t1 bg=>⟨(by show 2<=sizeLine;omega),fun t2 aS=>⟨(by show 2<=sizeLine;omega),fun m hm=>?_⟩⟩⟩
   have u1:d3 H4 (upd H4 t1 (.tup [.int 0,.int at_])):=eh bg
   have f1:upd H4 t1 (.tup [.int 0,.int at_]) t1=some (.tup [.int ((0:Nat):Int),.int (at_:Int)]):=d7
   generalize upd H4 t1 (.tup [.int 0,.int at_])=H5 at u1 f1 aS hm ⊢
   have u2:d3 H5 (upd H5 t2 (.tup [.int 1,.int 0])):=eh aS
   have f2:upd H5 t2 (.tup [.int 1,.int 0]) t2=some (.tup [.int ((1:Nat):Int),.int ((0:Nat):Int)]):=d7
   generalize upd H5 t2 (.tup [.int 1,.int 0])=H6 at u2 f2 hm ⊢
   have u3:d3 H6 (upd H6 m (.lst [.ref t1,.ref t2])):=eh hm
   have f3:upd H6 m (.lst [.ref t1,.ref t2]) m=some (.lst [.ref t1,.ref t2]):=d7
   generalize upd H6 m (.lst [.ref t1,.ref t2])=H7 at u3 f3 ⊢
   have af:=(u1.trans u2).trans u3
   have aB:=af _ _ aA
   have bo:=Gn.Paired.len aw
   have fin:∀(v:V) (c:Nat×Nat),(∃ t,v= .ref t/\H7 t=some (.tup [.int (c.1:Int),.int (c.2:Int)]))->(c=(0,at_)\/c=(1,0))->Q (.ref l) (upd H7 g (.lst (xs++[v]))):=fun v c hv hc=>by
    have ag:SameBut g H7 (upd H7 g (.lst (xs++[v]))):=fun b u e hb=>by rw [eC hb];exact e
    have e8:upd H7 g (.lst (xs++[v])) g=some (.lst (xs++[v])):=d7
    generalize upd H7 g (.lst (xs++[v]))=H8 at ag e8 ⊢
    have up:∀{b:Addr} {u:HO},H b=some u->b≠U->b≠g->H8 b=some u:=fun{b u} e n1 n2=>ag _ _ (af _ _ (ae _ _ (ab _ _ e) n1)) n2
    have aq:∀{b:Addr} {ts:List V},H b=some (.tup ts)->H8 b=some (.tup ts):=fun{b ts} e=>up e (fun z=>by rw [z,ak] at e;cases e) (fun z=>by rw [z,hg] at e;cases e)
    refine kk (xs++[v]) _ (G++[c]) H8 (fun b u e n=>up e (fun z=>n (by rw [z];simp)) (fun z=>n (by rw [z];simp))) (up hL aQ bb.symm) ?_ e8 ?_ (GF (x:=x) (t:=t) (p0:=p0) J aN hok aG hc)
    ·refine .cons ⟨A0,xa,rfl,up ai aR aP.symm,Gn.Paired.imp2 aj fun _ _ ⟨p,e,q⟩=>⟨p,e,aq q⟩⟩ (.cons ⟨U,.ref tt::xt,rfl,ag _ _ (af _ _ e4) au.symm,?_⟩ ?_)
     ·refine .cons ⟨tt,rfl,?_⟩ (Gn.Paired.imp2 a3 fun _ _ ⟨p,e,q⟩=>⟨p,e,aq q⟩)
      have h4:=ae _ _ e3 (fun z=>by rw [z,ar] at e3;cases e3)
      exact ag _ _ (af _ _ h4) fun z=>by rw [z,aA] at h4;cases h4
     ·refine sr aK fun v' ps aT ⟨b,ys,e,q1,q2⟩=>⟨b,ys,e,up q1 (fun z=>ba (by rw [<-z,<-e];exact aT)) (fun z=>ao (by rw [<-z,<-e];simp [aT])),Gn.Paired.imp2 q2 fun _ _ ⟨p,e,q⟩=>⟨p,e,aq q⟩⟩
    ·refine Gn.Paired.app (Gn.Paired.imp2 aw fun _ _ ⟨p,e,q⟩=>⟨p,e,aq q⟩) ?_
     obtain⟨t',rfl,aC⟩:=hv
     exact⟨t',rfl,ag _ _ aC fun z=>by rw [z,aB] at aC;cases aC⟩
   refine⟨_,rfl,a,ns,4,rfl,(bf.trans af).seq aD,fun c3=>?_⟩
   have k0:=Int.emod_nonneg (c3 / 8) (show(2:Int)≠0 by decide)
   have k1:=Int.emod_lt_of_pos (c3 / 8) (show(0:Int) < 2 by decide)
   refine⟨_,_,rfl,rfl,⟨by decide,by decide⟩,_,_,rfl,rfl,(by show(0:Int) < 2;decide),?_⟩
   by_cases hk:c3 / 8 % 2=0
   ·refine⟨m,_,_,.ref t1,rfl,rfl,d4.of f3,(by rw [hk];rfl),g,xs,_,rfl,rfl,aB,(by omega),?_⟩
    exact⟨_,rfl,fin (.ref t1) (0,at_) ⟨t1,rfl,u3 _ _ (u2 _ _ f1)⟩ (.inl rfl)⟩
   ·refine⟨m,_,_,.ref t2,rfl,rfl,d4.of f3,(by rw [show c3 / 8 % 2=1 by omega];rfl),g,xs,_,rfl,rfl,aB,(by omega),?_⟩
    exact⟨_,rfl,fin (.ref t2) (1,0) ⟨t2,rfl,u3 _ _ f2⟩ (.inr rfl)⟩
end
section
variable {P : Program} {w : World} {K : PySem.W.Frag} {mg : Str -> Option Value} {base : Heap} {C CWk CN CNo CW CK CT C2 : Addr}
theorem FA{H:Hp}{xs:List V}{G:List (Nat×Nat)}(h:gP H xs G):Paired (GV K H) xs (G.map gv):=by
 induction h with
 | nil=>exact .nil
 | cons r _ I=>
  obtain⟨t,rfl,q⟩:=r
  exact .cons (.two q ⟨_,.int _⟩ ⟨_,.int _⟩) I
theorem g5.no {gs:List (List (Str×Str))}{G:List (Nat×Nat)}(h:g5 gs G)(c:(G.map gv).all (jP (gs.map List.length))=false):False:=by
 rw [E5 h.ok] at c
 cases c
theorem g5.nd' {gs:List (List (Str×Str))}{G:List (Nat×Nat)}(h:g5 gs G):((kept (G.map gv) 0 gs).map (·.1)).Nodup:=by
 rw [lY G gs 0]
 exact h.nd
theorem um{H:Hp}{g:Addr}{xs:List V}{G:List (Nat×Nat)}(hg:H g=some (.lst xs))(h:gP H xs G)(hl:G.length<=100):q9 K H (.ref g) (G.map gv):= .inr ⟨g,xs,rfl,hg,FA h,by rw [Gn.Paired.len h];omega⟩
theorem vx(xs:List V):iU xs none (some 2)=xs.take 2:=vC xs 2
theorem zB(xs:List V):iU xs (some 2) none=xs.drop 2:=tL xs 2
theorem qj{α β:Type}{F:α->β->Prop}:∀{l:List α} {m:List β} (n:Nat),Paired F l m->Paired F (l.take n) (m.take n)
 | _,_,0,_=> .nil
 | _,_,n + 1,.nil=> .nil
 | _,_,n + 1,.cons h t=> .cons h (qj n t)
theorem rJ{α β:Type}{F:α->β->Prop}:∀{l:List α} {m:List β} (n:Nat),Paired F l m->Paired F (l.drop n) (m.drop n)
 | _,_,0,h=>h
 | _,_,n + 1,.nil=> .nil
 | _,_,n + 1,.cons _ t=>rJ n t
def yq(C:Addr):Sp:=fun vs H Q _=>∃(bl l g m:Addr) (n:Int) (bs I xs:List V) (gs:List (List (Str×Str))) (G:List (Nat×Nat)) (ws:List Str),vs=[.ref bl,.ref l,.ref g,.ref m,.int n]/\H bl=some (.lst bs)/\lQ C H bs gs/\H l=some (.lst I)/\iZ H I gs/\H g=some (.lst xs)/\gP H xs G/\g5 gs G/\
 H m=some (.lst (sl ws))/\0 < ws.length/\ws.length<=10/\(∀ z∈ws,Wm z)/\∀ H',d3 H H'->Q (.bl true) H'
theorem mQ:eX ["_law_books","_law_groups","_law_gone_here","_law_menu_here","_law_turn","_law_some","_law_first","_law_left_here","_law_last","_law_both"] ["_law_books","_law_groups","_law_gone_here","_law_menu_here","_law_turn"] (er lK):=⟨rfl,rfl,rfl,dk,rfl,dk,dk⟩
seal eK PS PE PT PA PG PI eV eQ in
theorem Ce{f fPo fLf fTl:Addr}{fd fdPo fdLf fdTl:FuncData}(D:Df K mg "_law_two_steps" lK f fd)(DPo:ir K mg "poured" nX fPo fdPo #[.none])(GPo:d8 P w K mg base (eP P w) 10 fPo fdPo ["books","gone"] (uP K C CN CW))
  (DLf:Df K mg "_law_left" ma fLf fdLf)(GLf:d8 P w K mg base eu 1 fLf fdLf ["_law_groups","_law_gone_here"] ug)(DTl:Df K mg "_law_tells" nC fTl fdTl)(GTl:d8 P w K mg base eu 9 fTl fdTl ["_law_book","_law_pairs_here","_law_menu_here","_law_turn"] (ua C))(T:Txt mg):
  d8 P w K mg base eu 11 f fd ["_law_books","_law_groups","_law_gone_here","_law_menu_here","_law_turn"] (yq C):=by
 have aK:=DPo.binds (ps:=["books","gone"]) (ds:=[]) fun T kV doc pm an cdv ct us hl=>match us,(show us.length=2 by simpa using hl) with | [_,_],_=>⟨_,rfl,rfl⟩
 have aL:=DLf.F.binds (ps:=["_law_groups","_law_gone_here"]) fun _ _ _ _ _ _ us hl=>gG (fun _ _=>rfl) us hl
 have aM:=DTl.F.binds (ps:=["_law_book","_law_pairs_here","_law_menu_here","_law_turn"]) fun _ _ _ _ _ _ us hl=>match us,hl with | [_,_,_,_],_=>rfl
 refine D.F.ok mQ (fun vs H Q E h=>?_) (fun cdv A outer s H vs Q E hr h=>?_)
 ·obtain⟨bl,l,g,m,n,bs,I,xs,gs,G,ws,rfl,_⟩:=h
  rfl
 ·obtain⟨bl,l,g,m,n,bs,I,xs,gs,G,ws,rfl,aN,ay,hL,az,hg,aA,hW,hM,aO,aj,aP,kk⟩:=h
  have hz:(sizeLine:Nat)=16777216:=sizeLine_eq
  have aQ:=Gn.Paired.len aA
  have bI:=hW.gl
  have bJ:=hW.n
  refine⟨_,(d6 (oP (i:=5) mQ.nd rfl (Or.inl rfl) (own:=1) (caps:=[]) (N:=["_law_one"]) (N0:=["_law_books","_law_groups","_law_gone_here","_law_menu_here","_law_turn","_law_some","_law_first","_law_left_here","_law_last","_law_both"]) (sc0:=er lK) rfl (gu (pv 2)) (fun _ _ _=>eO (i:=0) qm rfl (Or.inl rfl)) (fun _ _ _=>lX (eY jm (fb (p6 (K:=K) rfl) (pv 0) d5 (fun _ _=>rfl)) d5 (eZ _))) (fun _ _ _=>pv 0) (gD (by decide)) rfl rfl
    dk rfl dk dk rfl dk (fun _ _ _ h=>h))
   (d6 (eE (i:=6) mQ.nd rfl (Or.inl rfl) (eI GPo hr rfl DPo.m DPo.kp aK .nil hV (dY (g7 kB (pv 0) iq (gR d5)) (dY (pv 5) dZ))))
   (d6 (eE (i:=7) mQ.nd rfl (Or.inl rfl) (eI (GLf.mono (by decide)) hr rfl DLf.m DLf.F.kp aL .nil eM (dY (g7 kB (pv 1) iq (gR d5)) (dY (pv 5) dZ))))
   (d6 (fE (gH (gC (eI (GTl.mono (by decide)) hr rfl DTl.m DTl.F.kp aM .nil eM (dY (pv 6) (dY (pv 7) (dY (pv 3) (dY (pv 4) dZ))))))) (d9 (eG gM)) fB)
   (d6 (oP (i:=8) mQ.nd rfl (Or.inl rfl) (own:=1) (caps:=[]) (N:=["_law_one"]) (N0:=["_law_books","_law_groups","_law_gone_here","_law_menu_here","_law_turn","_law_some","_law_first","_law_left_here","_law_last","_law_both"]) (sc0:=er lK) rfl (gu (pv 2)) (fun _ _ _=>eO (i:=0) qm rfl (Or.inl rfl)) (fun _ _ _=>lX (eY ig (fb (p6 (K:=K) rfl) (pv 0) d5 (fun _ _=>rfl)) d5 (eZ _))) (fun _ _ _=>g8 (dY d5 (dY (fb (p6 (K:=K) rfl) (pv 0) d5 (fun _ _=>rfl)) dZ))) (gD (by decide)) rfl rfl
    dk rfl dk dk rfl dk (fun _ _ _ h=>h))
   (d6 (eE (i:=9) mQ.nd rfl (Or.inl rfl) (eI GPo hr rfl DPo.m DPo.kp aK .nil hV (dY (ek jK (fJ (dY (pv 6) dZ)) (g7 kB (pv 0) (gR d5) iq)) (dY (pv 8) dZ))))
   (d9 (eG (eI (GTl.mono (by decide)) hr rfl DTl.m DTl.F.kp aM .nil eM (dY (pv 9) (dY (eI (GLf.mono (by decide)) hr rfl DLf.m DLf.F.kp aL .nil eM (dY (ek jK (fJ (dY (pv 7) dZ)) (g7 kB (pv 1) (gR d5) iq)) (dY (pv 8) dZ))) (dY (pv 3) (dY (ek g9 (pv 4) d5) dZ))))))))))))),?_⟩
  have h2:=hW.two
  have hb:=hW.both
  obtain⟨e1,e2⟩:=ui (G:=G) hW.n
  generalize bg:(G.filter fun p=>decide (p.1 < 2))=So at h2 hb e1 e2
  generalize bh:((G.filter fun p=>decide (p.1=2)).map fun p=>(1,p.2))=La at hb e2
  refine⟨_,rfl,g,rfl,⟨_,d4.of hg⟩,?_⟩
  refine iL (xs:=xs) (fun i ys H'=>H=H'/\gP H ys ((G.take i).filter fun p=>decide (p.1 < 2))) (by omega) (fun i ys H' q=>by rw [<-q.1];exact d4.of hg) ⟨rfl,.nil⟩ ?_ ?_
  ·rintro i v ys H' N hv ⟨rfl,hY⟩ hN
   obtain⟨p,hp,t,rfl,ht⟩:=gK aA hv
   have tk:(G.take (i + 1)).filter (fun p=>decide (p.1 < 2))=(G.take i).filter (fun p=>decide (p.1 < 2))++(if p.1 < 2 then [p] else []):=by
    rw [take_snoc hp,List.filter_append,List.filter_cons]
    by_cases q:p.1 < 2
    ·rw [if_pos q,decide_eq_true q,if_pos rfl]
     rfl
    ·rw [if_neg q,decide_eq_false q,if_neg (by decide)]
     rfl
   refine⟨_,rfl,t,_,_,_,rfl,rfl,eW.of ht,fC (j:=0) rfl,_,_,rfl,rfl,_,rfl,?_⟩
   by_cases q:p.1 < 2
   ·rw [decide_eq_true (show(p.1:Int) < 2 by omega)]
    rw [if_pos q] at tk
    exact eN ⟨_,rfl,hN _ _ ⟨rfl,by rw [tk];exact Gn.Paired.app hY ⟨t,rfl,ht⟩⟩⟩
   ·rw [decide_eq_false (show ¬ (p.1:Int) < 2 by omega)]
    rw [if_neg q,List.append_nil] at tk
    exact eD (hN _ _ ⟨rfl,by rw [tk];exact hY⟩)
  ·rintro ys H' ⟨rfl,hY⟩ _ so bj
   rw [aQ,List.take_length,bg] at hY
   have s1:d3 H (upd H so (.lst ys)):=eh bj
   have aB:upd H so (.lst ys) so=some (.lst ys):=d7
   generalize upd H so (.lst ys)=H1 at s1 aB ⊢
   refine⟨_,rfl,2,rfl,bl,_,rfl,d4.of (s1 _ _ aN),fun b2 bo=>?_⟩
   rw [vx]
   have s2:d3 H1 (upd H1 b2 (.lst (bs.take 2))):=eh bo
   have aR:upd H1 b2 (.lst (bs.take 2)) b2=some (.lst (bs.take 2)):=d7
   generalize upd H1 b2 (.lst (bs.take 2))=H2 at s2 aR ⊢
   have aS:=s1.trans s2
   refine⟨_,rfl,b2,.ref so,_,gs.take 2,So.map gv,rfl,aR,qj 2 (ay.same aS),h2.good,h2.few,h2.fewW,Nat.le_trans h2.n (by decide),um (s2 _ _ aB) ((hY.same s1).same s2) h2.gl,fun c=>(h2.no c).elim,fun _ _ x H3 s3 hx aC _=>?_,fun _ c=>absurd h2.nd' c⟩
   rw [lY] at aC
   have aT:=aS.trans s3
   have bp:=s2.trans s3
   refine⟨_,rfl,2,rfl,l,_,rfl,d4.of (aT _ _ hL),fun g2 bq=>?_⟩
   rw [vx]
   have s4:d3 H3 (upd H3 g2 (.lst (I.take 2))):=eh bq
   have aU:upd H3 g2 (.lst (I.take 2)) g2=some (.lst (I.take 2)):=d7
   generalize upd H3 g2 (.lst (I.take 2))=H4 at s4 aU ⊢
   have aV:=aT.trans s4
   have aW:=bp.trans s4
   have l2:=h2.l
   have n2:=h2.n
   refine⟨_,rfl,g2,so,_,ys,gs.take 2,So,rfl,aU,qj 2 (az.same aV),by omega,by omega,aW _ _ aB,(hY.same s1).same aW,fun lf zs H5 s5 bK aX aY=>?_⟩
   have aZ:=aV.trans s5
   refine⟨_,rfl,_,rfl,_,rfl,_,rfl,x,lf,m,n,zs,_,ws,rfl,aC.same (s4.trans s5),h2.left,aX,aY,aZ _ _ hM,aO,aj,aP,fun H6 s6=>⟨_,rfl,eD ?_⟩⟩
   have aD:=aZ.trans s6
   have a0:=aD _ _ hg
   refine⟨_,rfl,g,rfl,⟨_,d4.of a0⟩,?_⟩
   refine iL (xs:=xs) (fun i J H'=>d3 H6 H'/\gP H' J (((G.take i).filter fun p=>decide (p.1=2)).map fun p=>(1,p.2))) (by omega) (fun i J H' q=>d4.of (q.1 _ _ a0)) ⟨d3.refl _,.nil⟩ ?_ ?_
   ·rintro i v J H' N hv ⟨sm,ab⟩ hN
    obtain⟨p,hp,t,rfl,ht⟩:=gK aA hv
    have tk:((G.take (i + 1)).filter (fun p=>decide (p.1=2))).map (fun p=>((1:Nat),p.2))=((G.take i).filter (fun p=>decide (p.1=2))).map (fun p=>((1:Nat),p.2))++(if p.1=2 then [(1,p.2)] else []):=by
     rw [take_snoc hp,List.filter_append,List.map_append,List.filter_cons]
     by_cases q:p.1=2
     ·rw [if_pos q,decide_eq_true q,if_pos rfl]
      rfl
     ·rw [if_neg q,decide_eq_false q,if_neg (by decide)]
      rfl
    have a3:=sm _ _ (aD _ _ ht)
    refine⟨_,rfl,t,_,_,_,rfl,rfl,eW.of a3,fC (j:=0) rfl,rfl,_,rfl,?_⟩
    by_cases q:p.1=2
    ·rw [iy (show(p.1:Int)=2 by omega)]
     rw [if_pos q] at tk
     refine eN ⟨_,rfl,t,_,_,_,rfl,rfl,eW.of a3,fC (j:=1) rfl,(by show 2<=sizeLine;omega),fun t2 br=>?_⟩
     have st:d3 H' (upd H' t2 (.tup [.int 1,.int p.2])):=eh br
     refine hN _ _ ⟨sm.trans st,?_⟩
     rw [tk]
     exact Gn.Paired.app (ab.same st) ⟨t2,rfl,d7⟩
    ·rw [jg (show ¬ (p.1:Int)=2 by omega)]
     rw [if_neg q,List.append_nil] at tk
     exact eD (hN _ _ ⟨sm,by rw [tk];exact ab⟩)
   ·rintro J H' ⟨sm,ab⟩ _ la bt
    rw [aQ,List.take_length,bh] at ab
    have s7:d3 H' (upd H' la (.lst J)):=eh bt
    have aE:upd H' la (.lst J) la=some (.lst J):=d7
    have aF:=ab.same s7
    generalize upd H' la (.lst J)=H7 at s7 aE aF ⊢
    have aG:=sm.trans s7
    have a4:=aD.trans aG
    have bu:=((s4.trans s5).trans s6).trans aG
    refine⟨_,rfl,(by show 1<=sizeLine;omega),fun o1 bw=>?_⟩
    have s8:d3 H7 (upd H7 o1 (.lst [.ref x])):=eh bw
    have a5:upd H7 o1 (.lst [.ref x]) o1=some (.lst [.ref x]):=d7
    generalize upd H7 o1 (.lst [.ref x])=H8 at s8 a5 ⊢
    refine⟨_,rfl,2,rfl,bl,_,rfl,d4.of (s8 _ _ (a4 _ _ aN)),fun b3 bx=>?_⟩
    rw [zB]
    have s9:d3 H8 (upd H8 b3 (.lst (bs.drop 2))):=eh bx
    have a6:upd H8 b3 (.lst (bs.drop 2)) b3=some (.lst (bs.drop 2)):=d7
    generalize upd H8 b3 (.lst (bs.drop 2))=H9 at s9 a6 ⊢
    have bL:=Gn.Paired.len ay
    refine⟨o1,b3,_,_,rfl,rfl,s9 _ _ a5,a6,(by rw [List.length_drop];show 1 + _<=sizeLine;omega),fun bb bz=>?_⟩
    have a7:d3 H9 (upd H9 bb (.lst ([.ref x]++bs.drop 2))):=eh bz
    have a8:upd H9 bb (.lst ([.ref x]++bs.drop 2)) bb=some (.lst (.ref x::bs.drop 2)):=d7
    generalize upd H9 bb (.lst ([.ref x]++bs.drop 2))=bM at a7 a8 ⊢
    have aa:=(s8.trans s9).trans a7
    have ak:=bu.trans aa
    have ao:=a4.trans aa
    refine⟨_,rfl,bb,.ref la,_,kg So 0 (gs.take 2)::gs.drop 2,La.map gv,rfl,a8,.cons ⟨x,rfl,aC.same ak⟩ (rJ 2 (ay.same ao)),hb.good,hb.few,hb.fewW,Nat.le_trans hb.n (by decide),um (aa _ _ aE) (aF.same aa) hb.gl,fun c=>(hb.no c).elim,fun _ _ y ag aH hy aq _=>?_,fun _ c=>absurd hb.nd' c⟩
    rw [lY] at aq
    have bH:=ak.trans aH
    have ar:=aa.trans aH
    have au:=ao.trans aH
    have a9:=(s6.trans aG).trans ar
    refine⟨_,rfl,_,rfl,(by show 1<=sizeLine;omega),fun o2 bA=>?_⟩
    have aI:d3 ag (upd ag o2 (.lst [.ref lf])):=eh bA
    have ba:upd ag o2 (.lst [.ref lf]) o2=some (.lst [.ref lf]):=d7
    generalize upd ag o2 (.lst [.ref lf])=ah at aI ba ⊢
    refine⟨_,rfl,2,rfl,l,_,rfl,d4.of (aI _ _ (au _ _ hL)),fun g3 bB=>?_⟩
    rw [zB]
    have ae:d3 ah (upd ah g3 (.lst (I.drop 2))):=eh bB
    have bc:upd ah g3 (.lst (I.drop 2)) g3=some (.lst (I.drop 2)):=d7
    generalize upd ah g3 (.lst (I.drop 2))=ai at ae bc ⊢
    have bN:=Gn.Paired.len az
    refine⟨o2,g3,_,_,rfl,rfl,ae _ _ ba,bc,(by rw [List.length_drop];show 1 + _<=sizeLine;omega),fun gg bC=>?_⟩
    have av:d3 ai (upd ai gg (.lst ([.ref lf]++I.drop 2))):=eh bC
    have bf:upd ai gg (.lst ([.ref lf]++I.drop 2)) gg=some (.lst (.ref lf::I.drop 2)):=d7
    generalize upd ai gg (.lst ([.ref lf]++I.drop 2))=bO at av bf ⊢
    have U:=(aI.trans ae).trans av
    have aw:=a9.trans U
    have af:=au.trans U
    have ax:=ar.trans U
    have lb:=hb.l
    have nb:=hb.n
    refine⟨_,rfl,gg,la,_,J,kg So 0 (gs.take 2)::gs.drop 2,La,rfl,bf,.cons ⟨lf,zs,rfl,aw _ _ aX,aY.same aw⟩ (rJ 2 (az.same af)),by omega,by omega,ax _ _ aE,aF.same ax,fun lg bD bP aJ bQ bE bF=>?_⟩
    refine⟨_,rfl,_,rfl,_,_,rfl,rfl,⟨by decide,by decide⟩,y,lg,m,_,bD,_,ws,rfl,aq.same (U.trans aJ),hb.left,bE,bF,(af.trans aJ) _ _ hM,aO,aj,aP,fun bR bG=>kk _ ((af.trans aJ).trans bG)⟩
end
theorem D9:(["_law_pairs_here"]:List Str).Nodup:=dk
theorem G0:Wm (Str.ofString "q")/\Wm (Str.ofString "z")/\Wm (Str.ofString "p"):=⟨⟨dk,dk,dk⟩,⟨dk,dk,dk⟩,⟨dk,dk,dk⟩⟩
theorem qN{c:Int}(h:fM c≠[]):c=1\/c=2:=by
 by_cases h1:c=1
 ·exact .inl h1
 ·by_cases h2:c=2
  ·exact .inr h2
  ·exact absurd (by unfold fM;rw [if_neg h1,if_neg h2]) h
theorem rz(c:Int):ka (fM c):=by
 by_cases h:fM c=[]
 ·rw [h]
  exact⟨⟨(fun p I=>nomatch I),List.nodup_nil⟩,⟨Nat.zero_le _,Nat.zero_le _⟩,⟨[],by decide,(fun ws hw=>nomatch hw)⟩,Nat.zero_le _⟩
 ·rcases qN h with rfl | rfl
  ·have U:fM 1=[(Str.ofString "long",qS)]:=rfl
   rw [U]
   have q1:=zc.1
   refine⟨⟨fun p I=>?_,by simp⟩,⟨by show 1<=300;decide,?_⟩,⟨[Str.ofString "q",Str.ofString "z"],by decide,fun ws hw x J=>?_⟩,by show 1<=150;decide⟩
   ·rw [List.mem_singleton.mp I]
    exact⟨wx.2,wx.1⟩
   ·show(tw qS).length + 0<=330
    omega
   ·have hw:ws∈[tw qS]:=hw
    rw [List.mem_singleton.mp hw] at J
    rcases zc.2 x J with e' | e'<;>rw [e']<;>simp
  ·have U:fM 2=(List.range 140).map jw:=rfl
   rw [U]
   have hl:(d0 ((List.range 140).map jw)).length=140:=by unfold d0;simp
   have ht:=xG (m:=2) fun p I=>(zE p I).1
   rw [List.length_map,List.length_range] at ht
   refine⟨BP,⟨by omega,by omega⟩,⟨[Str.ofString "p",Str.ofString "z"],by decide,fun ws hw x J=>?_⟩,by simp⟩
   obtain⟨p,I,rfl⟩:=List.mem_map.mp hw
   rcases(zE p I).2 x J with e | e<;>rw [e]<;>simp
theorem Dk{c:Int}{n j:Nat}(h:fM c≠[])(hn:n=(c - 1).toNat)(hj:j < 70):g5 [(fM c).take 70,(fM c).drop 70] (List.replicate n (0,j)):=by
 have I:=rz c
 have U:[(fM c).take 70,(fM c).drop 70].flatten=fM c:=by
  show(fM c).take 70++((fM c).drop 70++[])=_
  rw [List.append_nil,List.take_append_drop]
 refine⟨(by show 2<=3;decide),fun ps aa=>?_,by rw [U];exact I.f,by rw [U];exact I.w,by rw [U];exact I.l,fun p hm=>?_,?_,?_⟩
 ·rcases List.mem_cons.mp aa with e | e
  ·rw [e]
   exact⟨fun p J=>I.g.g p (List.mem_of_mem_take J),((List.take_sublist 70 _).map _).nodup I.g.n⟩
  ·rw [List.mem_singleton.mp e]
   exact⟨fun p J=>I.g.g p (List.mem_of_mem_drop J),((List.drop_sublist 70 _).map _).nodup I.g.n⟩
 ·rw [List.eq_of_mem_replicate hm]
  refine⟨by show 0 < 2;decide,?_⟩
  show j < ((fM c).take 70).length
  rcases qN h with rfl | rfl
  ·rw [show n=0 by rw [hn];rfl] at hm
   cases hm
  ·have:(fM 2).length=140:=by show((List.range 140).map jw).length=140;simp
   rw [List.length_take,this]
   omega
 ·have:=oa (List.replicate n (0,j)) [(fM c).take 70,(fM c).drop 70] 0
  rw [U] at this
  exact(this.map _).nodup I.g.n
 ·rw [List.length_replicate]
  rcases qN h with rfl | rfl<;>rw [hn]<;>decide
theorem DE:∀ G:List (Nat×Nat),PyData.eqv (.list (dG G)) (.list [])=decide (G=[])
 | []=>rfl
 | p::G=>by rw [decide_eq_false (by simp)];rfl
theorem Ft(xs:List V):iU xs none (some 70)=xs.take 70:=vC xs 70
theorem Av(xs:List V):iU xs (some 70) none=xs.drop 70:=tL xs 70
theorem iZ.mem {H:Hp}{vs:List V}{gs:List (List (Str×Str))}(h:iZ H vs gs){b:Addr}(hb:V.ref b∈vs):∃ u,H b=some u:=by
 obtain⟨i,hi⟩:=List.getElem?_of_mem hb
 obtain⟨ps,_,a,xs,e,q,_⟩:=gK h hi
 injection e with e
 exact⟨_,by rw [e];exact q⟩
def Em(K:W.Frag):TE:=fun σ H Q=>∃(a l I:Addr) (ns:List Int) (c:Int) (bs J:List V) (gs:List (List (Str×Str))),σ[0]? =some (some (.ref a))/\σ[2]? =some (some (.ref l))/\σ[4]? =some (some (.int c))/\σ[5]? =some (some (.ref I))/\d4 K H a (ns.map V.int)/\ns.length<=63/\H l=some (.lst bs)/\iZ H bs gs/\H I=some (.lst J)/\fX H J ((fM c).map kp)/\
 (fM c=[]->iA ns gs)/\(fM c≠[]->gs=[(fM c).take 70,(fM c).drop 70])/\
 ∀ g xs G H',d3 H H'->H g=none->H' g=some (.lst xs)->gP H' xs G->(fM c=[]->(∀ p∈G,p.1 < gs.length/\p.2 < (gs.getD p.1 []).length)/\G.length<=18)->(fM c≠[]->g5 gs G)->Q (.ref g) H'
section
variable {P : Program} {w : World} {K : PySem.W.Frag} {mg : Str -> Option Value} {base : Heap} {C CWk CN CNo CW CK CT C2 : Addr}
def mZ(K:W.Frag):Sp:=fun vs H Q _=>∃(a:Addr) (ns:List Int),vs=[.ref a]/\d4 K H a (ns.map V.int)/\ns.length<=63/\∀ H',Q (.bl true) H'
theorem iN:eX ["_law_script","_law_menu_here","_law_groups","_law_k","_law_kind","_law_far","_law_gone_here","_law_books","_law_turn","_law_handed","_law_book"] ["_law_script"] (er jB):=⟨rfl,rfl,rfl,dk,rfl,dk,dk⟩
set_option maxHeartbeats 8000000 in
seal eK PS PE PT PA PG PI eV eQ in
theorem Er{f fMe fNu fPa fCe fFa fTl fi fGn fLf fDb fTw fPo:Addr}{fd fdMe fdNu fdPa fdCe fdFa fdTl fdi fdGn fdLf fdDb fdTw fdPo:FuncData}(D:Df K mg "law" jB f fd)(T:Txt mg)(M:rH P w K mg base C CWk CN CNo CW)
  (DMe:Df K mg "_law_menu" mi fMe fdMe)(GMe:d8 P w K mg base eu 2 fMe fdMe ["_law_number_here"] yR)
  (DNu:Df K mg "_law_number" lN fNu fdNu)(GNu:d8 P w K mg base eu 2 fNu fdNu ["_law_script","_law_k"] (rD K))
  (DPa:Df K mg "_law_pairs" og fPa fdPa)(GPa:d8 P w K mg base eu 3 fPa fdPa ["_law_script","_law_first","_law_many","_law_menu_here"] (vI K))
  (DCe:Df K mg "_law_cell_at" lL fCe fdCe)(GCe:d8 P w K mg base eu 1 fCe fdCe ["_law_script","_law_k"] (qR K))
  (DFa:Df K mg "_law_far_pairs" m3 fFa fdFa)(GFa:d8 P w K mg base eu 1 fFa fdFa ["_law_kind"] vF)
  (DTl:Df K mg "_law_tells" nC fTl fdTl)(GTl:d8 P w K mg base eu 9 fTl fdTl ["_law_book","_law_pairs_here","_law_menu_here","_law_turn"] (ua C))
  (FI:kR K "__init__" "Book.__init__" jW fi fdi #[.none])(MB:L2.Mk K C fi)(GI:d8 P w K mg base (eP P w) 8 fi fdi ["self","pairs","rows"] (qf K C CK CT C2))
  (DGn:Df K mg "_law_gone" pM fGn fdGn)(GGn:d8 P w K mg base eu 3 fGn fdGn ["_law_script","_law_groups"] (wB K))
  (DLf:Df K mg "_law_left" ma fLf fdLf)(GLf:d8 P w K mg base eu 1 fLf fdLf ["_law_groups","_law_gone_here"] ug)
  (DDb:Df K mg "_law_doubled" p3 fDb fdDb)(GDb:d8 P w K mg base eu 2 fDb fdDb ["_law_script","_law_groups","_law_gone_here"] (wG K))
  (DTw:Df K mg "_law_two_steps" lK fTw fdTw)(GTw:d8 P w K mg base eu 11 fTw fdTw ["_law_books","_law_groups","_law_gone_here","_law_menu_here","_law_turn"] (yq C))
  (DPo:ir K mg "poured" nX fPo fdPo #[.none])(GPo:d8 P w K mg base (eP P w) 10 fPo fdPo ["books","gone"] (uP K C CN C2)):d8 P w K mg base eu 12 f fd ["_law_script"] (mZ K):=by
 have cG:=fN (p:="_law_number_here") DMe.F fun _ _ _ _ _ _ _=>rfl
 have bB:=DNu.F.binds (ps:=["_law_script","_law_k"]) fun _ _ _ _ _ _ us hl=>gG (fun _ _=>rfl) us hl
 have cH:=DPa.F.binds (ps:=["_law_script","_law_first","_law_many","_law_menu_here"]) fun _ _ _ _ _ _ us hl=>match us,hl with | [_,_,_,_],_=>rfl
 have bC:=DCe.F.binds (ps:=["_law_script","_law_k"]) fun _ _ _ _ _ _ us hl=>gG (fun _ _=>rfl) us hl
 have cI:=fN (p:="_law_kind") DFa.F fun _ _ _ _ _ _ _=>rfl
 have bD:=DTl.F.binds (ps:=["_law_book","_law_pairs_here","_law_menu_here","_law_turn"]) fun _ _ _ _ _ _ us hl=>match us,hl with | [_,_,_,_],_=>rfl
 have bI:=FI.binds (ps:=["self","pairs","rows"]) (ds:=[.none]) fun T kV doc pm an cdv ct us hl=>match us,(show us.length=2 by simpa using hl) with | [_,_],_=>⟨_,rfl,rfl⟩
 have cJ:=DGn.F.binds (ps:=["_law_script","_law_groups"]) fun _ _ _ _ _ _ us hl=>gG (fun _ _=>rfl) us hl
 have bZ:=DLf.F.binds (ps:=["_law_groups","_law_gone_here"]) fun _ _ _ _ _ _ us hl=>gG (fun _ _=>rfl) us hl
 have cK:=DDb.F.binds (ps:=["_law_script","_law_groups","_law_gone_here"]) fun _ _ _ _ _ _ us hl=>tZ (fun _ _ _=>rfl) us hl
 have cL:=DTw.F.binds (ps:=["_law_books","_law_groups","_law_gone_here","_law_menu_here","_law_turn"]) fun _ _ _ _ _ _ us hl=>match us,hl with | [_,_,_,_,_],_=>rfl
 have b0:=DPo.binds (ps:=["books","gone"]) (ds:=[]) fun T kV doc pm an cdv ct us hl=>match us,(show us.length=2 by simpa using hl) with | [_,_],_=>⟨_,rfl,rfl⟩
 have b1:=DPo.binds (ps:=["books","gone"]) (ds:=[.none]) fun T kV doc pm an cdv ct us hl=>match us,(show us.length=1 by simpa using hl) with | [_],_=>⟨_,rfl,rfl⟩
 refine D.F.ok iN (fun vs H Q E h=>?_) (fun cdv A outer s H vs Q E hr h=>?_)
 ·obtain⟨a,ns,rfl,_⟩:=h
  rfl
 ·obtain⟨a,ns,rfl,hS,hlen,kk⟩:=h
  have hz:(sizeLine:Nat)=16777216:=sizeLine_eq
  refine⟨_,(d6 (eE (i:=1) iN.nd rfl (Or.inl rfl) (eI (GMe.mono (by decide)) hr rfl DMe.m DMe.F.kp cG .nil eM (dY (eI (GNu.mono (by decide)) hr rfl DNu.m DNu.F.kp bB .nil eM (dY (pv 0) (dY d5 dZ))) dZ)))
   (d6 (eE (i:=2) iN.nd rfl (Or.inl rfl) (fJ dZ))
   (d6 (fU PassesOwn.never rfl (iW rfl T.range (dY (ek fY (eI (GCe.mono (by decide)) hr rfl DCe.m DCe.F.kp bC .nil eM (dY (pv 0) (dY d5 dZ))) d5) dZ)) (eO (i:=3) iN.nd rfl (Or.inl rfl)) (d9 (gq (gj F.plainAttrs_list F.slot_list_append F.type_list_append gT (pv 2) (dY (eI (GPa.mono (by decide)) hr rfl DPa.m DPa.F.kp cH .nil eM (dY (pv 0) (dY (ek iD d5 (pv 3)) (dY (ek fY (eI (GNu.mono (by decide)) hr rfl DNu.m DNu.F.kp bB .nil eM (dY (pv 0) (dY (ek fQ d5 (pv 3)) dZ))) d5) (dY (pv 1) dZ))))) dZ)))))
   (d6 (eE (i:=4) iN.nd rfl (Or.inl rfl) (ek fY (ek g9 (eI (GCe.mono (by decide)) hr rfl DCe.m DCe.F.kp bC .nil eM (dY (pv 0) (dY d5 dZ))) d5) d5))
   (d6 (eE (i:=5) iN.nd rfl (Or.inl rfl) (eI (GFa.mono (by decide)) hr rfl DFa.m DFa.F.kp cI .nil eM (dY (pv 4) dZ)))
   (d6 (oj (eY (rg hr.units100) (pv 5) (fJ dZ) (eZ _)) (d6 (eE (i:=2) iN.nd rfl (Or.inl rfl) (fJ (dY (g7 kB (pv 5) iq (gR d5)) (dY (g7 kB (pv 5) (gR d5) iq) dZ))))
   (d9 (eE (i:=1) iN.nd rfl (Or.inl rfl) (ek jK (pv 1) (fJ (dY fF (dY fF (dY fF dZ)))))))) fB)
   (d6 (eE (i:=6) iN.nd rfl (Or.inl rfl) (PE.imp (t':=Em K) (oR (eY (lV hr.units100) (pv 5) (fJ dZ) (eZ _)) (eI (GGn.mono (by decide)) hr rfl DGn.m DGn.F.kp cJ .nil eM (dY (pv 0) (dY (pv 2) dZ))) (ek zt (fJ (dY (g8 (dY d5 (dY (ek fQ d5 (ek fY (eI (GCe.mono (by decide)) hr rfl DCe.m DCe.F.kp bC .nil eM (dY (pv 0) (dY d5 dZ))) d5)) dZ))) dZ)) (ek jc (pv 4) d5))) ?mG))
   (d6 (oj (eY (lV hr.units100) (pv 5) (fJ dZ) (eZ _)) (d9 (eE (i:=2) iN.nd rfl (Or.inl rfl) (eI (GDb.mono (by decide)) hr rfl DDb.m DDb.F.kp cK .nil eM (dY (pv 0) (dY (pv 2) (dY (pv 6) dZ)))))) fB)
   (d6 (oP (i:=7) iN.nd rfl (Or.inl rfl) (own:=1) (caps:=[]) (N:=["_law_pairs_here"]) (N0:=["_law_script","_law_menu_here","_law_groups","_law_k","_law_kind","_law_far","_law_gone_here","_law_books","_law_turn","_law_handed","_law_book"]) (sc0:=er jB) rfl (gu (pv 2)) (fun _ _ _=>eO (i:=0) D9 rfl (Or.inl rfl)) (fun _ _ _=>iG) (fun _ _ _=>uU MB (GI.mono (by decide)) hr rfl M.cl.mgC bI (dvs:=[.non]) (.cons rfl .nil) hV (dY (pv 0) dZ)) (gD (by decide)) rfl rfl
    dk rfl dk dk rfl dk (fun _ _ _ h=>h))
   (d6 (eE (i:=8) iN.nd rfl (Or.inl rfl) (eI (GNu.mono (by decide)) hr rfl DNu.m DNu.F.kp bB .nil eM (dY (pv 0) (dY d5 dZ))))
   (d6 (eE (i:=9) iN.nd rfl (Or.inl rfl) (fJ (dY (jA nq rfl T.list j7 (dY (pv 7) dZ)) (dY (jA nq rfl T.list j7 (dY (pv 6) dZ)) dZ))))
   (d6 (eE (i:=10) iN.nd rfl (Or.inl rfl) (eI (GPo.mono (by decide)) hr rfl DPo.m DPo.kp b0 .nil hV (dY (fb fS (pv 9) d5 (fun _ _=>rfl)) (dY (fb fS (pv 9) d5 (fun _ _=>rfl)) dZ))))
   (d6 (oj (PW.pt (mv (eY (lV hr.units100) (pv 6) (fJ dZ) (eZ _)) (mz (eY ig (ek fY (ek g9 (pv 8) d5) d5) d5 (eZ _))))) (d9 (eE (i:=10) iN.nd rfl (Or.inl rfl) (oR (eY ig (ek fY (ek g9 (pv 8) d5) d5) d5 (eZ _)) (eI (GPo.mono (by decide)) hr rfl DPo.m DPo.kp b0 .nil hV (dY (fb fS (pv 9) d5 (fun _ _=>rfl)) (dY Bu dZ))) (eI (GPo.mono (by decide)) hr rfl DPo.m DPo.kp b1 (dvs:=[.non]) (.cons rfl .nil) hV (dY (fb fS (pv 9) d5 (fun _ _=>rfl)) dZ))))) fB)
   (d6 (fE (PW.pt (gU (eY jv (fG gQ rfl T.len gf (dY (fb fS (pv 9) d5 (fun _ _=>rfl)) dZ)) (fG gQ rfl T.len gf (dY (pv 7) dZ)) (eZ _)) (ip (eY (rg hr.units100) (fb fS (pv 9) d5 (fun _ _=>rfl)) (pv 6) (eZ _))))) (d9 (eG gM)) fB)
   (d6 (gq (nE F.plainAttrs_list F.slot_list_clear F.type_list_clear BQ (fb fS (pv 9) d5 (fun _ _=>rfl))))
   (d6 (gq (gj F.plainAttrs_list F.slot_list_append F.type_list_append gT (fb fS (pv 9) d5 (fun _ _=>rfl)) (dY (g8 (dY d5 (dY d5 dZ))) dZ)))
   (d6 (fE (gH (gC (eI (GTl.mono (by decide)) hr rfl DTl.m DTl.F.kp bD .nil eM (dY (pv 10) (dY (eI (GLf.mono (by decide)) hr rfl DLf.m DLf.F.kp bZ .nil eM (dY (pv 2) (dY (pv 6) dZ))) (dY (pv 1) (dY (pv 8) dZ))))))) (d9 (eG gM)) fB)
   (d6 (fE (gH (gC (eI (GTw.mono (by decide)) hr rfl DTw.m DTw.F.kp cL .nil eM (dY (pv 7) (dY (pv 2) (dY (pv 6) (dY (pv 1) (dY (ek g9 (pv 8) d5) dZ)))))))) (d9 (eG gM)) fB)
   (d6 (fU PassesOwn.never rfl (iW rfl T.range (dY (fG gQ rfl T.len gf (dY (pv 7) dZ)) dZ)) (eO (i:=3) iN.nd rfl (Or.inl rfl)) (d9 (fE (gH (gC (eI (GTl.mono (by decide)) hr rfl DTl.m DTl.F.kp bD .nil eM (dY (fb fS (pv 7) (pv 3) (fun _ _=>rfl)) (dY (fb fS (pv 2) (pv 3) (fun _ _=>rfl)) (dY (pv 1) (dY (ek g9 (pv 8) d5) dZ))))))) (d9 (eG gM)) fB)))
   (d9 (eG (eI (GTl.mono (by decide)) hr rfl DTl.m DTl.F.kp bD .nil eM (dY (pv 10) (dY (eI (GLf.mono (by decide)) hr rfl DLf.m DLf.F.kp bZ .nil eM (dY (pv 2) (dY (pv 6) dZ))) (dY (pv 1) (dY (ek g9 (pv 8) d5) dZ)))))))))))))))))))))))))),?_⟩
  case mG=>
   rintro σ H1 Q1 ⟨a,l,fa,ns,c,bs,fx,gs,e0,e2,e4,e5,hS,hlen,hL,ae,bE,au,aP,a9,k⟩
   refine⟨_,e5,Nat.zero_le _,fun q1 ay=>?_⟩
   have s1:d3 H1 (upd H1 q1 (.lst [])):=eh ay
   have eq1:upd H1 q1 (.lst []) q1=some (.lst []):=d7
   generalize upd H1 q1 (.lst [])=H2 at s1 eq1 ⊢
   refine⟨.list (ju (fM c)),.list [],.lst (d4.of (s1 _ _ bE)) (mF (au.same s1)),.lst (d4.of eq1) .nil,mI (rz c).g.g,rfl,(by have:=nQ (fM c);omega),_,rfl,?_⟩
   rw [p9]
   by_cases hf:fM c=[]
   ·rw [decide_eq_true hf]
    have ba:=aP hf
    refine eN ⟨_,e0,_,e2,a,l,ns,bs,gs,rfl,s1.seq hS,hlen,s1 _ _ hL,ae.same s1,ba.n,fun ps hp=>?_,fun g xs G H3 s3 hg eg hG ok hl=>k g xs G H3 (s1.trans s3) (s1.free hg) eg hG (fun _=>⟨ok,hl⟩) (fun q=>absurd hf q)⟩
    obtain⟨_,_,q⟩:=ba.at hp
    exact q
   ·rw [decide_eq_false hf]
    refine eD ⟨_,e0,a,ns,3,rfl,s1.seq hS,fun c3=>⟨_,_,rfl,rfl,(by show(0:Int) < 60;decide),_,_,rfl,rfl,(by show 2<=sizeLine;omega),fun t ht=>⟨(by show 1<=sizeLine;omega),fun o ho=>?_⟩⟩⟩
    obtain⟨j,hj,dC⟩:=oe (r:=c3) (n:=60) (by decide)
    have s2:d3 H2 (upd H2 t (.tup [.int 0,.int (1 + c3 % 60)])):=eh ht
    have et:upd H2 t (.tup [.int 0,.int (1 + c3 % 60)]) t=some (.tup [.int ((0:Nat):Int),.int ((1 + j:Nat):Int)]):=by
     rw [d7,<-hj,show(1 + (j:Int))=((1 + j:Nat):Int) by omega]
     rfl
    generalize upd H2 t (.tup [.int 0,.int (1 + c3 % 60)])=H3 at s2 et ho ⊢
    have s3:d3 H3 (upd H3 o (.lst [.ref t])):=eh ho
    have eo:upd H3 o (.lst [.ref t]) o=some (.lst [.ref t]):=d7
    generalize upd H3 o (.lst [.ref t])=H4 at s3 eo ⊢
    have hc:=qN hf
    refine⟨_,e4,_,_,rfl,rfl,o,_,_,rfl,rfl,eo,(by omega),(by omega),(by show 1 * (c - 1).toNat<=sizeLine;omega),fun g hg=>?_⟩
    rw [sI]
    have ao:=(s1.trans s2).trans s3
    have sg:d3 H4 (upd H4 g (.lst (List.replicate (c - 1).toNat (V.ref t)))):=eh hg
    refine k g _ (List.replicate (c - 1).toNat (0,1 + j)) _ (ao.trans sg) (ao.free hg) d7 (tX (sg _ _ (s3 _ _ et)) _) (fun q=>absurd q hf) fun _=>?_
    rw [a9 hf]
    exact Dk hf rfl (by omega)
  refine⟨_,rfl,a,ns,1,rfl,hS,hlen,by decide,fun H1 s1=>⟨_,rfl,fun m1 H2 ws s2 bb bc bF=>?_⟩⟩
  have aL:=s1.trans s2
  refine⟨Nat.zero_le _,fun l0 bG=>?_⟩
  refine⟨_,rfl,a,ns,0,rfl,(aL.trans (eh bG)).seq hS,fun c0=>⟨_,_,rfl,rfl,(by show(0:Int) < 4;decide),c0 % 4,rfl,by omega,by omega,?_⟩⟩
  refine jM (fun i σ H'=>∃(o3:Option V) (bs:List V) (gs:List (List (Str×Str))),σ=[some (.ref a),some (.ref m1),some (.ref l0),o3,none,none,none,none,none,none,none]/\d3 H2 H'/\H' l0=some (.lst bs)/\iZ H' bs gs/\gs.length=i/\(∀(j:Nat) ps,gs[j]? =some ps->mV ns (3 * j) ps/\ps.length<=3)/\bs.Nodup/\∀ b,V.ref b∈bs->H2 b=none/\b≠l0) ?_ ?_ ?_
  ·exact⟨_,[],[],rfl,eh bG,d7,.nil,rfl,(fun j ps h=>by cases h),List.nodup_nil,fun b hb=>nomatch hb⟩
  ·rintro i σ H' hi ⟨o3,bs,gs,rfl,sm,hL,ae,bH,cM,bJ,b2⟩
   have dE:i < 3:=by
    have:i < (c0 % 4).toNat:=hi
    omega
   rw [Int.zero_add]
   have b3:=aL.trans sm
   refine⟨_,rfl,.inl ⟨rfl,_,d4.of hL⟩,_,rfl,_,rfl,_,_,rfl,rfl,(.inl ⟨by decide,by decide⟩),_,rfl,_,rfl,_,_,rfl,rfl,?_⟩
   refine⟨a,ns,3 + i,congrArg (fun z=>[V.ref a,V.int z]) (show(3 + (i:Int))=((3 + i:Nat):Int) by omega),b3.seq hS,hlen,by omega,fun H3 s3=>⟨_,_,rfl,rfl,(by show(0:Int) < 4;decide),_,rfl,?_⟩⟩
   obtain⟨k,hk,dF⟩:=oe (r:=gW ns (3 + i)) (n:=4) (by decide)
   refine⟨a,m1,ns,ws,3 * i,k,(by show [V.ref a,V.int (3 * (i:Int)),V.int (gW ns (3 + i) % 4),V.ref m1]=_;rw [<-hk,show(3 * (i:Int))=((3 * i:Nat):Int) by omega]),by omega,(b3.trans s3).seq hS,hlen,by omega,(sm.trans s3) _ _ bb,bc,bF,fun l2 xs ps H4 s4 bK cN hP dH b4=>?_⟩
   have bL:=s3.trans s4
   have b5:=bL _ _ hL
   have b6:=Gn.Paired.len ae
   refine⟨l0,bs,_,rfl,rfl,b5,by omega,?_⟩
   have sb:SameBut l0 H4 (upd H4 l0 (.lst (bs++[.ref l2]))):=fun b u e hb=>by rw [eC hb];exact e
   have e5:upd H4 l0 (.lst (bs++[.ref l2])) l0=some (.lst (bs++[.ref l2])):=d7
   generalize upd H4 l0 (.lst (bs++[.ref l2]))=H5 at sb e5 ⊢
   have b7:l2≠l0:=fun z=>by
    have:=s3 _ _ hL
    rw [<-z,bK] at this
    cases this
   have b8:∀{ys:List V} {qs:List (V×V)},fX H4 ys qs->fX H5 ys qs:=fun h=>Gn.Paired.imp2 h fun _ _ ⟨p,e,q⟩=>⟨p,e,sb _ _ q fun z=>by rw [z,b5] at q;cases q⟩
   refine⟨_,bs++[.ref l2],gs++[ps],rfl,fun b u e=>sb _ _ ((sm.trans bL) _ _ e) (fv e bG),e5,Gn.Paired.app (sr (ae.same bL) fun v qs hv ⟨b,ys,e,q1,q2⟩=>⟨b,ys,e,sb _ _ q1 (b2 b (by rw [<-e];exact hv)).2,b8 q2⟩) ⟨l2,xs,rfl,sb _ _ cN b7,b8 hP⟩,by rw [List.length_append,bH];rfl,fun j qs hj=>?_,?_,fun b hb=>?_⟩
   ·by_cases cO:j < gs.length
    ·rw [List.getElem?_append_left cO] at hj
     exact cM j qs hj
    ·have cP:j - gs.length=0:=by
      have:=(List.getElem?_eq_some_iff.mp hj).1
      rw [List.length_append] at this
      simp at this
      omega
     rw [List.getElem?_append_right (by omega),cP] at hj
     have e:ps=qs:=Option.some.inj hj
     subst e
     rw [show j=i by omega]
     exact⟨b4,by omega⟩
   ·refine List.nodup_append.mpr ⟨bJ,by simp,fun x hx y hy e=>?_⟩
    rw [List.mem_singleton.mp hy] at e
    obtain⟨u,hu⟩:=ae.mem (b:=l2) (by rw [<-e];exact hx)
    have:=s3 _ _ hu
    rw [bK] at this
    cases this
   ·rcases List.mem_append.mp hb with hb | hb
    ·exact b2 b hb
    ·have e:=V.ref.inj (List.mem_singleton.mp hb)
     rw [e]
     exact⟨(sm.trans s3).free bK,b7⟩
  rintro σ H3 ⟨o3,cQ,bM,rfl,s3,b9,bt,bu,bw,bx,aQ⟩
  have bz:iA ns bM:=⟨by have:bM.length=(c0 % 4).toNat:=bu;omega,bw⟩
  have cR:=aL.trans s3
  refine⟨_,rfl,a,ns,0,rfl,cR.seq hS,fun c1=>⟨_,_,rfl,rfl,⟨by decide,by decide⟩,_,_,rfl,rfl,(by show(0:Int) < 9;decide),?_⟩⟩
  show jT 4 (V.int (c1 / 4 % 9)) _ _ _
  generalize c1 / 4 % 9=c
  refine⟨_,rfl,c,rfl,fun fa fx H4 s4 bE aM au=>?_⟩
  have bf:=s3.trans s4
  have cS:=aL.trans bf
  refine⟨fun av H'=>∃(m l:Addr) (wm:List Str) (bs:List V) (gs:List (List (Str×Str))),av=[some (.ref a),some (.ref m),some (.ref l),o3,some (.int c),some (.ref fa),none,none,none,none,none]/\d3 H4 H'/\H' m=some (.lst (sl wm))/\0 < wm.length/\wm.length<=10/\(∀ z∈wm,Wm z)/\H' l=some (.lst bs)/\iZ H' bs gs/\
   (fM c=[]->H2 m=some (.lst (sl wm))/\iA ns gs/\(V.ref l::bs).Nodup/\∀ b,V.ref b∈bs->H2 b=none)/\(fM c≠[]->gs=[(fM c).take 70,(fM c).drop 70]),?_,?_⟩
  ·refine⟨_,rfl,Nat.zero_le _,fun q1 ay=>?_⟩
   have s5:d3 H4 (upd H4 q1 (.lst [])):=eh ay
   have eq1:upd H4 q1 (.lst []) q1=some (.lst []):=d7
   generalize upd H4 q1 (.lst [])=H5 at s5 eq1 ⊢
   refine⟨.list (ju (fM c)),.list [],.lst (d4.of (s5 _ _ aM)) (mF (au.same s5)),.lst (d4.of eq1) .nil,mI (rz c).g.g,rfl,(by have:=nQ (fM c);omega),_,rfl,?_⟩
   rw [p9]
   by_cases hf:fM c=[]
   ·rw [decide_eq_true hf]
    refine eD ⟨m1,l0,ws,cQ,bM,rfl,s5,(bf.trans s5) _ _ bb,by omega,by omega,bF,s5 _ _ (s4 _ _ b9),bt.same (s4.trans s5),fun _=>⟨bb,bz,List.nodup_cons.mpr ⟨fun hm=>(aQ l0 hm).2 rfl,bx⟩,fun b hb=>(aQ b hb).1⟩,fun q=>absurd hf q⟩
   ·rw [decide_eq_false hf]
    refine eN ⟨_,rfl,70,rfl,fa,_,rfl,d4.of (s5 _ _ aM),fun p1 cT=>?_⟩
    rw [Ft]
    have s6:d3 H5 (upd H5 p1 (.lst (fx.take 70))):=eh cT
    have cb:upd H5 p1 (.lst (fx.take 70)) p1=some (.lst (fx.take 70)):=d7
    generalize upd H5 p1 (.lst (fx.take 70))=H6 at s6 cb ⊢
    refine⟨_,rfl,70,rfl,fa,_,rfl,d4.of (s6 _ _ (s5 _ _ aM)),fun p2 cU=>?_⟩
    rw [Av]
    have s7:d3 H6 (upd H6 p2 (.lst (fx.drop 70))):=eh cU
    have cc:upd H6 p2 (.lst (fx.drop 70)) p2=some (.lst (fx.drop 70)):=d7
    generalize upd H6 p2 (.lst (fx.drop 70))=H7 at s7 cc ⊢
    refine⟨(by show 2<=sizeLine;omega),fun l hl=>?_⟩
    have s8:d3 H7 (upd H7 l (.lst [.ref p1,.ref p2])):=eh hl
    have el:upd H7 l (.lst [.ref p1,.ref p2]) l=some (.lst [.ref p1,.ref p2]):=d7
    generalize upd H7 l (.lst [.ref p1,.ref p2])=H8 at s8 el ⊢
    refine⟨_,rfl,(by show 3<=sizeLine;omega),fun q hq=>?_⟩
    have s9:d3 H8 (upd H8 q (.lst [.str (Str.ofString "q"),.str (Str.ofString "z"),.str (Str.ofString "p")])):=eh hq
    have eq:upd H8 q (.lst [.str (Str.ofString "q"),.str (Str.ofString "z"),.str (Str.ofString "p")]) q=some (.lst (sl [Str.ofString "q",Str.ofString "z",Str.ofString "p"])):=d7
    generalize upd H8 q (.lst [.str (Str.ofString "q"),.str (Str.ofString "z"),.str (Str.ofString "p")])=H9 at s9 eq ⊢
    have bN:=(((s5.trans s6).trans s7).trans s8).trans s9
    have cV:(sl ws).length=5:=by unfold sl;rw [List.length_map];exact bc
    refine⟨m1,q,_,_,rfl,rfl,bN _ _ (bf _ _ bb),eq,(by rw [show(List.map V.str ws).length=5 from cV];show 5 + 3<=sizeLine;omega),fun m hm=>?_⟩
    have aR:d3 H9 (upd H9 m (.lst (sl ws++sl [Str.ofString "q",Str.ofString "z",Str.ofString "p"]))):=eh hm
    refine⟨m,l,ws++[Str.ofString "q",Str.ofString "z",Str.ofString "p"],[.ref p1,.ref p2],[(fM c).take 70,(fM c).drop 70],rfl,bN.trans aR,?_,by rw [List.length_append,bc];decide,by rw [List.length_append,bc];decide,fun z hz=>?_,aR _ _ (s9 _ _ el),?_,fun q=>absurd q hf,fun _=>rfl⟩
    ·show upd H9 m (.lst (sl ws++sl [Str.ofString "q",Str.ofString "z",Str.ofString "p"])) m=_
     rw [d7]
     unfold sl
     rw [List.map_append]
    ·rcases List.mem_append.mp hz with hz | hz
     ·exact bF z hz
     ·obtain⟨w1,w2,w3⟩:=G0
      rcases List.mem_cons.mp hz with e | hz
      ·rw [e];exact w1
      ·rcases List.mem_cons.mp hz with e | hz
       ·rw [e];exact w2
       ·rw [List.mem_singleton.mp hz];exact w3
    ·have sA:=bN.trans aR
     refine .cons ⟨p1,_,rfl,(((s7.trans s8).trans s9).trans aR) _ _ cb,?_⟩ (.cons ⟨p2,_,rfl,((s8.trans s9).trans aR) _ _ cc,?_⟩ .nil)
     ·rw [List.map_take]
      exact qj 70 (au.same sA)
     ·rw [List.map_drop]
      exact rJ 70 (au.same sA)
  rintro av H5 ⟨m,l,wm,bs,gs,rfl,s5,hM,bg,aE,aF,hL,ae,aP,a9⟩
  have cf:=bf.trans s5
  have cW:=cS.trans s5
  refine⟨a,l,fa,ns,c,bs,fx,gs,rfl,rfl,rfl,rfl,cW.seq hS,hlen,hL,ae,s5 _ _ aM,au.same s5,fun q=>(aP q).2.1,a9,fun g xs G H6 s6 hg eg ag ok1 cg=>?_⟩
  have bh:=cf.trans s6
  refine⟨fun av H'=>∃(l:Addr) (bs xs:List V) (gs:List (List (Str×Str))) (G:List (Nat×Nat)),av=[some (.ref a),some (.ref m),some (.ref l),o3,some (.int c),some (.ref fa),some (.ref g),none,none,none,none]/\d3 H2 H'/\H' m=some (.lst (sl wm))/\H' l=some (.lst bs)/\iZ H' bs gs/\H' g=some (.lst xs)/\gP H' xs G/\g5 gs G,?_,?_⟩
  ·refine⟨_,rfl,Nat.zero_le _,fun q1 ay=>?_⟩
   have s7:d3 H6 (upd H6 q1 (.lst [])):=eh ay
   have eq1:upd H6 q1 (.lst []) q1=some (.lst []):=d7
   generalize upd H6 q1 (.lst [])=H7 at s7 eq1 ⊢
   have az:=s6.trans s7
   refine⟨.list (ju (fM c)),.list [],.lst (d4.of (az _ _ (s5 _ _ aM))) (mF (au.same (s5.trans az))),.lst (d4.of eq1) .nil,mI (rz c).g.g,rfl,(by have:=nQ (fM c);omega),_,rfl,?_⟩
   rw [p9]
   by_cases hf:fM c=[]
   ·rw [decide_eq_true hf]
    obtain⟨cX,ba,bJ,cY⟩:=aP hf
    obtain⟨ok,bH⟩:=ok1 hf
    have cZ:∀ b,V.ref b∈V.ref l::bs->b≠g:=fun b hb z=>by
     rcases List.mem_cons.mp hb with e | e
     ·have e:=V.ref.inj e
      rw [<-z,e,hL] at hg
      cases hg
     ·obtain⟨u,hu⟩:=ae.mem e
      rw [z,hg] at hu
      cases hu
    have aS:∀ b,V.ref b∈V.ref g::bs->H2 b=none:=fun b hb=>by
     rcases List.mem_cons.mp hb with e | e
     ·rw [V.ref.inj e];exact cf.free hg
     ·exact cY b e
    refine eN ⟨_,rfl,_,rfl,_,rfl,a,l,g,H2,ns,bs,xs,gs,G,rfl,aL.seq hS,bh.trans s7,aS,hlen,az _ _ hL,ae.same az,ba,s7 _ _ eg,ag.same s7,ok,bH,List.nodup_cons.mpr ⟨fun q=>?_,bJ⟩,fun c2 c4 G' H8 fr c5 cj c6 ck c7=>?_⟩
    ·exact cZ g q rfl
    ·have cm:d3 H2 H8:=fun b u e=>fr _ _ ((bh.trans s7) _ _ e) fun q=>by rw [aS b q] at e;cases e
     exact⟨l,bs,c2,c4,G',rfl,cm,cm _ _ cX,c5,cj,c6,ck,c7⟩
   ·rw [decide_eq_false hf]
    exact eD ⟨l,bs,xs,gs,G,rfl,bh.trans s7,az _ _ hM,az _ _ hL,ae.same az,s7 _ _ eg,ag.same s7,cg hf⟩
  clear hL ae aP a9 ag ok1 cg eg hg s6 bh hM b9 bt bu bw bx aQ bz au aM bE
  rintro av H7 ⟨l,bs,xs,gs,G,rfl,c8,hM,hL,ae,eg,ag,hW⟩
  have c9:=aL.trans c8
  have b6:=Gn.Paired.len ae
  have dI:=Gn.Paired.len ag
  have dJ:=hW.n
  have lG:=hW.gl
  refine⟨_,rfl,l,rfl,⟨_,d4.of hL⟩,?_⟩
  refine iL (xs:=bs) (fun i ys H'=>d3 H7 H'/\lQ C H' ys (gs.take i)) (by omega) (fun i ys H' q=>d4.of (q.1 _ _ hL)) ⟨d3.refl _,.nil⟩ ?_ ?_
  ·rintro i v ys H' N hv ⟨sm,hY⟩ hN
   obtain⟨ps,aN,b,xp,rfl,hb,bO⟩:=gK ae hv
   refine g1 ⟨_,rfl,fun x dM da cn cq=>?_⟩
   refine Gi (sm _ _ hb) (bO.same sm) (hW.grp (List.mem_of_getElem? aN)) da cn cq (fun H9 s9 dc _=>?_)
   refine hN _ _ ⟨sm.trans s9,?_⟩
   rw [take_snoc aN]
   exact Gn.Paired.app (hY.same s9) ⟨x,rfl,dc⟩
  rintro ys H' ⟨sm,bP⟩ _ bl cu
  rw [b6,List.take_length] at bP
  have s8:=sm.trans (eh (o:= .lst ys) cu)
  have aT:upd H' bl (.lst ys) bl=some (.lst ys):=d7
  have ah:=bP.same (eh (o:= .lst ys) cu)
  generalize upd H' bl (.lst ys)=H8 at s8 aT ah ⊢
  have dd:=c9.trans s8
  have dO:=Gn.Paired.len ah
  refine⟨_,rfl,a,ns,2,rfl,dd.seq hS,hlen,by decide,fun H9 s9=>?_⟩
  generalize gW ns 2=tn
  have de:=s8.trans s9
  have cv:=s9 _ _ aT
  have df:=de _ _ eg
  refine⟨_,rfl,bl,_,rfl,.inl (d4.of cv),fun h0 cw=>?_⟩
  have t1:d3 H9 (upd H9 h0 (.lst ys)):=eh cw
  have aU:upd H9 h0 (.lst ys) h0=some (.lst ys):=d7
  generalize upd H9 h0 (.lst ys)=bj at t1 aU ⊢
  refine⟨_,rfl,g,_,rfl,.inl (d4.of (t1 _ _ df)),fun h1 bQ=>?_⟩
  have t2:d3 bj (upd bj h1 (.lst xs)):=eh bQ
  have aV:upd bj h1 (.lst xs) h1=some (.lst xs):=d7
  have dg:h0≠h1:=fv aU bQ
  have cx:H9 h1=none:=t1.free bQ
  generalize upd bj h1 (.lst xs)=bo at t2 aV ⊢
  refine⟨(by show 2<=sizeLine;omega),fun hd bR=>?_⟩
  have t3:d3 bo (upd bo hd (.lst [.ref h0,.ref h1])):=eh bR
  have aO:upd bo hd (.lst [.ref h0,.ref h1]) hd=some (.lst [.ref h0,.ref h1]):=d7
  have dh:hd≠h0:=fun z=>by
   have:=t2 _ _ aU
   rw [<-z,bR] at this
   cases this
  have dP:hd≠h1:=fun z=>by rw [<-z,bR] at aV;cases aV
  generalize upd bo hd (.lst [.ref h0,.ref h1])=bS at t3 aO ⊢
  have cy:=(t1.trans t2).trans t3
  have ai:=t3 _ _ (t2 _ _ aU)
  have aj:=t3 _ _ aV
  have aG:=s9.trans cy
  have aW:=s8.trans aG
  refine⟨_,rfl,hd,_,_,_,rfl,rfl,d4.of aO,fC (j:=0) rfl,_,rfl,hd,_,_,_,rfl,rfl,d4.of aO,fC (j:=1) rfl,h0,.ref h1,_,gs,G.map gv,rfl,ai,ah.same aG,hW.good,hW.few,hW.fewW,Nat.le_trans hW.n (by decide),um aj (ag.same aW) hW.gl,fun c=>(hW.no c).elim,fun _ _ x aA bT hx aH hU=>?_,fun _ c=>absurd hW.nd' c⟩
  rw [lY] at aH hU
  refine⟨fun av H'=>∃ x:Addr,av=[some (.ref a),some (.ref m),some (.ref l),o3,some (.int c),some (.ref fa),some (.ref g),some (.ref bl),some (.int tn),some (.ref hd),some (.ref x)]/\d3 bS H'/\gc C H' x (kg G 0 gs)/\∀ J,(∀ b u,H' b=some u->b≠h0->b≠h1->J b=some u)->gc C J x (kg G 0 gs),?_,?_⟩
  ·have bp:∀{Hq Hr:Hp} {x:Addr},Hq h0=some (.lst ys)->Hq h1=some (.lst xs)->(∀ J,(∀ b u,Hr b=some u->(∀ l0,Hq b≠some (.lst l0))->J b=some u)->gc C J x (kg G 0 gs))->∀ J,(∀ b u,Hr b=some u->b≠h0->b≠h1->J b=some u)->gc C J x (kg G 0 gs):=fun q0 q1 hq J hb=>hq J fun b u e n=>hb b u e (fun z=>n ys (by rw [z];exact q0)) (fun z=>n xs (by rw [z];exact q1))
   have di:∃ x':Addr,[some (V.ref a),some (.ref m),some (.ref l),o3,some (.int c),some (.ref fa),some (.ref g),some (.ref bl),some (.int tn),some (.ref hd),some (.ref x)]=[some (.ref a),some (.ref m),some (.ref l),o3,some (.int c),some (.ref fa),some (.ref g),some (.ref bl),some (.int tn),some (.ref hd),some (.ref x')]/\d3 bS aA/\gc C aA x' (kg G 0 gs)/\∀ J,(∀ b u,aA b=some u->b≠h0->b≠h1->J b=some u)->gc C J x' (kg G 0 gs):=⟨x,rfl,bT,aH,bp ai aj hU⟩
   refine⟨_,rfl,Nat.zero_le _,fun q1 ay=>?_⟩
   have u1:d3 aA (upd aA q1 (.lst [])):=eh ay
   have eq1:upd aA q1 (.lst []) q1=some (.lst []):=d7
   generalize upd aA q1 (.lst [])=aq at u1 eq1 ⊢
   have U:=bT.trans u1
   have ak:=aW.trans U
   have aX:∃ x':Addr,[some (V.ref a),some (.ref m),some (.ref l),o3,some (.int c),some (.ref fa),some (.ref g),some (.ref bl),some (.int tn),some (.ref hd),some (.ref x)]=[some (.ref a),some (.ref m),some (.ref l),o3,some (.int c),some (.ref fa),some (.ref g),some (.ref bl),some (.int tn),some (.ref hd),some (.ref x')]/\d3 bS aq/\gc C aq x' (kg G 0 gs)/\∀ J,(∀ b u,aq b=some u->b≠h0->b≠h1->J b=some u)->gc C J x' (kg G 0 gs):=⟨x,rfl,U,aH.same u1,fun J hb=>bp ai aj hU J fun b u e=>hb b u (u1 _ _ e)⟩
   refine⟨.list (dG G),.list [],.lst (d4.of (ak _ _ eg)) (qH (ag.same ak)),.lst (d4.of eq1) .nil,nB G,rfl,(by have:=qD G;have:(PyData.list (dG G)).depth=PyData.depthAll (dG G) + 1:=rfl;omega),_,rfl,?_⟩
   rw [DE]
   by_cases bU:G=[]
   ·rw [decide_eq_true bU]
    refine eN ⟨_,rfl,_,_,rfl,rfl,⟨by decide,by decide⟩,_,_,rfl,rfl,(by show(0:Int) < 2;decide),rfl,_,rfl,?_⟩
    by_cases cz:tn / 16 % 2=1
    ·rw [iy cz]
     have aa:=U _ _ aO
     have I:=U _ _ ai
     have af:=U _ _ aj
     have aI:=aG.trans U
     refine eN ⟨_,rfl,_,_,rfl,rfl,⟨by decide,by decide⟩,_,_,rfl,rfl,(by show(0:Int) < 2;decide),rfl,_,rfl,?_⟩
     have gA:q9 K aq .non (G.map gv):= .inl ⟨rfl,by rw [bU];rfl⟩
     by_cases aS:tn / 32 % 2=1
     ·rw [iy aS]
      refine eN ⟨_,rfl,hd,_,_,_,rfl,rfl,d4.of aa,fC (j:=0) rfl,h0,.non,_,gs,G.map gv,rfl,I,ah.same aI,hW.good,hW.few,hW.fewW,Nat.le_trans hW.n (by decide),gA,fun c=>(hW.no c).elim,fun _ _ x' aY bV dj aw aZ=>?_,fun _ c=>absurd hW.nd' c⟩
      rw [lY] at aw aZ
      exact⟨x',rfl,U.trans bV,aw,bp I af aZ⟩
     ·rw [jg aS]
      refine eD ⟨_,rfl,hd,_,_,_,rfl,rfl,d4.of aa,fC (j:=0) rfl,h0,.non,_,gs,G.map gv,rfl,I,ah.same aI,hW.good,hW.few,hW.fewW,Nat.le_trans hW.n (by decide),gA,fun c=>(hW.no c).elim,fun _ _ x' aY bV dj aw aZ=>?_,fun _ c=>absurd hW.nd' c⟩
      rw [lY] at aw aZ
      exact⟨x',rfl,U.trans bV,aw,bp I af aZ⟩
    ·rw [jg cz]
     exact eD aX
   ·rw [decide_eq_false bU]
    exact eD (eD aX)
  clear aH hU bT hx x
  rintro av aq ⟨x,rfl,ao,cA,hU⟩
  have aa:=ao _ _ aO
  have I:=ao _ _ ai
  have af:=ao _ _ aj
  have ak:=aW.trans ao
  have aI:=aG.trans ao
  refine⟨_,rfl,hd,_,_,_,rfl,rfl,d4.of aa,fC (j:=0) rfl,h0,_,rfl,.inl (d4.of I),_,rfl,bl,_,rfl,.inl (d4.of (aI _ _ aT)),rfl,_,rfl,?_⟩
  rw [iy rfl]
  refine eD ⟨_,rfl,hd,_,_,_,rfl,rfl,d4.of aa,fC (j:=1) rfl,_,rfl,.list (dG G),.list (dG G),.lst (d4.of af) (qH (ag.same ak)),.lst (d4.of (ak _ _ eg)) (qH (ag.same ak)),nB G,nB G,(by have:=qD G;have:(PyData.list (dG G)).depth=PyData.depthAll (dG G) + 1:=rfl;omega),_,rfl,?_⟩
  rw [sk (show(PyData.list (dG G)).canLay0=true from nB G)]
  refine eD ⟨_,rfl,hd,_,_,_,rfl,rfl,d4.of aa,fC (j:=0) rfl,.inl ⟨rfl,_,d4.of I⟩,h0,ys,rfl,rfl,I,?_⟩
  have bq:SameBut h0 aq (upd aq h0 (.lst [])):=fun b u e hb=>by rw [eC hb];exact e
  generalize upd aq h0 (.lst [])=aY at bq ⊢
  have a0:=bq _ _ aa dh
  have aB:=bq _ _ af dg.symm
  refine⟨_,rfl,hd,_,_,_,rfl,rfl,d4.of a0,fC (j:=1) rfl,.inl ⟨rfl,_,d4.of aB⟩,(by show 2<=sizeLine;omega),fun tt dk=>?_⟩
  have st:d3 aY (upd aY tt (.tup [.int 0,.int 0])):=eh dk
  generalize upd aY tt (.tup [.int 0,.int 0])=bW at st ⊢
  refine⟨h1,xs,_,rfl,rfl,st _ _ aB,by omega,?_⟩
  have cB:SameBut h1 bW (upd bW h1 (.lst (xs++[.ref tt]))):=fun b u e hb=>by rw [eC hb];exact e
  generalize upd bW h1 (.lst (xs++[.ref tt]))=br at cB ⊢
  have up:∀ b u,aq b=some u->b≠h0->b≠h1->br b=some u:=fun b u e n1 n2=>cB _ _ (st _ _ (bq _ _ e n1)) n2
  have bA:=hU br up
  have cC:d3 H9 br:=fun b u e=>up b u ((cy.trans ao) _ _ e) (fv e cw) (fv e cx)
  have a3:=s9.trans cC
  have ax:=s8.trans a3
  have aJ:=ax _ _ hL
  have a4:=ax _ _ eg
  have ar:=ae.same ax
  have aC:=ag.same ax
  have aK:=ax _ _ hM
  have a5:=ah.same a3
  have aD:=a3 _ _ aT
  have cD:=hW.left
  have ll:=hW.l
  clear hL ae ag eg hM ah aT bP aU aV ai aj aO aa I af a0 aB hU cA
  refine⟨_,rfl,_,rfl,_,rfl,l,g,bs,xs,gs,G,rfl,aJ,ar,by omega,by omega,a4,aC,fun lf zs dQ bX dR dm dq=>?_⟩
  refine⟨_,rfl,_,rfl,x,lf,m,tn,zs,_,wm,rfl,bA.same bX,cD,dm,dq,bX _ _ aK,bg,aE,aF,fun dS dt=>⟨_,rfl,eD ?_⟩⟩
  have ab:=bX.trans dt
  refine⟨_,rfl,_,rfl,_,rfl,_,rfl,_,rfl,_,_,rfl,rfl,⟨by decide,by decide⟩,bl,l,g,m,_,ys,bs,xs,gs,G,wm,rfl,ab _ _ aD,a5.same ab,ab _ _ aJ,ar.same ab,ab _ _ a4,aC.same ab,hW,ab _ _ aK,bg,aE,aF,fun dU du=>⟨_,rfl,eD ?_⟩⟩
  have a6:=ab.trans du
  refine⟨_,rfl,bl,_,rfl,.inl (d4.of (a6 _ _ aD)),ys.length,rfl,by omega,by omega,?_⟩
  refine jM (fun i σ H'=>∃(o3:Option V),σ=[some (.ref a),some (.ref m),some (.ref l),o3,some (.int c),some (.ref fa),some (.ref g),some (.ref bl),some (.int tn),some (.ref hd),some (.ref x)]/\d3 br H') ?_ ?_ ?_
  ·exact⟨_,rfl,a6⟩
  ·rintro i σ H' hi ⟨o3,rfl,sm⟩
   have dV:i < ys.length:=hi
   rw [Int.zero_add]
   obtain⟨ps,aN⟩:∃ ps,gs[i]? =some ps:=⟨gs[i]'(by omega),List.getElem?_eq_getElem (by omega)⟩
   obtain⟨v,hv,xb,rfl,dv⟩:=Gn.Paired.at a5 aN
   obtain⟨v',dw,b,xp,rfl,hb,bO⟩:=Gn.Paired.at ar aN
   refine⟨_,rfl,_,rfl,bl,_,_,_,rfl,rfl,d4.of (sm _ _ aD),fC hv,_,rfl,_,rfl,l,_,_,_,rfl,rfl,d4.of (sm _ _ aJ),fC dw,_,rfl,_,rfl,_,_,rfl,rfl,⟨by decide,by decide⟩,?_⟩
   exact⟨xb,b,m,_,xp,ps,wm,rfl,dv.same sm,hW.grp (List.mem_of_getElem? aN),sm _ _ hb,bO.same sm,sm _ _ aK,bg,aE,aF,fun dy bY=>⟨_,rfl,eD ⟨_,rfl,sm.trans bY⟩⟩⟩
  rintro σ dW ⟨dX,rfl,a7⟩
  refine⟨_,rfl,_,rfl,_,rfl,l,g,bs,xs,gs,G,rfl,a7 _ _ aJ,ar.same a7,by omega,by omega,a7 _ _ a4,aC.same a7,fun dz dA dy bY dD cE cF=>?_⟩
  have a8:=a7.trans bY
  exact⟨_,rfl,_,rfl,_,_,rfl,rfl,⟨by decide,by decide⟩,x,dz,m,_,dA,_,wm,rfl,bA.same a8,cD,cE,cF,a8 _ _ aK,bg,aE,aF,fun dB _=>kk dB⟩
end
section
variable {P : Program} {w : World} {K : PySem.W.Frag} {mg : Str -> Option Value} {base h : Heap} {CK CT C2 CN C0 CW C CWk : Addr}
theorem AU(X:K.In h)(G:h.Ns mainGlobals mg){t0 t1 t2 t3 t4 t5 t6:Tok}
  (n0:W.nsIn K mainGlobals "isinstance"=some none)
  (n1:W.nsIn K mainGlobals "int"=some none)
  (n2:W.nsIn K mainGlobals "bool"=some none)
  (n3:W.nsIn K mainGlobals "str"=some none)
  (n4:W.nsIn K mainGlobals "list"=some none)
  (n5:W.nsIn K mainGlobals "tuple"=some none)
  (n6:W.nsIn K mainGlobals "len"=some none)
  (n7:W.nsIn K mainGlobals "all"=some none)
  (n8:W.nsIn K mainGlobals "ord"=some none)
  (n9:W.nsIn K mainGlobals "range"=some none)
  (n10:W.nsIn K mainGlobals "enumerate"=some none)
  (n11:W.nsIn K mainGlobals "sorted"=some none)
  (n12:W.nsIn K mainGlobals "sum"=some none)
  (n13:W.nsIn K mainGlobals "any"=some none)
  (n14:W.nsIn K mainGlobals "ValueError"=some none)
  (c0:W.nsIn K mainGlobals "MOST_TEXT_SIGNS"=some (some (.int 2000 t0)))
  (c1:W.nsIn K mainGlobals "MOST_KEY_SIGNS"=some (some (.int 12 t1)))
  (c2:W.nsIn K mainGlobals "MOST_WORD_SIGNS"=some (some (.int 2000 t2)))
  (c3:W.nsIn K mainGlobals "SMALL_SIGNS"=some (some (.str "abcdefghijklmnopqrstuvwxyz0123456789" t3)))
  (c4:W.nsIn K mainGlobals "PERCENT_NUMBER"=some (some (.int 37 t4)))
  (c5:W.nsIn K mainGlobals "GREATEST_PART"=some (some (.int 255 t5)))
  (c6:W.nsIn K mainGlobals "MORE_COMES"=some (some (.int 128 t6)))
  :Txt mg where
 isi:=W.mg_none_of X G n0
 int:=W.mg_none_of X G n1
 bool:=W.mg_none_of X G n2
 str:=W.mg_none_of X G n3
 list:=W.mg_none_of X G n4
 tuple:=W.mg_none_of X G n5
 len:=W.mg_none_of X G n6
 all:=W.mg_none_of X G n7
 ord:=W.mg_none_of X G n8
 range:=W.mg_none_of X G n9
 enum:=W.mg_none_of X G n10
 sorted:=W.mg_none_of X G n11
 sum:=W.mg_none_of X G n12
 any:=W.mg_none_of X G n13
 val:=W.mg_none_of X G n14
 cText:=⟨t0,W.mg_of X G c0⟩
 cKey:=⟨t1,W.mg_of X G c1⟩
 cWord:=⟨t2,W.mg_of X G c2⟩
 cSmall:=⟨t3,W.mg_of X G c3⟩
 cPer:=⟨t4,W.mg_of X G c4⟩
 cGreat:=⟨t5,W.mg_of X G c5⟩
 cMore:=⟨t6,W.mg_of X G c6⟩
def r6(K:W.Frag)(mg:Str->Option Value):Prop:=∃ CK CT C2 CN C0 CW,Ex K mg "BadKey" CK/\Ex K mg "BadText" CT/\Ex K mg "Twice" C2/\Ex K mg "BadNumber" CN/\Ex K mg "NoText" C0/\Ex K mg "BadWord" CW
theorem Au(X:K.In h)(G:h.Ns mainGlobals mg)
  (a0:W.nsIn K mainGlobals "BadKey"=some (some (.ref CK)))
  (x0:W.excIn K CK [.type "ValueError",.type "Exception",.type "BaseException",.type "object"] "ValueError.__new__"=true)
  (a1:W.nsIn K mainGlobals "BadText"=some (some (.ref CT)))
  (x1:W.excIn K CT [.type "ValueError",.type "Exception",.type "BaseException",.type "object"] "ValueError.__new__"=true)
  (a2:W.nsIn K mainGlobals "Twice"=some (some (.ref C2)))
  (x2:W.excIn K C2 [.type "ValueError",.type "Exception",.type "BaseException",.type "object"] "ValueError.__new__"=true)
  (a3:W.nsIn K mainGlobals "BadNumber"=some (some (.ref CN)))
  (x3:W.excIn K CN [.type "ValueError",.type "Exception",.type "BaseException",.type "object"] "ValueError.__new__"=true)
  (a4:W.nsIn K mainGlobals "NoText"=some (some (.ref C0)))
  (x4:W.excIn K C0 [.type "ValueError",.type "Exception",.type "BaseException",.type "object"] "ValueError.__new__"=true)
  (a5:W.nsIn K mainGlobals "BadWord"=some (some (.ref CW)))
  (x5:W.excIn K CW [.type "ValueError",.type "Exception",.type "BaseException",.type "object"] "ValueError.__new__"=true)
  :r6 K mg:=
 ⟨CK,CT,C2,CN,C0,CW,⟨W.mg_of X G a0,x0⟩,⟨W.mg_of X G a1,x1⟩,⟨W.mg_of X G a2,x2⟩,⟨W.mg_of X G a3,x3⟩,⟨W.mg_of X G a4,x4⟩,⟨W.mg_of X G a5,x5⟩⟩
def Bk(K:W.Frag)(mg:Str->Option Value):Prop:=∃ C:Addr,iF K mg C/\(∃ f d,kR K "__init__" "Book.__init__" jW f d #[.none]/\L2.Mk K C f)/\(∃ f d,fD K "many" "Book.many" jO f d/\Meth K C "many" f)/\(∃ f d,fD K "total" "Book.total" lP f d/\Meth K C "total" f)/\(∃ f d,fD K "need_own" "Book.need_own" lH f d/\Meth K C "need_own" f)/\(∃ f d,fD K "key_of" "Book.key_of" kL f d/\Meth K C "key_of" f)/\(∃ f d,fD K "text_of" "Book.text_of" kz f d/\Meth K C "text_of" f)/\(∃ f d,fD K "size_of" "Book.size_of" lW f d/\Meth K C "size_of" f)/\(∃ f d,fD K "number_of" "Book.number_of" lB f d/\Meth K C "number_of" f)/\(∃ f d,fD K "words" "Book.words" kK f d/\Meth K C "words" f)/\(∃ f d,fD K "starts" "Book.starts" kD f d/\Meth K C "starts" f)/\(∃ f d,fD K "parts_of" "Book.parts_of" j8 f d/\Meth K C "parts_of" f)/\(∃ f d,fD K "row_of" "Book.row_of" kJ f d/\Meth K C "row_of" f)/\(∃ f d,fD K "walk_of" "Book.walk_of" mx f d/\Meth K C "walk_of" f)
theorem AH{fI T:Addr}{odI anI tdI:Option Addr}{slI tslI:Array (Option Value)}{ocI kVI dcI pmI cdI ctI tcI:Value}{tnI:Nat}{f0:Addr}{od0 an0:Option Addr}{sl0:Array (Option Value)}{oc0 kV0 dc0 pm0 cd0 ct0:Value}{f1:Addr}{od1 an1:Option Addr}{sl1:Array (Option Value)}{oc1 kV1 dc1 pm1 cd1 ct1:Value}{f2:Addr}{od2 an2:Option Addr}{sl2:Array (Option Value)}{oc2 kV2 dc2 pm2 cd2 ct2:Value}{f3:Addr}{od3 an3:Option Addr}{sl3:Array (Option Value)}{oc3 kV3 dc3 pm3 cd3 ct3:Value}{f4:Addr}{od4 an4:Option Addr}{sl4:Array (Option Value)}{oc4 kV4 dc4 pm4 cd4 ct4:Value}{f5:Addr}{od5 an5:Option Addr}{sl5:Array (Option Value)}{oc5 kV5 dc5 pm5 cd5 ct5:Value}{f6:Addr}{od6 an6:Option Addr}{sl6:Array (Option Value)}{oc6 kV6 dc6 pm6 cd6 ct6:Value}{f7:Addr}{od7 an7:Option Addr}{sl7:Array (Option Value)}{oc7 kV7 dc7 pm7 cd7 ct7:Value}{f8:Addr}{od8 an8:Option Addr}{sl8:Array (Option Value)}{oc8 kV8 dc8 pm8 cd8 ct8:Value}{f9:Addr}{od9 an9:Option Addr}{sl9:Array (Option Value)}{oc9 kV9 dc9 pm9 cd9 ct9:Value}{f10:Addr}{od10 an10:Option Addr}{sl10:Array (Option Value)}{oc10 kV10 dc10 pm10 cd10 ct10:Value}{f11:Addr}{od11 an11:Option Addr}{sl11:Array (Option Value)}{oc11 kV11 dc11 pm11 cd11 ct11:Value}
  (X:K.In h)(G:h.Ns mainGlobals mg)
  (aC:W.nsIn K mainGlobals "Book"=some (some (.ref C)))
  (aI:W.findIn K (.ref C) "__init__"=some (some (.ref fI)))
  (iI:W.isFn K (.ref fI)=true)
  (lI:K.lookup fI=some ⟨ocI,odI,.func (W.fnOf "__init__" "Book.__init__" (gF jW) (gm jW) (er jW) (.ref T) kVI dcI pmI anI cdI ctI),slI⟩)
  (cI:W.codeIn K cdI "Book.__init__"=true)
  (tI:K.lookup T=some ⟨tcI,tdI,.seq #[.none] tnI,tslI⟩)
  (a0:W.findIn K (.ref C) "many"=some (some (.ref f0)))
  (i0:W.isFn K (.ref f0)=true)
  (l0:K.lookup f0=some ⟨oc0,od0,.func (W.fnOf "many" "Book.many" (gF jO) (gm jO) (er jO) .none kV0 dc0 pm0 an0 cd0 ct0),sl0⟩)
  (c0:W.codeIn K cd0 "Book.many"=true)
  (k0:W.keepIn K (.ref f0)=true)
  (a1:W.findIn K (.ref C) "total"=some (some (.ref f1)))
  (i1:W.isFn K (.ref f1)=true)
  (l1:K.lookup f1=some ⟨oc1,od1,.func (W.fnOf "total" "Book.total" (gF lP) (gm lP) (er lP) .none kV1 dc1 pm1 an1 cd1 ct1),sl1⟩)
  (c1:W.codeIn K cd1 "Book.total"=true)
  (k1:W.keepIn K (.ref f1)=true)
  (a2:W.findIn K (.ref C) "need_own"=some (some (.ref f2)))
  (i2:W.isFn K (.ref f2)=true)
  (l2:K.lookup f2=some ⟨oc2,od2,.func (W.fnOf "need_own" "Book.need_own" (gF lH) (gm lH) (er lH) .none kV2 dc2 pm2 an2 cd2 ct2),sl2⟩)
  (c2:W.codeIn K cd2 "Book.need_own"=true)
  (k2:W.keepIn K (.ref f2)=true)
  (a3:W.findIn K (.ref C) "key_of"=some (some (.ref f3)))
  (i3:W.isFn K (.ref f3)=true)
  (l3:K.lookup f3=some ⟨oc3,od3,.func (W.fnOf "key_of" "Book.key_of" (gF kL) (gm kL) (er kL) .none kV3 dc3 pm3 an3 cd3 ct3),sl3⟩)
  (c3:W.codeIn K cd3 "Book.key_of"=true)
  (k3:W.keepIn K (.ref f3)=true)
  (a4:W.findIn K (.ref C) "text_of"=some (some (.ref f4)))
  (i4:W.isFn K (.ref f4)=true)
  (l4:K.lookup f4=some ⟨oc4,od4,.func (W.fnOf "text_of" "Book.text_of" (gF kz) (gm kz) (er kz) .none kV4 dc4 pm4 an4 cd4 ct4),sl4⟩)
  (c4:W.codeIn K cd4 "Book.text_of"=true)
  (k4:W.keepIn K (.ref f4)=true)
  (a5:W.findIn K (.ref C) "size_of"=some (some (.ref f5)))
  (i5:W.isFn K (.ref f5)=true)
  (l5:K.lookup f5=some ⟨oc5,od5,.func (W.fnOf "size_of" "Book.size_of" (gF lW) (gm lW) (er lW) .none kV5 dc5 pm5 an5 cd5 ct5),sl5⟩)
  (c5:W.codeIn K cd5 "Book.size_of"=true)
  (k5:W.keepIn K (.ref f5)=true)
  (a6:W.findIn K (.ref C) "number_of"=some (some (.ref f6)))
  (i6:W.isFn K (.ref f6)=true)
  (l6:K.lookup f6=some ⟨oc6,od6,.func (W.fnOf "number_of" "Book.number_of" (gF lB) (gm lB) (er lB) .none kV6 dc6 pm6 an6 cd6 ct6),sl6⟩)
  (c6:W.codeIn K cd6 "Book.number_of"=true)
  (k6:W.keepIn K (.ref f6)=true)
  (a7:W.findIn K (.ref C) "words"=some (some (.ref f7)))
  (i7:W.isFn K (.ref f7)=true)
  (l7:K.lookup f7=some ⟨oc7,od7,.func (W.fnOf "words" "Book.words" (gF kK) (gm kK) (er kK) .none kV7 dc7 pm7 an7 cd7 ct7),sl7⟩)
  (c7:W.codeIn K cd7 "Book.words"=true)
  (k7:W.keepIn K (.ref f7)=true)
  (a8:W.findIn K (.ref C) "starts"=some (some (.ref f8)))
  (i8:W.isFn K (.ref f8)=true)
  (l8:K.lookup f8=some ⟨oc8,od8,.func (W.fnOf "starts" "Book.starts" (gF kD) (gm kD) (er kD) .none kV8 dc8 pm8 an8 cd8 ct8),sl8⟩)
  (c8:W.codeIn K cd8 "Book.starts"=true)
  (k8:W.keepIn K (.ref f8)=true)
  (a9:W.findIn K (.ref C) "parts_of"=some (some (.ref f9)))
  (i9:W.isFn K (.ref f9)=true)
  (l9:K.lookup f9=some ⟨oc9,od9,.func (W.fnOf "parts_of" "Book.parts_of" (gF j8) (gm j8) (er j8) .none kV9 dc9 pm9 an9 cd9 ct9),sl9⟩)
  (c9:W.codeIn K cd9 "Book.parts_of"=true)
  (k9:W.keepIn K (.ref f9)=true)
  (a10:W.findIn K (.ref C) "row_of"=some (some (.ref f10)))
  (i10:W.isFn K (.ref f10)=true)
  (l10:K.lookup f10=some ⟨oc10,od10,.func (W.fnOf "row_of" "Book.row_of" (gF kJ) (gm kJ) (er kJ) .none kV10 dc10 pm10 an10 cd10 ct10),sl10⟩)
  (c10:W.codeIn K cd10 "Book.row_of"=true)
  (k10:W.keepIn K (.ref f10)=true)
  (a11:W.findIn K (.ref C) "walk_of"=some (some (.ref f11)))
  (i11:W.isFn K (.ref f11)=true)
  (l11:K.lookup f11=some ⟨oc11,od11,.func (W.fnOf "walk_of" "Book.walk_of" (gF mx) (gm mx) (er mx) .none kV11 dc11 pm11 an11 cd11 ct11),sl11⟩)
  (c11:W.codeIn K cd11 "Book.walk_of"=true)
  (k11:W.keepIn K (.ref f11)=true)
  (pg:W.plainGet K C Str.empty=true)
  (hd:W.hasDictIn K C=true)
  (po:W.plainOver K C=true)
  (sa:W.findIn K (.ref C) "__setattr__"=some (some (.builtin "object.__setattr__")))
  (mk:W.makesIn K C=true)
  (kc:W.keepIn K (.ref C)=true)
  (nN:W.findIn K (.ref C) "numbers"=some none)
  (nP:W.findIn K (.ref C) "pairs"=some none)
  (nS:W.findIn K (.ref C) "sizes"=some none)
  (nR:W.findIn K (.ref C) "rows"=some none)
  (nI:W.findIn K (.ref C) "rising"=some none)
  :Bk K mg:=
 ⟨C,⟨⟨pg,hd,po,sa⟩,nN,nP,nS,nR,nI,W.mg_of X G aC⟩,⟨fI,_,⟨ocI,odI,kVI,dcI,pmI,anI,cdI,ctI,slI,T,_,tnI,rfl,lI,cI,tI,rfl⟩,⟨mk,aI,iI,kc⟩⟩,⟨f0,_,iM l0 c0 k0,⟨a0,i0,k0⟩⟩,⟨f1,_,iM l1 c1 k1,⟨a1,i1,k1⟩⟩,⟨f2,_,iM l2 c2 k2,⟨a2,i2,k2⟩⟩,⟨f3,_,iM l3 c3 k3,⟨a3,i3,k3⟩⟩,⟨f4,_,iM l4 c4 k4,⟨a4,i4,k4⟩⟩,⟨f5,_,iM l5 c5 k5,⟨a5,i5,k5⟩⟩,⟨f6,_,iM l6 c6 k6,⟨a6,i6,k6⟩⟩,⟨f7,_,iM l7 c7 k7,⟨a7,i7,k7⟩⟩,⟨f8,_,iM l8 c8 k8,⟨a8,i8,k8⟩⟩,⟨f9,_,iM l9 c9 k9,⟨a9,i9,k9⟩⟩,⟨f10,_,iM l10 c10 k10,⟨a10,i10,k10⟩⟩,⟨f11,_,iM l11 c11 k11,⟨a11,i11,k11⟩⟩⟩
def Wk(K:W.Frag)(mg:Str->Option Value):Prop:=∃(C:Addr),pS K mg C/\(∃ f d,fD K "__init__" "Walk.__init__" mC f d/\L2.Mk K C f)/\(∃ f d,fD K "rest" "Walk.rest" my f d/\Meth K C "rest" f)
theorem Bz{f:Addr}{od an:Option Addr}{sl:Array (Option Value)}{oc kV dc pm cd ct:Value}{f0:Addr}{od0 an0:Option Addr}{sl0:Array (Option Value)}{oc0 kV0 dc0 pm0 cd0 ct0:Value}(X:K.In h)(G:h.Ns mainGlobals mg)
  (aC:W.nsIn K mainGlobals "Walk"=some (some (.ref CWk)))
  (aI:W.findIn K (.ref CWk) "__init__"=some (some (.ref f)))
  (iI:W.isFn K (.ref f)=true)
  (lI:K.lookup f=some ⟨oc,od,.func (W.fnOf "__init__" "Walk.__init__" (gF mC) (gm mC) (er mC) .none kV dc pm an cd ct),sl⟩)
  (cI:W.codeIn K cd "Walk.__init__"=true)
  (kI:W.keepIn K (.ref f)=true)
  (a0:W.findIn K (.ref CWk) "rest"=some (some (.ref f0)))
  (i0:W.isFn K (.ref f0)=true)
  (l0:K.lookup f0=some ⟨oc0,od0,.func (W.fnOf "rest" "Walk.rest" (gF my) (gm my) (er my) .none kV0 dc0 pm0 an0 cd0 ct0),sl0⟩)
  (c0:W.codeIn K cd0 "Walk.rest"=true)
  (k0:W.keepIn K (.ref f0)=true)
  (pg:W.plainGet K CWk Str.empty=true)
  (hd:W.hasDictIn K CWk=true)
  (po:W.plainOver K CWk=true)
  (sa:W.findIn K (.ref CWk) "__setattr__"=some (some (.builtin "object.__setattr__")))
  (mk:W.makesIn K CWk=true)
  (kc:W.keepIn K (.ref CWk)=true)
  (nP:W.findIn K (.ref CWk) "pairs"=some none)
  (nL:W.findIn K (.ref CWk) "place"=some none)
  :Wk K mg:=
 ⟨CWk,⟨⟨pg,hd,po,sa⟩,nP,nL,W.mg_of X G aC⟩,⟨f,_,iM lI cI kI,⟨mk,aI,iI,kc⟩⟩,⟨f0,_,iM l0 c0 k0,⟨a0,i0,k0⟩⟩⟩
theorem Hi(T:Txt mg)(X:r6 K mg)(B:Bk K mg)(W:Wk K mg)
  (d_sWhole:∃ f fd,Df K mg "is_whole" km f fd)
  (d_sSign:∃ f fd,Df K mg "is_text_sign" oS f fd)
  (d_sText:∃ f fd,Df K mg "is_text" nM f fd)
  (d_sRow:∃ f fd,Df K mg "is_small_row" lT f fd)
  (d_sKey:∃ f fd,Df K mg "is_key" ng f fd)
  (d_sNText:∃ f fd,Df K mg "need_text" nu f fd)
  (d_sNKey:∃ f fd,Df K mg "need_key" pF f fd)
  (d_sOne:∃ f fd,Df K mg "parts_of_one" pO f fd)
  (d_sPacked:∃ f fd,Df K mg "packed" pd f fd)
  (d_sNParts:∃ f fd,Df K mg "need_parts" p4 f fd)
  (d_sUnp:∃ f fd,Df K mg "unpacked" ou f fd)
  (d_sRis:∃ f fd,Df K mg "is_rising" mw f fd)
  (d_sHasP:∃ f fd,Df K mg "has_places" oN f fd)
  (d_sNRow:∃ f fd,Df K mg "need_row" mr f fd)
  (d_sGaps:∃ f fd,Df K mg "gaps_of" mJ f fd)
  (d_sNums:∃ f fd,Df K mg "numbers_by" oT f fd)
  (d_sPRow:∃ f fd,Df K mg "packed_row" nH f fd)
  (d_sURow:∃ f fd,Df K mg "unpacked_row" nh f fd)
  (d_sWord:∃ f fd,Df K mg "is_word" pB f fd)
  (d_sNWord:∃ f fd,Df K mg "need_word" m8 f fd)
  (d_sWordsIn:∃ f fd,Df K mg "words_in" oA f fd)
  (d_sPlain:∃ f fd,Df K mg "plain_words" nT f fd)
  (d_sNBK:∃ f fd,Df K mg "numbers_by_key" oh f fd)
  (d_sPBW:∃ f fd,Df K mg "places_by_word" oZ f fd)
  (d_sPRs:∃ f fd,Df K mg "packed_rows" ni f fd)
  (d_sRBW:∃ f fd,Df K mg "rows_by_word" oJ f fd)
  (d_sCopy:∃ f fd,Df K mg "copied_rows" oO f fd)
  (d_lCell:∃ f fd,Df K mg "_law_cell_at" lL f fd)
  (d_lMixed:∃ f fd,Df K mg "_law_mixed" kY f fd)
  (d_lNumber:∃ f fd,Df K mg "_law_number" lN f fd)
  (d_lMenu:∃ f fd,Df K mg "_law_menu" mi f fd)
  (d_lText:∃ f fd,Df K mg "_law_text" oI f fd)
  (d_lSmall:∃ f fd,Df K mg "_law_small" oQ f fd)
  (d_lWords:∃ f fd,Df K mg "_law_words" m5 f fd)
  (d_lKey:∃ f fd,Df K mg "_law_key" px f fd)
  (d_lPairs:∃ f fd,Df K mg "_law_pairs" og f fd)
  (d_lRows:∃ f fd,Df K mg "_law_rows" mf f fd)
  (d_lParts:∃ f fd,Df K mg "_law_parts" p8 f fd)
  (d_lListIs:∃ f fd,Df K mg "_law_list_is" m7 f fd)
  (d_lFar:∃ f fd,Df K mg "_law_far_pairs" m3 f fd)
  (d_lTT:∃ f fd,Df K mg "_law_texts_told" m9 f fd)
  (d_lWT:∃ f fd,Df K mg "_law_words_told" lp f fd)
  (d_lTells:∃ f fd,Df K mg "_law_tells" nC f fd)
  (d_sNGone:∃ f fd,Df K mg "need_gone" pE f fd)
  (d_sPour:∃ f fd,Df K mg "pour_rows" oo f fd)
  (d_lGone:∃ f fd,Df K mg "_law_gone" pM f fd)
  (d_lLeft:∃ f fd,Df K mg "_law_left" ma f fd)
  (d_lDbl:∃ f fd,Df K mg "_law_doubled" p3 f fd)
  (d_lTwo:∃ f fd,Df K mg "_law_two_steps" lK f fd)
  (d_sNNum:∃ f fd,ir K mg "need_number" kS f fd #[.none])
  (d_sPoured:∃ f fd,ir K mg "poured" nX f fd #[.none])
  {f:Addr}{fd:FuncData}(D:Df K mg "law" jB f fd):d8 P w K mg base eu 12 f fd ["_law_script"] (mZ K):=by
 obtain⟨CK,CT,C2,CN,C0,CW,XK,XT,X2,XN,X0,XW⟩:=X
 obtain⟨C,BC,⟨fI,dI,FI,MI⟩,⟨f0,e0,F0,M0⟩,⟨f1,e1,F1,M1⟩,⟨f2,e2,F2,M2⟩,⟨f3,e3,F3,M3⟩,⟨f4,e4,F4,M4⟩,⟨f5,e5,F5,M5⟩,⟨f6,e6,F6,M6⟩,⟨f7,e7,F7,M7⟩,⟨f8,e8,F8,M8⟩,⟨f9,e9,F9,M9⟩,⟨b6,b7,bF,bN⟩,⟨b8,b9,bO,bX⟩⟩:=B
 obtain⟨CWk,TW,⟨fW,dW,bP,bY⟩,⟨fR,eR,bQ,bZ⟩⟩:=W
 obtain⟨_,_,I⟩:=d_sWhole
 obtain⟨_,_,bc⟩:=d_sSign
 obtain⟨_,_,aF⟩:=d_sText
 obtain⟨_,_,aU⟩:=d_sRow
 obtain⟨_,_,aB⟩:=d_sKey
 obtain⟨_,_,ae⟩:=d_sNText
 obtain⟨_,_,aG⟩:=d_sNKey
 obtain⟨_,_,aV⟩:=d_sOne
 obtain⟨_,_,ao⟩:=d_sPacked
 obtain⟨_,_,aq⟩:=d_sNParts
 obtain⟨_,_,aW⟩:=d_sUnp
 obtain⟨_,_,ak⟩:=d_sRis
 obtain⟨_,_,aH⟩:=d_sHasP
 obtain⟨_,_,aI⟩:=d_sNRow
 obtain⟨_,_,bf⟩:=d_sGaps
 obtain⟨_,_,bg⟩:=d_sNums
 obtain⟨_,_,aJ⟩:=d_sPRow
 obtain⟨_,_,ar⟩:=d_sURow
 obtain⟨_,_,aK⟩:=d_sWord
 obtain⟨_,_,af⟩:=d_sNWord
 obtain⟨_,_,aj⟩:=d_sWordsIn
 obtain⟨_,_,ax⟩:=d_sPlain
 obtain⟨_,_,aX⟩:=d_sNBK
 obtain⟨_,_,aY⟩:=d_sPBW
 obtain⟨_,_,aC⟩:=d_sPRs
 obtain⟨_,_,aZ⟩:=d_sRBW
 obtain⟨_,_,aL⟩:=d_sCopy
 obtain⟨_,_,ab⟩:=d_lCell
 obtain⟨_,_,ag⟩:=d_lMixed
 obtain⟨_,_,J⟩:=d_lNumber
 obtain⟨_,_,aM⟩:=d_lMenu
 obtain⟨_,_,aN⟩:=d_lText
 obtain⟨_,_,bb⟩:=d_lSmall
 obtain⟨_,_,ah⟩:=d_lWords
 obtain⟨_,_,a0⟩:=d_lKey
 obtain⟨_,_,ay⟩:=d_lPairs
 obtain⟨_,_,aO⟩:=d_lRows
 obtain⟨_,_,az⟩:=d_lParts
 obtain⟨_,_,au⟩:=d_lListIs
 obtain⟨_,_,a3⟩:=d_lFar
 obtain⟨_,_,bh⟩:=d_lTT
 obtain⟨_,_,bj⟩:=d_lWT
 obtain⟨_,_,ai⟩:=d_lTells
 obtain⟨_,_,aA⟩:=d_sNGone
 obtain⟨_,_,aP⟩:=d_sPour
 obtain⟨_,_,aQ⟩:=d_lGone
 obtain⟨_,_,av⟩:=d_lLeft
 obtain⟨_,_,a4⟩:=d_lDbl
 obtain⟨_,_,a5⟩:=d_lTwo
 obtain⟨_,_,U⟩:=d_sNNum
 obtain⟨_,_,aa⟩:=d_sPoured
 have bG:=CV (P:=P) (w:=w) (base:=base) aF bc T
 have bD:=A6 (P:=P) (w:=w) (base:=base) aB aU T
 have bH:=Be (P:=P) (w:=w) (base:=base) aK aU T
 have a6:=D5 ae aF XT bG
 have bI:=Eg aG aB XK bD
 have a7:=Dx af aK XW bH
 have bo:=E4 (P:=P) (w:=w) (base:=base) U I XN T
 have bz:=GZ ax aj (AQ aj ae a6 T)
 have bR:=Fc (P:=P) (w:=w) (base:=base) aW aq (HQ aq I T) T
 have bp:=BY ar aW bR bg T
 have bq:=D7 (P:=P) (w:=w) (base:=base) ao aV (Gm aV T) U (HI U I T)
 have bJ:=Bg (P:=P) (w:=w) (base:=base) aI ak (E2 ak I T) aH (Fd aH ak (Ak ak I T) T) T
 have bK:=Dw aJ aI bJ bf ao bq T
 have bE:=Hm aC aJ bK
 have bS:=Ee aZ aY (E3 aY T) aC bE T
 have bT:=Ey aX aG bI ae a6 X2 T
 have br:=Dt FI BC T aX bT ax bz aZ bS aL (EJ aL T)
 have aD:=Gg (P:=P) (w:=w) (base:=base) F0 BC T
 have bA:=HV (P:=P) (w:=w) (base:=base) F1 BC T
 have bt:=Hd F2 BC F0 M0 aD U bo
 have a8:=C8 F2 M2 bt BC F3
 have aR:=EU F2 M2 bt BC F4
 have bu:=FY F2 M2 bt BC F5
 have bB:=zZ F6 BC aB bD X0
 have a9:=Cz (P:=P) (w:=w) (base:=base) F7 BC T
 have bw:=B6 F8 BC af a7
 have aE:=G9 F9 BC af a7 T
 have ba:=DQ bF BC F9 M9 aE ar bp
 have b0:=HW bP TW ar bp
 have bx:=Ec bO BC F9 M9 aE bP bY TW b0
 have bL:=AI (P:=P) (w:=w) (base:=base) bQ TW
 have BM:rH P w K mg base C CWk CN C0 CW:=⟨BC,⟨_,_,F0,M0,aD⟩,⟨_,_,F1,M1,bA⟩,⟨_,_,F3,M3,a8⟩,⟨_,_,F4,M4,aR⟩,⟨_,_,F5,M5,bu⟩,⟨_,_,F6,M6,bB⟩,⟨_,_,F7,M7,a9⟩,⟨_,_,F9,M9,aE⟩,⟨_,_,bF,bN,ba⟩,⟨_,_,F8,M8,bw⟩,⟨_,_,bO,bX,bx⟩,TW,⟨_,_,bQ,bZ,bL⟩⟩
 have aw:=Du (P:=P) (w:=w) (base:=base) J ag T
 have bC:=Ia ay J aw a0 (A1 a0 T) aN (BF aN ag T) T
 have bU:=Ax (P:=P) (w:=w) (base:=base) ah bb T
 have b1:=Ga aO ah bU T
 have b2:=Cp bh BM ah bU T
 have b3:=Dm bj BM au (zY au T) az (AG az T) T
 have bV:=GY ai aO b1 bh b2 bj b3 T
 have b4:=FV aA BC F0 M0 aD U bo XN T
 have bM:=CS aP BC F7 M7 a9 bF bN ba
 have aS:=Ag aa BC T aA b4 F0 M0 aD F3 M3 a8 F4 M4 aR aP bM aC bE FI MI br
 have aT:=Al (P:=P) (w:=w) (base:=base) ab T
 have bW:=Hv (P:=P) (w:=w) (base:=base) av T
 have b5:=Ce a5 aa aS av bW ai bV T
 exact Er D T BM aM (Gy aM ag T) J aw ay bC ab aT a3 (Gz a3 T) ai bV FI MI br aQ (CQ aQ J aw ab aT T) av bW a4 (Hh a4 ab aT T) a5 b5 aa aS
theorem Dd{f fa:Addr}{oc kV doc pm cd ct:Value}{od an:Option Addr}{sl:Array (Option Value)}(X:K.In h)(G:h.Ns mainGlobals mg)(hfa:mg "law"=some (.ref fa))(a:W.nsIn K mainGlobals "law"=some (some (.ref f)))
  (l:K.lookup f=some ⟨oc,od,.func (W.fnOf "law" "law" (gF jB) (gm jB) (er jB) .none kV doc pm an cd ct),sl⟩)(c:W.codeIn K cd "law"=true)(k:W.keepIn K (.ref f)=true)
  (ok:∀(fd:FuncData) (base:Heap),Df K mg "law" jB f fd->d8 P w K mg base eu 12 f fd ["_law_script"] (mZ K)):
  ∃ fd:FuncData,(∀(s:Shared) (v:Value),BindsTo s fd ⟨[v],[]⟩ [("_law_script",v)])/\∀ base:Heap,K.In base->base.Ns mainGlobals mg->d8 P w K mg base eu 12 fa fd ["_law_script"] (mZ K):=by
 have e:=hfa.symm.trans (W.mg_of X G a)
 cases e
 exact⟨W.fnOf "law" "law" (gF jB) (gm jB) (er jB) .none kV doc pm an cd ct,fun s v=> .of_eq rfl,fun base _ _=>ok _ base ⟨iM l c k,W.mg_of X G a⟩⟩
end
theorem walk{l:W.OpenLaw}{q:Program}{loose:List Str}{XP:(Str->Option Value)->Heap->Prop}{YP:World->Heap->Prop}{d:DefRec}{K:Params->W.Frag}(hn:l.most=some 63)(hdf:d.params.defaults=[])
  (hY:∀(w:World) (h:Heap),YP w h->(K w.params).In h)
  (F:∀(w:World) (mg:Str->Option Value) (fa:Addr) (h:Heap),(K w.params).In h->h.Ns mainGlobals mg->mg d.name=some (.ref fa)->
   ∃ fd:FuncData,(∀(s:Shared) (u:Value),BindsTo s fd ⟨[u],[]⟩ [("_law_script",u)])/\∀ base:Heap,(K w.params).In base->base.Ns mainGlobals mg->d8 l.prog w (K w.params) mg base eu 12 fa fd ["_law_script"] (mZ (K w.params))):
  W.WalkO q loose XP YP l.row.toRowW d [] (fun f vs=>PySem.call f vs):=
 G7 (n:=63) (k:=12) (x:="_law_script") (sp:=mZ) hn (by decide) hdf ⟨rfl,by decide,by decide⟩ hY F fun K H a ns I hb J=>⟨a,ns,rfl,J,I,fun _=>rfl⟩
end K09
open PySem PySem.W PyProof.Rows
set_option maxRecDepth 100000 in
set_option maxHeartbeats 0 in
theorem PySem.Challenge.cw_findhall_k09_whole_poured_holds : PySem.Challenge.rw_findhall_k09_whole_poured.Holds := by
 refine H09.head ?_
 k_fill
 refine K09.walk (l := PySem.Challenge.rw_findhall_k09_whole_poured) rfl rfl (fun w h Y => PySem.W.kIn_of Y) ?F
 case F =>
  intro w mg fa h I G bb
  have hC : K09.r6 (L2.eF I) mg := by
   dsimp only [L2.eF]
   refine' K09.Au I G ?a0 ?x0 ?a1 ?x1 ?a2 ?x2 ?a3 ?x3 ?a4 ?x4 ?a5 ?x5
   (case a0 => k_is)
   (case x0 => k_exc)
   (case a1 => k_is)
   (case x1 => k_exc)
   (case a2 => k_is)
   (case x2 => k_exc)
   (case a3 => k_is)
   (case x3 => k_exc)
   (case a4 => k_is)
   (case x4 => k_exc)
   (case a5 => k_is)
   (case x5 => k_exc)
  have T : K09.Txt mg := by
   refine' K09.AU I G ?n0 ?n1 ?n2 ?n3 ?n4 ?n5 ?n6 ?n7 ?n8 ?n9 ?n10 ?n11 ?n12 ?n13 ?n14 ?c0 ?c1 ?c2 ?c3 ?c4 ?c5 ?c6
   (case n0 => k_is)
   (case n1 => k_is)
   (case n2 => k_is)
   (case n3 => k_is)
   (case n4 => k_is)
   (case n5 => k_is)
   (case n6 => k_is)
   (case n7 => k_is)
   (case n8 => k_is)
   (case n9 => k_is)
   (case n10 => k_is)
   (case n11 => k_is)
   (case n12 => k_is)
   (case n13 => k_is)
   (case n14 => k_is)
   (case c0 => k_is)
   (case c1 => k_is)
   (case c2 => k_is)
   (case c3 => k_is)
   (case c4 => k_is)
   (case c5 => k_is)
   (case c6 => k_is)
  have B : K09.Bk (L2.eF I) mg := by
   dsimp only [L2.eF]
   refine' K09.AH I G ?zaC ?zaI ?ziI ?zlI ?zcI ?ztI ?za0 ?zi0 ?zl0 ?zc0 ?zk0 ?za1 ?zi1 ?zl1 ?zc1 ?zk1 ?za2 ?zi2 ?zl2 ?zc2 ?zk2 ?za3 ?zi3 ?zl3 ?zc3 ?zk3 ?za4 ?zi4 ?zl4 ?zc4 ?zk4 ?za5 ?zi5 ?zl5 ?zc5 ?zk5 ?za6 ?zi6 ?zl6 ?zc6 ?zk6 ?za7 ?zi7 ?zl7 ?zc7 ?zk7 ?za8 ?zi8 ?zl8 ?zc8 ?zk8 ?za9 ?zi9 ?zl9 ?zc9 ?zk9 ?za10 ?zi10 ?zl10 ?zc10 ?zk10 ?za11 ?zi11 ?zl11 ?zc11 ?zk11 ?zpg ?zhd ?zpo ?zsa ?zmk ?zkc ?znN ?znP ?znS ?znR ?znI
   (case zaC => k_is)
   (case zaI => k_is)
   (case ziI => k_is)
   (case zlI => k_is)
   (case zcI => k_is)
   (case ztI => k_is)
   (case za0 => k_is)
   (case zi0 => k_is)
   (case zl0 => k_is)
   (case zc0 => k_is)
   (case zk0 => k_is)
   (case za1 => k_is)
   (case zi1 => k_is)
   (case zl1 => k_is)
   (case zc1 => k_is)
   (case zk1 => k_is)
   (case za2 => k_is)
   (case zi2 => k_is)
   (case zl2 => k_is)
   (case zc2 => k_is)
   (case zk2 => k_is)
   (case za3 => k_is)
   (case zi3 => k_is)
   (case zl3 => k_is)
   (case zc3 => k_is)
   (case zk3 => k_is)
   (case za4 => k_is)
   (case zi4 => k_is)
   (case zl4 => k_is)
   (case zc4 => k_is)
   (case zk4 => k_is)
   (case za5 => k_is)
   (case zi5 => k_is)
   (case zl5 => k_is)
   (case zc5 => k_is)
   (case zk5 => k_is)
   (case za6 => k_is)
   (case zi6 => k_is)
   (case zl6 => k_is)
   (case zc6 => k_is)
   (case zk6 => k_is)
   (case za7 => k_is)
   (case zi7 => k_is)
   (case zl7 => k_is)
   (case zc7 => k_is)
   (case zk7 => k_is)
   (case za8 => k_is)
   (case zi8 => k_is)
   (case zl8 => k_is)
   (case zc8 => k_is)
   (case zk8 => k_is)
   (case za9 => k_is)
   (case zi9 => k_is)
   (case zl9 => k_is)
   (case zc9 => k_is)
   (case zk9 => k_is)
   (case za10 => k_is)
   (case zi10 => k_is)
   (case zl10 => k_is)
   (case zc10 => k_is)
   (case zk10 => k_is)
   (case za11 => k_is)
   (case zi11 => k_is)
   (case zl11 => k_is)
   (case zc11 => k_is)
   (case zk11 => k_is)
   (case zpg => k_is)
   (case zhd => k_is)
   (case zpo => k_is)
   (case zsa => k_is)
   (case zmk => k_is)
   (case zkc => k_is)
   (case znN => k_is)
   (case znP => k_is)
   (case znS => k_is)
   (case znR => k_is)
   (case znI => k_is)
  have W : K09.Wk (L2.eF I) mg := by
   dsimp only [L2.eF]
   refine' K09.Bz I G ?zaC ?zaI ?ziI ?zlI ?zcI ?zkI ?za0 ?zi0 ?zl0 ?zc0 ?zk0 ?zpg ?zhd ?zpo ?zsa ?zmk ?zkc ?znP ?znL
   (case zaC => k_is)
   (case zaI => k_is)
   (case ziI => k_is)
   (case zlI => k_is)
   (case zcI => k_is)
   (case zkI => k_is)
   (case za0 => k_is)
   (case zi0 => k_is)
   (case zl0 => k_is)
   (case zc0 => k_is)
   (case zk0 => k_is)
   (case zpg => k_is)
   (case zhd => k_is)
   (case zpo => k_is)
   (case zsa => k_is)
   (case zmk => k_is)
   (case zkc => k_is)
   (case znP => k_is)
   (case znL => k_is)
  have ag : ∃ f fd, Gn.Df (L2.eF I) mg "is_whole" K09.km f fd := by
   dsimp only [L2.eF]
   refine' Gn.fK I G ?a ?l ?c ?k
   (case a => k_is); (case l => k_is); (case c => k_is); (case k => k_is)
  have ax : ∃ f fd, Gn.Df (L2.eF I) mg "is_text_sign" K09.oS f fd := by
   dsimp only [L2.eF]
   refine' Gn.fK I G ?a ?l ?c ?k
   (case a => k_is); (case l => k_is); (case c => k_is); (case k => k_is)
  have ay : ∃ f fd, Gn.Df (L2.eF I) mg "is_text" K09.nM f fd := by
   dsimp only [L2.eF]
   refine' Gn.fK I G ?a ?l ?c ?k
   (case a => k_is); (case l => k_is); (case c => k_is); (case k => k_is)
  have aQ : ∃ f fd, Gn.Df (L2.eF I) mg "is_small_row" K09.lT f fd := by
   dsimp only [L2.eF]
   refine' Gn.fK I G ?a ?l ?c ?k
   (case a => k_is); (case l => k_is); (case c => k_is); (case k => k_is)
  have aR : ∃ f fd, Gn.Df (L2.eF I) mg "is_key" K09.ng f fd := by
   dsimp only [L2.eF]
   refine' Gn.fK I G ?a ?l ?c ?k
   (case a => k_is); (case l => k_is); (case c => k_is); (case k => k_is)
  have ah : ∃ f fd, Gn.Df (L2.eF I) mg "need_text" K09.nu f fd := by
   dsimp only [L2.eF]
   refine' Gn.fK I G ?a ?l ?c ?k
   (case a => k_is); (case l => k_is); (case c => k_is); (case k => k_is)
  have az : ∃ f fd, Gn.Df (L2.eF I) mg "need_key" K09.pF f fd := by
   dsimp only [L2.eF]
   refine' Gn.fK I G ?a ?l ?c ?k
   (case a => k_is); (case l => k_is); (case c => k_is); (case k => k_is)
  have aS : ∃ f fd, Gn.Df (L2.eF I) mg "parts_of_one" K09.pO f fd := by
   dsimp only [L2.eF]
   refine' Gn.fK I G ?a ?l ?c ?k
   (case a => k_is); (case l => k_is); (case c => k_is); (case k => k_is)
  have U : ∃ f fd, Gn.Df (L2.eF I) mg "packed" K09.pd f fd := by
   dsimp only [L2.eF]
   refine' Gn.fK I G ?a ?l ?c ?k
   (case a => k_is); (case l => k_is); (case c => k_is); (case k => k_is)
  have aa : ∃ f fd, Gn.Df (L2.eF I) mg "need_parts" K09.p4 f fd := by
   dsimp only [L2.eF]
   refine' Gn.fK I G ?a ?l ?c ?k
   (case a => k_is); (case l => k_is); (case c => k_is); (case k => k_is)
  have aT : ∃ f fd, Gn.Df (L2.eF I) mg "unpacked" K09.ou f fd := by
   dsimp only [L2.eF]
   refine' Gn.fK I G ?a ?l ?c ?k
   (case a => k_is); (case l => k_is); (case c => k_is); (case k => k_is)
  have aU : ∃ f fd, Gn.Df (L2.eF I) mg "is_rising" K09.mw f fd := by
   dsimp only [L2.eF]
   refine' Gn.fK I G ?a ?l ?c ?k
   (case a => k_is); (case l => k_is); (case c => k_is); (case k => k_is)
  have aA : ∃ f fd, Gn.Df (L2.eF I) mg "has_places" K09.oN f fd := by
   dsimp only [L2.eF]
   refine' Gn.fK I G ?a ?l ?c ?k
   (case a => k_is); (case l => k_is); (case c => k_is); (case k => k_is)
  have aB : ∃ f fd, Gn.Df (L2.eF I) mg "need_row" K09.mr f fd := by
   dsimp only [L2.eF]
   refine' Gn.fK I G ?a ?l ?c ?k
   (case a => k_is); (case l => k_is); (case c => k_is); (case k => k_is)
  have aC : ∃ f fd, Gn.Df (L2.eF I) mg "gaps_of" K09.mJ f fd := by
   dsimp only [L2.eF]
   refine' Gn.fK I G ?a ?l ?c ?k
   (case a => k_is); (case l => k_is); (case c => k_is); (case k => k_is)
  have aD : ∃ f fd, Gn.Df (L2.eF I) mg "numbers_by" K09.oT f fd := by
   dsimp only [L2.eF]
   refine' Gn.fK I G ?a ?l ?c ?k
   (case a => k_is); (case l => k_is); (case c => k_is); (case k => k_is)
  have aE : ∃ f fd, Gn.Df (L2.eF I) mg "packed_row" K09.nH f fd := by
   dsimp only [L2.eF]
   refine' Gn.fK I G ?a ?l ?c ?k
   (case a => k_is); (case l => k_is); (case c => k_is); (case k => k_is)
  have aF : ∃ f fd, Gn.Df (L2.eF I) mg "unpacked_row" K09.nh f fd := by
   dsimp only [L2.eF]
   refine' Gn.fK I G ?a ?l ?c ?k
   (case a => k_is); (case l => k_is); (case c => k_is); (case k => k_is)
  have aG : ∃ f fd, Gn.Df (L2.eF I) mg "is_word" K09.pB f fd := by
   dsimp only [L2.eF]
   refine' Gn.fK I G ?a ?l ?c ?k
   (case a => k_is); (case l => k_is); (case c => k_is); (case k => k_is)
  have ai : ∃ f fd, Gn.Df (L2.eF I) mg "need_word" K09.m8 f fd := by
   dsimp only [L2.eF]
   refine' Gn.fK I G ?a ?l ?c ?k
   (case a => k_is); (case l => k_is); (case c => k_is); (case k => k_is)
  have J : ∃ f fd, Gn.Df (L2.eF I) mg "words_in" K09.oA f fd := by
   dsimp only [L2.eF]
   refine' Gn.fK I G ?a ?l ?c ?k
   (case a => k_is); (case l => k_is); (case c => k_is); (case k => k_is)
  have aj : ∃ f fd, Gn.Df (L2.eF I) mg "plain_words" K09.nT f fd := by
   dsimp only [L2.eF]
   refine' Gn.fK I G ?a ?l ?c ?k
   (case a => k_is); (case l => k_is); (case c => k_is); (case k => k_is)
  have aV : ∃ f fd, Gn.Df (L2.eF I) mg "numbers_by_key" K09.oh f fd := by
   dsimp only [L2.eF]
   refine' Gn.fK I G ?a ?l ?c ?k
   (case a => k_is); (case l => k_is); (case c => k_is); (case k => k_is)
  have aW : ∃ f fd, Gn.Df (L2.eF I) mg "places_by_word" K09.oZ f fd := by
   dsimp only [L2.eF]
   refine' Gn.fK I G ?a ?l ?c ?k
   (case a => k_is); (case l => k_is); (case c => k_is); (case k => k_is)
  have aX : ∃ f fd, Gn.Df (L2.eF I) mg "packed_rows" K09.ni f fd := by
   dsimp only [L2.eF]
   refine' Gn.fK I G ?a ?l ?c ?k
   (case a => k_is); (case l => k_is); (case c => k_is); (case k => k_is)
  have aY : ∃ f fd, Gn.Df (L2.eF I) mg "rows_by_word" K09.oJ f fd := by
   dsimp only [L2.eF]
   refine' Gn.fK I G ?a ?l ?c ?k
   (case a => k_is); (case l => k_is); (case c => k_is); (case k => k_is)
  have aH : ∃ f fd, Gn.Df (L2.eF I) mg "copied_rows" K09.oO f fd := by
   dsimp only [L2.eF]
   refine' Gn.fK I G ?a ?l ?c ?k
   (case a => k_is); (case l => k_is); (case c => k_is); (case k => k_is)
  have aI : ∃ f fd, Gn.Df (L2.eF I) mg "_law_cell_at" K09.lL f fd := by
   dsimp only [L2.eF]
   refine' Gn.fK I G ?a ?l ?c ?k
   (case a => k_is); (case l => k_is); (case c => k_is); (case k => k_is)
  have ak : ∃ f fd, Gn.Df (L2.eF I) mg "_law_mixed" K09.kY f fd := by
   dsimp only [L2.eF]
   refine' Gn.fK I G ?a ?l ?c ?k
   (case a => k_is); (case l => k_is); (case c => k_is); (case k => k_is)
  have ab : ∃ f fd, Gn.Df (L2.eF I) mg "_law_number" K09.lN f fd := by
   dsimp only [L2.eF]
   refine' Gn.fK I G ?a ?l ?c ?k
   (case a => k_is); (case l => k_is); (case c => k_is); (case k => k_is)
  have aJ : ∃ f fd, Gn.Df (L2.eF I) mg "_law_menu" K09.mi f fd := by
   dsimp only [L2.eF]
   refine' Gn.fK I G ?a ?l ?c ?k
   (case a => k_is); (case l => k_is); (case c => k_is); (case k => k_is)
  have aK : ∃ f fd, Gn.Df (L2.eF I) mg "_law_text" K09.oI f fd := by
   dsimp only [L2.eF]
   refine' Gn.fK I G ?a ?l ?c ?k
   (case a => k_is); (case l => k_is); (case c => k_is); (case k => k_is)
  have ao : ∃ f fd, Gn.Df (L2.eF I) mg "_law_small" K09.oQ f fd := by
   dsimp only [L2.eF]
   refine' Gn.fK I G ?a ?l ?c ?k
   (case a => k_is); (case l => k_is); (case c => k_is); (case k => k_is)
  have aq : ∃ f fd, Gn.Df (L2.eF I) mg "_law_words" K09.m5 f fd := by
   dsimp only [L2.eF]
   refine' Gn.fK I G ?a ?l ?c ?k
   (case a => k_is); (case l => k_is); (case c => k_is); (case k => k_is)
  have aZ : ∃ f fd, Gn.Df (L2.eF I) mg "_law_key" K09.px f fd := by
   dsimp only [L2.eF]
   refine' Gn.fK I G ?a ?l ?c ?k
   (case a => k_is); (case l => k_is); (case c => k_is); (case k => k_is)
  have ar : ∃ f fd, Gn.Df (L2.eF I) mg "_law_pairs" K09.og f fd := by
   dsimp only [L2.eF]
   refine' Gn.fK I G ?a ?l ?c ?k
   (case a => k_is); (case l => k_is); (case c => k_is); (case k => k_is)
  have aL : ∃ f fd, Gn.Df (L2.eF I) mg "_law_rows" K09.mf f fd := by
   dsimp only [L2.eF]
   refine' Gn.fK I G ?a ?l ?c ?k
   (case a => k_is); (case l => k_is); (case c => k_is); (case k => k_is)
  have au : ∃ f fd, Gn.Df (L2.eF I) mg "_law_parts" K09.p8 f fd := by
   dsimp only [L2.eF]
   refine' Gn.fK I G ?a ?l ?c ?k
   (case a => k_is); (case l => k_is); (case c => k_is); (case k => k_is)
  have ae : ∃ f fd, Gn.Df (L2.eF I) mg "_law_list_is" K09.m7 f fd := by
   dsimp only [L2.eF]
   refine' Gn.fK I G ?a ?l ?c ?k
   (case a => k_is); (case l => k_is); (case c => k_is); (case k => k_is)
  have a6 : ∃ f fd, Gn.Df (L2.eF I) mg "_law_far_pairs" K09.m3 f fd := by
   dsimp only [L2.eF]
   refine' Gn.fK I G ?a ?l ?c ?k
   (case a => k_is); (case l => k_is); (case c => k_is); (case k => k_is)
  have a9 : ∃ f fd, Gn.Df (L2.eF I) mg "_law_texts_told" K09.m9 f fd := by
   dsimp only [L2.eF]
   refine' Gn.fK I G ?a ?l ?c ?k
   (case a => k_is); (case l => k_is); (case c => k_is); (case k => k_is)
  have ba : ∃ f fd, Gn.Df (L2.eF I) mg "_law_words_told" K09.lp f fd := by
   dsimp only [L2.eF]
   refine' Gn.fK I G ?a ?l ?c ?k
   (case a => k_is); (case l => k_is); (case c => k_is); (case k => k_is)
  have av : ∃ f fd, Gn.Df (L2.eF I) mg "_law_tells" K09.nC f fd := by
   dsimp only [L2.eF]
   refine' Gn.fK I G ?a ?l ?c ?k
   (case a => k_is); (case l => k_is); (case c => k_is); (case k => k_is)
  have aw : ∃ f fd, Gn.Df (L2.eF I) mg "need_gone" K09.pE f fd := by
   dsimp only [L2.eF]
   refine' Gn.fK I G ?a ?l ?c ?k
   (case a => k_is); (case l => k_is); (case c => k_is); (case k => k_is)
  have aM : ∃ f fd, Gn.Df (L2.eF I) mg "pour_rows" K09.oo f fd := by
   dsimp only [L2.eF]
   refine' Gn.fK I G ?a ?l ?c ?k
   (case a => k_is); (case l => k_is); (case c => k_is); (case k => k_is)
  have aN : ∃ f fd, Gn.Df (L2.eF I) mg "_law_gone" K09.pM f fd := by
   dsimp only [L2.eF]
   refine' Gn.fK I G ?a ?l ?c ?k
   (case a => k_is); (case l => k_is); (case c => k_is); (case k => k_is)
  have aO : ∃ f fd, Gn.Df (L2.eF I) mg "_law_left" K09.ma f fd := by
   dsimp only [L2.eF]
   refine' Gn.fK I G ?a ?l ?c ?k
   (case a => k_is); (case l => k_is); (case c => k_is); (case k => k_is)
  have a7 : ∃ f fd, Gn.Df (L2.eF I) mg "_law_doubled" K09.p3 f fd := by
   dsimp only [L2.eF]
   refine' Gn.fK I G ?a ?l ?c ?k
   (case a => k_is); (case l => k_is); (case c => k_is); (case k => k_is)
  have a8 : ∃ f fd, Gn.Df (L2.eF I) mg "_law_two_steps" K09.lK f fd := by
   dsimp only [L2.eF]
   refine' Gn.fK I G ?a ?l ?c ?k
   (case a => k_is); (case l => k_is); (case c => k_is); (case k => k_is)
  have aP : ∃ f fd, Gn.ir (L2.eF I) mg "need_number" K09.kS f fd #[.none] := by
   dsimp only [L2.eF]
   refine' Gn.vB I G ?a ?l ?c ?k ?t
   (case a => k_is); (case l => k_is); (case c => k_is); (case k => k_is); (case t => k_is)
  have af : ∃ f fd, Gn.ir (L2.eF I) mg "poured" K09.nX f fd #[.none] := by
   dsimp only [L2.eF]
   refine' Gn.vB I G ?a ?l ?c ?k ?t
   (case a => k_is); (case l => k_is); (case c => k_is); (case k => k_is); (case t => k_is)
  refine' K09.Dd I G bb ?a ?l ?c ?k fun fd base D => K09.Hi T hC B W ag ax ay aQ aR ah az aS U aa aT aU aA aB aC aD aE aF aG ai J aj aV aW aX aY aH aI ak ab aJ aK ao aq aZ ar aL au ae a6 a9 ba av aw aM aN aO a7 a8 aP af D
  (case a => k_is); (case l => k_is); (case c => k_is); (case k => k_is)
