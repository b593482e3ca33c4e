import PyProof.Rows.All
import Wide.All
import OpenK.AllK
import Wide.FinOn
import PyProof.EqAt
import PyProof.EqKinds
import PyProof.TupleCall
import Lean
import PySem.Challenge.RW_findhall_k28_books_by_the_rule
noncomputable section
set_option Elab.async false
set_option linter.all false
set_option maxRecDepth 100000
set_option maxHeartbeats 4000000
namespace H28
open PySem PySem.W PyProof.Rows
abbrev pQ : Program := PySem.Challenge.pw_findhall_k28_books_by_the_rule
def vQ : Program := PySem.W.view pQ [0, 2, 3, 4, 5, 6, 7, 8, 9, 10, 12, 13, 14, 15, 16, 17, 18, 19, 20, 21, 22, 25, 26, 27, 28, 29, 30, 32, 33, 34, 35, 36, 37, 38, 40, 41, 42, 43, 44, 46, 47, 48, 49, 50, 51, 53, 54, 55, 56, 58, 59, 60, 61, 62, 64, 65, 68, 69, 70, 72, 73, 74, 75, 76, 77, 78, 79, 80, 81, 82, 83, 84, 85, 86]
def lQ : List Str := [Str.ofString "need_number", Str.ofString "poured"]
def xQ (s : Shared) : Bool := xlAt vQ [] s && recOk (RowW.records PySem.Challenge.rw_findhall_k28_books_by_the_rule.row.toRowW) s
def sQ (w : World) (os : OsState) : Shared := ⟨boot_heap w.params, Array.mk [], boot_drawn, boot_toks, os⟩
def topRunT (tb : String -> Option Builtin) (p : Program) (w : World) (n₀ : Nat) (ann : Option Value) : Nat -> SharedT -> Thread -> Option SharedT
 | 0, _, _ => none
 | n + 1, s, t => match through t with
  | true => some s
  | false => match stepOk n₀ ann t with
   | false => none
   | true => match stepT (denote tb) p w s t with
    | some (s', t') => topRunT tb p w n₀ ann n s' t'
    | none => none
theorem topRun_of {tb : String -> Option Builtin} {p : Program} {w : World} {n₀ : Nat} {ann : Option Value} : ∀ {n : Nat} {s s' : SharedT} {t : Thread}, topRunT tb p w n₀ ann n s t = some s' -> topRun tb p w n₀ ann n s.abs t = some s'.abs
 | 0, _, _, _, h => by cases h
 | n + 1, s, s', t, h => by
  unfold topRunT at h
  unfold topRun
  cases he : through t with
  | true => rw [he] at h; cases h; rfl
  | false =>
   rw [he] at h
   cases hk : stepOk n₀ ann t with
   | false => rw [hk] at h; cases h
   | true =>
    rw [hk] at h
    cases hs : stepT (denote tb) p w s t with
    | none => rw [hs] at h; cases h
    | some r => obtain ⟨s₂, t₂⟩ := r; rw [hs] at h; rw [stepT_spec hs]; exact topRun_of h
def buildT : List Obj -> BT -> Nat -> Option BT
 | [], t, _ => some t
 | o :: r, t, n => match ((t.ins n o).get n).isSome with
  | true => buildT r (t.ins n o) (n + 1)
  | false => none
theorem build_of : ∀ {l : List Obj} {t t' : BT} {n : Nat} (life : Life), buildT l t n = some t' -> absHeap t' (n + l.length) life = ⟨(absHeap t n life).objs ++ l.toArray, life⟩
 | [], t, t', n, life, h => by
  cases h
  show absHeap t n life = _
  unfold absHeap
  simp
 | o :: r, t, t', n, life, h => by
  unfold buildT at h
  cases hs : ((t.ins n o).get n).isSome with
  | false => rw [hs] at h; cases h
  | true =>
   rw [hs] at h
   have e := build_of life h
   rw [show n + (o :: r).length = n + 1 + r.length by rw [List.length_cons]; omega, e, absHeap_ins hs]
   show Heap.mk _ _ = Heap.mk _ _
   congr 1
   show (absHeap t n life).objs.push o ++ r.toArray = (absHeap t n life).objs ++ (o :: r).toArray
   apply Array.ext'
   simp
def annQ (w : World) (os : OsState) : Option Value := (sQ w os).heap.nsMap mainGlobals (Str.ofString "__annotations__")
def topQ (w : World) (os : OsState) : Option Shared := match buildT (boot_heap w.params).objs.toList .nil 0 with
 | none => none
 | some t => (topRunT treeTable pQ w (boot_heap w.params).objs.size (annQ w os) 20000 ⟨t, (boot_heap w.params).objs.size, (boot_heap w.params).life, Array.mk [], boot_drawn, boot_toks, os⟩ (topStub pQ)).map SharedT.abs
theorem topQ_run {w : World} {os : OsState} {s : Shared} (h : topQ w os = some s) : topRun treeTable pQ w (sQ w os).heap.objs.size ((sQ w os).heap.nsMap mainGlobals (Str.ofString "__annotations__")) 20000 (sQ w os) (topStub pQ) = some s := by
 unfold topQ at h
 cases hb : buildT (boot_heap w.params).objs.toList .nil 0 with
 | none => rw [hb] at h; cases h
 | some t =>
  rw [hb] at h
  obtain ⟨x, hx, e⟩ := Option.map_eq_some_iff.mp h
  have q := topRun_of hx
  have a : absHeap t (boot_heap w.params).objs.size (boot_heap w.params).life = boot_heap w.params := by
   have := build_of (boot_heap w.params).life hb
   rw [Nat.zero_add, Array.length_toList] at this
   rw [this]
   show Heap.mk _ _ = _
   have e0 : (absHeap .nil 0 (boot_heap w.params).life).objs = #[] := by unfold absHeap BT.list; simp
   rw [e0]
   simp
  have es : SharedT.abs ⟨t, (boot_heap w.params).objs.size, (boot_heap w.params).life, Array.mk [], boot_drawn, boot_toks, os⟩ = sQ w os := by
   unfold SharedT.abs sQ
   rw [a]
  rw [es] at q
  rw [<- e]
  exact q
def okQ (h : Heap) (s : Shared) : Bool := staticsOk (importedModules pQ.main.body) h s.heap && namesBound pQ s.heap && gensDone s && laidKept h s.heap
def seenQ (s : Shared) := openSeen vQ lQ (importedModules pQ.main.body) xQ true s
def goodQ := openGood vQ lQ
def ok9 (w : World) (os : OsState) (s : Shared) : Bool := okQ (boot_heap w.params) s && ((sQ w os).heap.isNs mainGlobals && (sQ w os).gens.size == 0)
def seenA (s : Shared) := (fun x => (x.1, x.2.1, x.2.2.1, x.2.2.2.1, x.2.2.2.2.1, x.2.2.2.2.2.1, x.2.2.2.2.2.2.1, x.2.2.2.2.2.2.2.1, x.2.2.2.2.2.2.2.2)) (seenQ s)
def goodA := (true, (fun x => (x.1, x.2.1, x.2.2.1, x.2.2.2.1, x.2.2.2.2.1, x.2.2.2.2.2.1, x.2.2.2.2.2.2.1, x.2.2.2.2.2.2.2.1, x.2.2.2.2.2.2.2.2)) goodQ)
def runA (w : World) (os : OsState) := (topQ w os).map fun s => (ok9 w os s, seenA s)
def runK (as : List Nat) (w : World) (os : OsState) := (topQ w os).map fun s => as.map s.heap.get?
def _root_.PySem.W.Fast.tw14598715356260435866 := PySem.W.boot_o_0
theorem _root_.PySem.W.Fast.te14598715356260435866 : PySem.W.boot_o_0 = PySem.W.Fast.tw14598715356260435866 := rfl
def _root_.PySem.W.Fast.tw16386849845823637793 := PySem.Challenge.pw_findhall_k28_books_by_the_rule
theorem _root_.PySem.W.Fast.te16386849845823637793 : PySem.Challenge.pw_findhall_k28_books_by_the_rule = PySem.W.Fast.tw16386849845823637793 := rfl
lay_quick runA goodA
theorem hA : ∀ w os, PySem.W.Fast.tw5642061550289460404 w os = some PySem.W.Fast.tw3531386416857173996 := fun w os => by kernel_rfl
lay_quick runK
theorem rA (w : World) (os : OsState) : runA w os = some goodA := by rw [PySem.W.Fast.te5642061550289460404, PySem.W.Fast.te3531386416857173996]; exact hA w os
theorem topFrom_some {tb : String -> Option Builtin} {p : Program} {w : World} {N : Nat} {s0 s : Shared} (h1 : (s0.heap.isNs mainGlobals && s0.gens.size == 0) = true) (h2 : topRun tb p w s0.heap.objs.size (s0.heap.nsMap mainGlobals (Str.ofString "__annotations__")) N s0 (topStub p) = some s)
  (h3 : (staticsOk (importedModules p.main.body) s0.heap s.heap && namesBound p s.heap && gensDone s && laidKept s0.heap s.heap) = true) : topFrom tb p w N s0 = some s := by
 unfold topFrom
 rw [h1]
 dsimp only
 rw [h2]
 dsimp only [Option.bind]
 rw [h3]
theorem openEnds_some {tb : String -> Option Builtin} {p : Program} {w : World} {N : Nat} {s0 s : Shared} (a : fencedOpening tb p w N = some s0) (b : topFrom tb p w N s0 = some s) : openEnds tb p w N = some s := by
 unfold openEnds
 rw [a]
 exact b
theorem map_at {α β : Type} {o : Option α} {s : α} {f : α -> β} {b : β} (h : o = some s) (e : o.map f = some b) : f s = b := by
 subst h
 exact Option.some.inj e
theorem map_some' {α β : Type} {o : Option α} {f : α -> β} {b : β} (e : o.map f = some b) : ∃ s, o = some s := by
 cases o with
 | none => cases e
 | some s => exact ⟨s, rfl⟩
theorem pair_of {α β σ : Type} {f : σ -> α} {g : σ -> β} {o : Option σ} {s : σ} {a : α} {b : β} (e : o = some s) (h1 : f s = a) (h2 : g s = b) : o.map (fun s => (f s, g s)) = some (a, b) := by
 subst e
 subst h1
 subst h2
 rfl
theorem sh_eq {s : Shared} {h : Heap} {g : Array GenState} {d : Drawn} {k : Nat} (a : s.heap = h) (b : s.gens = g) (c : s.drawn = d) (e : s.toks = k) : s = ⟨h, g, d, k, s.os⟩ := by
 cases s
 cases a
 cases b
 cases c
 cases e
 rfl
theorem opQ : opening pQ = plainProg pQ.main.scope.names := by kernel_rfl
theorem feQ (s : Shared) : fenceModules? pQ s = some s := by kernel_rfl
theorem seen_eq {s : Shared} (aA : seenA s = goodA.2) : seenQ s = goodQ :=
 Prod.ext (congrArg (fun y => y.1) aA) (Prod.ext (congrArg (fun y => y.2.1) aA) (Prod.ext (congrArg (fun y => y.2.2.1) aA) (Prod.ext (congrArg (fun y => y.2.2.2.1) aA) (Prod.ext (congrArg (fun y => y.2.2.2.2.1) aA) (Prod.ext (congrArg (fun y => y.2.2.2.2.2.1) aA) (Prod.ext (congrArg (fun y => y.2.2.2.2.2.2.1) aA) (Prod.ext (congrArg (fun y => y.2.2.2.2.2.2.2.1) aA) ((congrArg (fun y => y.2.2.2.2.2.2.2.2) aA)))))))))
theorem end_of {as : List Nat} {V : World -> List (Option Obj)} {w : World} {os : OsState} {s : Shared} (ht : topQ w os = some s) (hs0 : fencedOpening treeTable pQ w 20000 = some (sQ w os)) (e : runK as w os = some (V w)) :
  openEnds treeTable pQ w 20000 = some s /\ seenQ s = goodQ /\ as.map s.heap.get? = V w := by
 have d0 := map_at (f := fun (s : Shared) => (ok9 w os s, seenA s)) ht (rA w os)
 have d1 : ok9 w os s = true := congrArg (fun y => y.1) d0
 have dA : seenA s = goodA.2 := congrArg (fun y => y.2) d0
 obtain ⟨d2, d3⟩ := Bool.and_eq_true_iff.mp d1
 exact ⟨openEnds_some hs0 (topFrom_some d3 (topQ_run ht) d2), seen_eq dA , map_at (f := fun (s : Shared) => as.map s.heap.get?) ht e⟩
theorem hl_of {as : List Nat} {V : World -> List (Option Obj)} (h : ∀ w os, PySem.W.Fast.tw1921671718407451077 as w os = some (V w)) : LeftO pQ vQ lQ xQ (fun s => as.map s.heap.get?) V 20000 := fun w => by
 obtain ⟨s0, hs0, hv⟩ := Option.map_eq_some_iff.mp (boot_open (p := pQ) (N := 20000) opQ rfl feQ w)
 have es : s0 = sQ w s0.os := sh_eq (congrArg (fun x => x.1) hv) (congrArg (fun x => x.2.1) hv) (congrArg (fun x => x.2.2.1) hv) (congrArg (fun x => x.2.2.2) hv)
 rw [es] at hs0
 obtain ⟨s, ht⟩ := map_some' (rA w s0.os)
 have e : runK as w s0.os = some (V w) := by rw [PySem.W.Fast.te1921671718407451077]; exact h w s0.os
 obtain ⟨e1, e2, e3⟩ := end_of ht hs0 e
 exact pair_of (f := seenQ) (g := fun s => as.map s.heap.get?) (a := goodQ) e1 e2 e3
end H28
section
open PySem PySem.W PyProof.Rows
local macro_rules | `(tactic| o_head $H:term) => `(tactic|
 refine holds_open
  (q := H28.vQ) (loose := H28.lQ)
  (Xt := H28.xQ) (XP := XL H28.vQ [])
  (Yf := Hook.obs $H)
  (Ya := Hook.val $H) (YP := Hook.says $H)
  (N := 20000)
  (H28.hl_of fun w os => by kernel_rfl)
  (Hook.of $H) (Hook.keeps $H)
  (fun s e => xl_of s (Bool.and_eq_true_iff.mp e).1)
  XL.keeps rfl rfl rfl
  (fun s e => recFacts_of (Bool.and_eq_true_iff.mp e).2)
  rfl
  (by first | assumption | decide +kernel)
  (by decide +kernel)
  ⟨rfl, rfl, rfl, rfl, rfl, by decide +kernel⟩
  ?hw ?hc)
open_top H28.head for PySem.Challenge.rw_findhall_k28_books_by_the_rule
end
namespace L2
open PySem PySem.Spec PyProof.Rows
theorem dk{p:Prop} [Decidable p] (h:decide p=true:=by kernel_rfl):p:=of_decide_eq_true h
abbrev Key:=Sum Int Str
def mz:Key->Value->Bool
 | .inl k,v=>Value.isInt k v
 | .inr x,v=>Value.isStrOf x v
def Hy(w:World):Key->Int
 | .inl k=>hashInt k
 | .inr x=>hashStr w x
theorem kG:∀{k:Key} {v:Value},mz k v=true->(∃ i t,k=Sum.inl i/\v=Value.int i t)\/(∃ x t,k=Sum.inr x/\v=Value.str x t)
 | .inl i,v,h=>by
  obtain⟨t,e⟩:=Value.isInt_shape (k:=i) (v:=v) h
  exact .inl ⟨i,t,rfl,e⟩
 | .inr x,v,h=>by
  obtain⟨t,e⟩:=Value.isStrOf_shape (x:=x) (v:=v) h
  exact .inr ⟨x,t,rfl,e⟩
theorem EL(i:Int)(t:Tok):mz (.inl i) (.int i t)=true:=by simp [mz,Value.isInt]
theorem BZ(x:Str)(t:Tok):mz (.inr x) (.str x t)=true:=by simp [mz,Value.isStrOf]
theorem C4(a b:Int):decide ((Sum.inl a:Key)=Sum.inl b)=(a == b):=by
 by_cases e:a=b
 ·subst e;simp
 ·have h:¬ (Sum.inl a:Key)=Sum.inl b:=fun q=>e (Sum.inl.inj q)
  rw [decide_eq_false h]
  exact(beq_eq_false_iff_ne.mpr e).symm
theorem Im(a b:Str):decide ((Sum.inr a:Key)=Sum.inr b)=decide (a=b):=by
 by_cases e:a=b
 ·subst e;simp
 ·have h:¬ (Sum.inr a:Key)=Sum.inr b:=fun q=>e (Sum.inr.inj q)
  rw [decide_eq_false h,decide_eq_false e]
theorem DQ(a:Int)(b:Str):decide ((Sum.inl a:Key)=Sum.inr b)=false:=decide_eq_false (fun q=>nomatch q)
theorem DV(a:Str)(b:Int):decide ((Sum.inr a:Key)=Sum.inl b)=false:=decide_eq_false (fun q=>nomatch q)
def iC(prog:Program)(w:World):PySem.KeyKind prog w Key where
 is:=mz
 hash:=Hy w
 inj:=fun v a b ha hb=>by
  rcases kG ha with ⟨i,t,rfl,rfl⟩ | ⟨x,t,rfl,rfl⟩
  ·rcases kG hb with ⟨j,u,rfl,e⟩ | ⟨y,u,rfl,e⟩
   ·injection e with e1 _;rw [e1]
   ·exact nomatch e
  ·rcases kG hb with ⟨j,u,rfl,e⟩ | ⟨y,u,rfl,e⟩
   ·exact nomatch e
   ·injection e with e1 _;rw [e1]
 byValue:=fun k v h=>by
  rcases kG h with ⟨i,t,rfl,rfl⟩ | ⟨x,t,rfl,rfl⟩<;>rfl
 pyHash:=fun I h=>by
  rcases kG I with ⟨i,t,rfl,rfl⟩ | ⟨x,t,rfl,rfl⟩
  ·exact wpAny_pyHash_int h
  ·exact wpAny_pyHash_str h
 eqBool:=fun J I h=>by
  rcases kG J with ⟨i,t,rfl,rfl⟩ | ⟨x,t,rfl,rfl⟩
  ·rcases kG I with ⟨j,u,rfl,rfl⟩ | ⟨y,u,rfl,rfl⟩
   ·rw [C4] at h;exact wpAny_eqBool_int h
   ·rw [DQ] at h;exact SeqAt.EqAt.int_str i t y u _ _ _ _ h
  ·rcases kG I with ⟨j,u,rfl,rfl⟩ | ⟨y,u,rfl,rfl⟩
   ·rw [DV] at h;exact SeqAt.EqAt.str_int x t j u _ _ _ _ h
   ·rw [Im] at h;exact wpAny_eqBool_str h
 «strs»:=fun k x t v h=>by
  rcases kG h with ⟨i,u,rfl,e⟩ | ⟨y,u,rfl,e⟩
  ·exact nomatch e
  ·injection e with e1 _
   subst e1
   cases v<;>rfl
theorem Ca(prog:Program)(w:World)(i:Int)(t:Tok):(iC prog w).is (.inl i) (.int i t)=true:=EL i t
theorem AG(prog:Program)(w:World)(x:Str)(t:Tok):(iC prog w).is (.inr x) (.str x t)=true:=BZ x t
inductive V where
 | non | bl (b : Bool) | int (i : Int) | str (x : Str) | byt (b : Array UInt8) | flt (b : UInt64) | ref (a : Addr) | ty (n : String)
 deriving DecidableEq
def RelV:V->Value->Prop
 | .non,u=>u=Value.none
 | .bl b,u=>u=Value.bool b
 | .int i,u=>∃ t,u=Value.int i t
 | .str x,u=>∃ t,u=Value.str x t
 | .byt b,u=>∃ t,u=Value.bytes b t
 | .flt b,u=>∃ t,u=Value.float b t
 | .ref a,u=>u=Value.ref a
 | .ty n,u=>u=Value.type n
abbrev Vals:List V->List Value->Prop:=Paired RelV
theorem Vals.length {xs:List V}{us:List Value}(r:Vals xs us):xs.length=us.length:=Paired.length r
theorem Vals.get:∀{xs:List V} {us:List Value} {i:Nat} {x:V},Vals xs us->xs[i]? =some x->∃ u,us[i]? =some u/\RelV x u
 | _,_,_,_,.nil,e=>by simp at e
 | _,_,0,_,.cons r _,e=>by simp at e;subst e;exact⟨_,rfl,r⟩
 | _,_,i + 1,x,.cons _ t,e=>by
  obtain⟨u,h1,h2⟩:=Vals.get (i:=i) (x:=x) t (by simpa using e)
  exact⟨u,by simpa using h1,h2⟩
theorem Vals.set {x:V}{u:Value}(r:RelV x u):∀{xs:List V} {us:List Value} (i:Nat),Vals xs us->Vals (xs.set i x) (us.set i u)
 | _,_,_,.nil=> .nil
 | _,_,0,.cons _ t=> .cons r t
 | _,_,i + 1,.cons q t=> .cons q (Vals.set r i t)
theorem Vals.append:∀{xs ys:List V} {us ws:List Value},Vals xs us->Vals ys ws->Vals (xs++ys) (us++ws)
 | _,_,_,_,.nil,s=>s
 | _,_,_,_,.cons r t,s=> .cons r (Vals.append t s)
theorem Vals.take:∀{xs:List V} {us:List Value} (n:Nat),Vals xs us->Vals (xs.take n) (us.take n)
 | _,_,0,_=> .nil
 | _,_,_ + 1,.nil=> .nil
 | _,_,n + 1,.cons r t=> .cons r (Vals.take n t)
theorem Vals.drop:∀{xs:List V} {us:List Value} (n:Nat),Vals xs us->Vals (xs.drop n) (us.drop n)
 | _,_,0,r=>r
 | _,_,_ + 1,.nil=> .nil
 | _,_,n + 1,.cons _ t=>Vals.drop n t
def iT:Option V->Option Value->Prop
 | some v,some u=>RelV v u
 | none,none=>True
 | _,_=>False
def KV{κ:Type}:List (κ×V)->List (κ×Value)->Prop:=Paired fun(p:κ×V) (q:κ×Value)=>p.1=q.1/\RelV p.2 q.2
def kV:Key->V
 | .inl i=> .int i
 | .inr x=> .str x
inductive HO where
 | lst (xs : List V)
 | tup (xs : List V)
 | dK (kvs : List (Key × V)) | dT (kvs : List (List Key × V))
 | set (S : Int -> Bool) (n : Nat)
 | ins (C dx : Addr) (fs : List (Str × V))
 | own (x : Addr)
 | xd (fs : List (Str × V))
 | met (f x : Addr)
 | rng (lo hi : Int)
 | frz (o : Obj) (u : HO)
 | tbl (ps : Array Value)
 | ext (φ : Heap -> Prop)
abbrev Hp:=Addr->Option HO
def upd(H:Hp)(a:Addr)(o:HO):Hp:=fun b=>if b=a then some o else H b
theorem fv{H:Hp}{a:Addr}{o:HO}:upd H a o a=some o:=by unfold upd;rw [if_pos rfl]
theorem fB{H:Hp}{a b:Addr}{o:HO}(h:b≠a):upd H a o b=H b:=by unfold upd;rw [if_neg h]
theorem m8{H:Hp}{a:Addr}{o u:HO}:upd (upd H a o) a u=upd H a u:=by
 funext b;unfold upd;split<;>rfl
theorem EJ{H:Hp}{a b:Addr}{o u:HO}(h:H a=some o)(h':H b=some u)(d:o≠u):a≠b:=by
 intro e;subst e;rw [h] at h';exact d (Option.some.inj h')
theorem fW{H:Hp}{a b:Addr}{o:HO}(h:H a=some o)(h':H b=none):a≠b:=by
 intro e;subst e;rw [h] at h';cases h'
section
variable (P : Program) (w : World)
def gI(H:Hp)(h:Heap)(a:Addr):HO->Prop
 | .lst xs=>xs.length<=sizeLine/\∃(I:List Value) (n:Nat),Vals xs I/\h.get? a=some {cls:= .type "list",data:= .seq I.toArray n}
 | .tup xs=>xs.length<=sizeLine/\∃ I:List Value,Vals xs I/\IsTup h a I.toArray
 | .dK kvs=>kvs.length<=sizeLine/\(a == sysModules)=false/\∃ vs,KV kvs vs/\h.DictOf (iC P w) a vs
 | .dT kvs=>kvs.length<=sizeLine/\(a == sysModules)=false/\∃ xs:List (List Key×Addr×Value),
   Paired (fun(p:List Key×V) (q:List Key×Addr×Value)=>p.1=q.1/\H q.2.1=some (.tup (p.1.map kV))/\RelV p.2 q.2.2) kvs xs/\
   ∃ o es ep,h.get? a=some o/\o.ExactDict/\o.data= .dict es ep/\es.toList=xs.map (entryOfKey (tupleKind (iC P w)))/\(xs.map (·.1)).Nodup
 | .set S n=>h.SetOf (intKind P w) a S n
 | .ins C dx fs=>H dx=some (.own a)/\fs.length<=1000/\dx≠a/\h.get? a=some (W.instObj C dx)/\
   ∃ mA,h.Ns1 dx mA/\(∀ f,iT (fs.lookup f) (mA f))/\PySem.Within mA (fs.map (·.1))
 | .own _=>∃ o,h.get? a=some o
 | .xd fs=>∃ mA,h.Ns1 a mA/\∀ f,iT (fs.lookup f) (mA f)
 | .rng lo hi=>∃ t u v,h.get? a=some {cls:= .type "range",data:= .fields #[.int lo t,.int hi u,.int 1 v]}
 | .frz o u=>h.get? a=some o/\gI H h a u
 | .tbl ps=>h.get? a=some {cls:= .none,data:= .fields ps}
 | .met f x=>h.get? a=some (W.methodObj (.ref f) (.ref x))
 | .ext J=>J h/\(∃ o,h.get? a=some o)/\∀ h1 h2:Heap,J h1->(∀ o,h1.get? a=some o->h2.get? a=some o)->J h2
def gG(H:Hp)(h:Heap):Prop:=∀ a o,H a=some o->gI P w H h a o
end
section
variable {P : Program} {w : World} {H H' : Hp} {h h' : Heap} {a : Addr} {o : HO}
theorem gI.lt (x:gI P w H h a o):a < h.objs.size:=by
 cases o with
 | lst xs=>obtain⟨_,_,_,_,e⟩:=x;exact Heap.lt_size e
 | tup xs=>obtain⟨_,_,_,p⟩:=x;exact p.lt
 | dK kvs=>obtain⟨_,_,_,_,o,_,_,e,_⟩:=x;exact Heap.lt_size e
 | dT kvs=>obtain⟨_,_,_,_,o,_,_,e,_⟩:=x;exact Heap.lt_size e
 | set S n=>obtain⟨o,_,_,_,e,_⟩:=x;exact Heap.lt_size e
 | ins C dx fs=>obtain⟨_,_,_,e,_⟩:=x;exact Heap.lt_size e
 | own y=>obtain⟨_,e⟩:=x;exact Heap.lt_size e
 | xd fs=>obtain⟨_,⟨_,_,_,e,_⟩,_⟩:=x;exact Heap.lt_size e
 | rng lo hi=>obtain⟨_,_,_,e⟩:=x;exact Heap.lt_size e
 | frz I u=>obtain⟨e,_⟩:=x;exact Heap.lt_size e
 | tbl ps=>exact Heap.lt_size (show h.get? a=some _ from x)
 | met f y=>exact Heap.lt_size (show h.get? a=some _ from x)
 | ext J=>obtain⟨_,⟨_,e⟩,_⟩:=x;exact Heap.lt_size e
theorem Paired.mapP {α β:Type}{F G:α->β->Prop}:∀{l₁:List α} {l₂:List β},Paired F l₁ l₂->(∀ a b,F a b->G a b)->Paired G l₁ l₂
 | _,_,.nil,_=> .nil
 | _,_,.cons r t,f=> .cons (f _ _ r) (Paired.mapP t f)
theorem gI.stay (x:gI P w H h a o)(k:∀ b u,(b=a\/H b=some (.own a))->h.get? b=some u->h'.get? b=some u)
  (ho:∀ b,H b=some (.own a)->H' b=some (.own a))(ht:∀ b xs,H b=some (.tup xs)->H' b=some (.tup xs)):gI P w H' h' a o:=by
 induction o with
 | lst xs=>obtain⟨z,J,n,r,e⟩:=x;exact⟨z,J,n,r,k _ _ (.inl rfl) e⟩
 | tup xs=>obtain⟨z,J,r,I,e,c⟩:=x;exact⟨z,J,r,I,k _ _ (.inl rfl) e,c⟩
 | dK kvs=>obtain⟨z,y,vs,r,I,es,ep,e,c⟩:=x;exact⟨z,y,vs,r,I,es,ep,k _ _ (.inl rfl) e,c⟩
 | dT kvs=>
  obtain⟨z,y,xs,r,I,es,ep,e,c⟩:=x
  exact⟨z,y,xs,Paired.mapP r fun p q z=>⟨z.1,ht _ _ z.2.1,z.2.2⟩,I,es,ep,k _ _ (.inl rfl) e,c⟩
 | set S n=>obtain⟨I,es,ep,t,e,c⟩:=x;exact⟨I,es,ep,t,k _ _ (.inl rfl) e,c⟩
 | ins C dx fs=>
  obtain⟨d,z,ne,e,mA,⟨U,es,ep,e2,c⟩,r⟩:=x
  exact⟨ho _ d,z,ne,k _ _ (.inl rfl) e,mA,⟨U,es,ep,k _ _ (.inr d) e2,c⟩,r⟩
 | own y=>obtain⟨I,e⟩:=x;exact⟨I,k _ _ (.inl rfl) e⟩
 | xd fs=>obtain⟨mA,⟨U,es,ep,e,c⟩,r⟩:=x;exact⟨mA,⟨U,es,ep,k _ _ (.inl rfl) e,c⟩,r⟩
 | rng lo hi=>obtain⟨t,u,v,e⟩:=x;exact⟨t,u,v,k _ _ (.inl rfl) e⟩
 | frz I u ih=>obtain⟨e,q⟩:=x;exact⟨k _ _ (.inl rfl) e,ih q⟩
 | tbl ps=>
  have e:h.get? a=some {cls:= .none,data:= .fields ps}:=x
  show h'.get? a=some {cls:= .none,data:= .fields ps}
  exact k a _ (.inl rfl) e
 | met f y=>
  have e:h.get? a=some (W.methodObj (.ref f) (.ref y)):=x
  show h'.get? a=some (W.methodObj (.ref f) (.ref y))
  exact k a _ (.inl rfl) e
 | ext φ=>obtain⟨p,⟨o,e⟩,st⟩:=x;exact⟨st _ _ p fun o q=>k _ _ (.inl rfl) q,⟨o,k _ _ (.inl rfl) e⟩,st⟩
theorem gG.lt (x:gG P w H h)(e:H a=some o):a < h.objs.size:=(x a o e).lt
theorem gG.fresh (x:gG P w H h)(e:h.objs.size<=a):H a=none:=by
 cases q:H a with
 | none=>rfl
 | some u=>exact absurd (Nat.lt_of_lt_of_le (x.lt q) e) (Nat.lt_irrefl _)
theorem gG.kept (x:gG P w H h)(k:∀ b u,h.get? b=some u->h'.get? b=some u):gG P w H h':=fun a o e=>
 (x a o e).stay (fun b u _ q=>k b u q) (fun _ q=>q) fun _ _ q=>q
theorem gG.laid (x:gG P w H h)(k:∀ b u,h.get? b=some u->h'.get? b=some u)(hp:h.objs.size<=a)(new:gI P w (upd H a o) h' a o):gG P w (upd H a o) h':=fun b u e=>by
 have hn:=x.fresh hp
 by_cases hb:b=a
 ·subst hb;rw [fv] at e;cases e;exact new
 ·rw [fB hb] at e
  exact(x b u e).stay (fun c v _ q=>k c v q) (fun c q=>by rw [fB (fW q hn)];exact q) fun c xs q=>by rw [fB (fW q hn)];exact q
end
def Rd(H:Hp)(a:Addr)(u:HO):Prop:=H a=some u\/∃ o,H a=some (.frz o u)
theorem Rd.ok {P:Program}{w:World}{H:Hp}{h:Heap}{a:Addr}{u:HO}(r:Rd H a u)(x:gG P w H h):gI P w H h a u:=by
 rcases r with r | ⟨o,r⟩
 ·exact x a u r
 ·obtain⟨_,q⟩:=x a _ r
  exact q
def qG:Option HO->Prop
 | some (.lst _)=>True
 | some (.dK _)=>True
 | some (.dT _)=>True
 | some (.set _ _)=>True
 | some (.ins _ _ _)=>True
 | some (.ext _)=>True
 | _=>False
section
variable {P : Program} {w : World} {H : Hp} {h h' : Heap} {x e : Addr} {o' : HO}
theorem gG.write (ok:gG P w H h)(mu:qG (H x))(he:e=x\/H e=some (.own x))(k:∀ b u,b≠e->h.get? b=some u->h'.get? b=some u)(heo:∃ u,h'.get? e=some u)
  (new:gI P w (upd H x o') h' x o'):gG P w (upd H x o') h':=fun b u q=>by
 have J:∀ c y,H c=some (.own y)->c≠x:=fun c y r z=>by subst z;rw [r] at mu;exact mu
 have U:∀ c xs,H c=some (.tup xs)->c≠x:=fun c xs r z=>by subst z;rw [r] at mu;exact mu
 by_cases hb:b=x
 ·subst hb;rw [fv] at q;cases q;exact new
 ·rw [fB hb] at q
  by_cases I:b=e
  ·have q':H b=some (.own x):=by
    rcases he with z | z
    ·exact absurd (I.trans z) hb
    ·rw [I];exact z
   rw [q] at q';cases q'
   obtain⟨v,hv⟩:=heo
   exact⟨v,by rw [I];exact hv⟩
  ·refine(ok b u q).stay (fun c v hc r=>k c v ?_ r) (fun c r=>by rw [fB (J c b r)];exact r) fun c xs r=>by rw [fB (U c xs r)];exact r
   rcases hc with rfl | hc
   ·exact I
   ·rintro rfl
    rcases he with z | z
    ·exact J c b hc z
    ·rw [hc] at z;cases z;exact hb rfl
end
structure Un (fs ex : List Addr) (H H' : Hp) (h h' : Heap) : Prop where
 keep : ∀ b o, h.get? b = some o -> H b = none -> b ∉ fs -> b ∉ ex -> h'.get? b = some o
 slot : ∀ b o, h.get? b = some o -> H b = none -> b ∈ fs -> b ∉ ex -> ∃ sl, h'.get? b = some { o with slots := sl }
 free : ∀ b o, h.get? b = some o -> H b = none -> b ∉ ex -> H' b = none
 there : ∀ b o, h.get? b = some o -> b ∉ ex -> ∃ o', h'.get? b = some o'
 tups : ∀ b xs, H b = some (.tup xs) -> H' b = some (.tup xs)
 frzs : ∀ b o u, H b = some (.frz o u) -> H' b = some (.frz o u)
 tbls : ∀ b ps, H b = some (.tbl ps) -> ∃ more, H' b = some (.tbl (ps ++ more))
section
variable {fs fs' ex ex' : List Addr} {H H1 H2 : Hp} {h h1 h2 h' : Heap} {a x e : Addr} {o : HO}
theorem Un.any (u:Un fs ex H H1 h h1){b:Addr}{ob:Obj}(q:h.get? b=some ob)(n:H b=none)(hx:b∉ex):∃ sl,h1.get? b=some {ob with slots:=sl}:=by
 by_cases hb:b∈fs
 ·exact u.slot b ob q n hb hx
 ·exact⟨ob.slots,u.keep b ob q n hb hx⟩
theorem Un.kept (k:∀ b u,h.get? b=some u->h'.get? b=some u):Un fs ex H H h h':=
 ⟨fun b I q _ _ _=>k b I q,fun b I q _ _ _=>⟨I.slots,k b I q⟩,fun _ _ _ n _=>n,fun b I q _=>⟨I,k b I q⟩,fun _ _ q=>q,fun _ _ _ q=>q,fun _ ps q=>⟨#[],by rw [q];simp⟩⟩
theorem Un.refl:Un fs ex H H h h:=Un.kept fun _ _ q=>q
theorem Un.laid (k:∀ b u,h.get? b=some u->h'.get? b=some u)(hp:h.objs.size<=a)(hn:H a=none):Un fs ex H (upd H a o) h h' where
 keep:=fun b u q _ _ _=>k b u q
 slot:=fun b u q _ _ _=>⟨u.slots,k b u q⟩
 free:=fun b u q n _=>by rw [fB (Nat.ne_of_lt (Nat.lt_of_lt_of_le (Heap.lt_size q) hp))];exact n
 there:=fun b u q _=>⟨u,k b u q⟩
 tups:=fun b xs q=>by rw [fB (fW q hn)];exact q
 frzs:=fun b u xs q=>by rw [fB (fW q hn)];exact q
 tbls:=fun b ps q=>⟨#[],by rw [fB (fW q hn),q];simp⟩
theorem Un.write (mu:qG (H x))(he:e=x\/H e=some (.own x))(k:∀ b u,b≠e->h.get? b=some u->h'.get? b=some u)(heo:∃ u,h'.get? e=some u):Un fs ex H (upd H x o) h h':=by
 have J:∀ b,H b=none->b≠x:=fun b n z=>by subst z;rw [n] at mu;exact mu
 have hb:∀ b,H b=none->b≠e:=fun b n z=>by
  subst z
  rcases he with r | r
  ·exact J b n r
  ·rw [n] at r;cases r
 have hm:∀ b u,H b=some u->¬ qG (some u)->b≠x:=fun b u q nm z=>by subst z;rw [q] at mu;exact nm mu
 refine⟨fun b u q n _ _=>k b u (hb b n) q,fun b u q n _ _=>⟨u.slots,k b u (hb b n) q⟩,fun b u q n _=>by rw [fB (J b n)];exact n,fun b u q _=>?_,
  fun b xs q=>by rw [fB (hm b _ q fun z=>z)];exact q,fun b u xs q=>by rw [fB (hm b _ q fun z=>z)];exact q,fun b ps q=>⟨#[],by rw [fB (hm b _ q fun z=>z),q];simp⟩⟩
 by_cases I:b=e
 ·subst I;exact heo
 ·exact⟨u,k b u I q⟩
end
def rX(h:Heap)(H:Hp):List Addr:=(List.range h.objs.size).filter fun a=>(H a).isSome
def la(h:Heap)(H:Hp):Heap:=W.hideAll h (rX h H)
theorem Di(h:Heap)(H:Hp):(la h H).objs.size=h.objs.size:=W.hideAll_size _ _
theorem BV{h:Heap}{H:Hp}{b:Addr}{o:Obj}(e:h.get? b=some o)(n:H b=none):(la h H).get? b=some o:=
 W.hideAll_get _ e fun hm=>by
  have q:(H b).isSome=true:=(List.mem_filter.mp hm).2
  rw [n] at q;simp at q
theorem BH{h:Heap}{H:Hp}{b:Addr}{o:Obj}(e:(la h H).get? b=some o):h.get? b=some o/\H b=none:=by
 have I:h.get? b=some o:=W.of_hideAll (rX h H) e
 refine⟨I,?_⟩
 cases q:H b with
 | none=>rfl
 | some x=>
  have hm:b∈rX h H:=List.mem_filter.mpr ⟨List.mem_range.mpr (Heap.lt_size I),by simp [q]⟩
  have z:(la h H).get? b=none:=W.hideAll_none (rX h H) hm
  rw [z] at e;cases e
structure Mod (K : W.Frag) (mg : Str -> Option Value) (base : Heap) : Prop where
 kin : K.In base
 glob : base.Ns mainGlobals mg
 blt : ∃ mb, base.Ns builtinsNs mb /\ ∀ x : Str, x ≠ "__name__" -> mb x = bootBuiltins x
 nolimit : base.NoLimit
structure Cx where
 prog : Program
 w : World
 K : W.Frag
 mg : Str -> Option Value
 base : Heap
 A : Around
 N : List Str
 s₀ : Shared
 H₀ : Hp
 env : Env
 outer : List Env
 stack : List Env
 ex : List Addr
 fn : Str -> Bool
 calm : Bool
 pn : List (Addr × Obj)
 xe : Value -> Shared -> Prop
def gz(l:List Env):List Addr:=l.filterMap (·.frame)
abbrev Cx.fs (X:Cx):List Addr:=gz X.outer
def qo(sc:Scope)(x:Str):Prop:=sc.names.lookup x=some .local\/sc.names.lookup x=some .cell\/sc.names.lookup x=some .free
def Loc(sc:Scope)(x:Str):Prop:=sc.names.lookup x=some .local\/sc.names.lookup x=some .cell
def Look(env:Env)(h:Heap)(m:Str->Option Value)(x:Str)(u:Value):Prop:=
 (env.kindOf x=some .local/\m x=some u)\/((env.kindOf x=some .cell\/env.kindOf x=some .free)/\∃ c,env.cells.lookup x=some c/\h.IsCell c (some u))
structure Cx.Ok (X : Cx) : Prop where
 mod : Mod X.K X.mg X.base
 kind : X.env.scope.kind = .function
 glob : X.env.globals = mainGlobals
 blt : X.env.builtins = builtinsNs
 above : X.s₀.heap.objs.size <= X.env.locals
 inj : ∀ x y c, X.env.cells.lookup x = some c -> X.env.cells.lookup y = some c -> x = y
 has : ∀ x, (X.env.kindOf x = some .cell \/ X.env.kindOf x = some .free) -> ∃ c, X.env.cells.lookup x = some c
 cab : ∀ x c, X.fn x = true -> X.env.cells.lookup x = some c -> X.s₀.heap.objs.size <= c
 hd : X.calm = true -> X.A.handled = none
 frames : X.A.frames = some X.stack
 stk : X.stack = X.outer \/ (X.stack = X.env :: X.outer /\ X.env.frame = some X.env.locals)
 exf : ∀ b ∈ X.ex, b ≠ X.env.locals /\ ∀ x c, X.env.cells.lookup x = some c -> c ≠ b
 bs : ∀ b o, X.base.get? b = some o -> X.s₀.heap.get? b = some o /\ X.H₀ b = none
 bsz : X.base.objs.size <= X.s₀.heap.objs.size
 noex : ∀ b o, X.base.get? b = some o -> b ∉ X.ex
 exfs : ∀ b ∈ X.ex, b ∉ X.fs
 funs : X.s₀.heap.FunFrames X.base X.outer
 frf : ∀ b ∈ X.fs, X.H₀ b = none
structure Inv (X : Cx) (pins : List (Addr × Obj)) (σ : List (Option V)) (H : Hp) (s : Shared) : Prop where
 ok : X.Ok
 os : s.os = X.s₀.os
 bare : AllBare s.gens
 base : Un X.fs X.ex X.H₀ H X.s₀.heap s.heap
 loc : ∃ m, s.heap.Ns X.env.locals m /\ ∀ (i : Nat) (x : Str) (v : V), X.N[i]? = some x -> σ[i]? = some (some v) -> qo X.env.scope x -> ∃ u, RelV v u /\ Look X.env s.heap m x u
 cell : ∀ x c, X.env.cells.lookup x = some c -> ∃ v, s.heap.IsCell c v
 free : H X.env.locals = none
 freeC : ∀ x c, X.env.cells.lookup x = some c -> H c = none
 pin : ∀ p ∈ X.pn ++ pins, s.heap.get? p.1 = some p.2 /\ H p.1 = none /\ p.1 ≠ X.env.locals /\ p.1 ∉ X.fs /\ ∀ v, p.2.data ≠ .cell v
 hok : gG X.prog X.w H s.heap
 len : σ.length = X.N.length
section
variable {X : Cx} {pins : List (Addr × Obj)} {σ : List (Option V)} {H H' : Hp} {s : Shared} {h' : Heap}
theorem Cx.Ok.nofr (ok:X.Ok){b:Addr}{o:Obj}(e:X.base.get? b=some o):b∉X.fs:=fun hb=>by
 have:=(ok.funs.mem hb).1
 rw [e] at this;cases this
theorem Inv.bs (I:Inv X pins σ H s):∀ b o,X.base.get? b=some o->s.heap.get? b=some o/\H b=none:=fun b o e=>
 ⟨I.base.keep b o (I.ok.bs b o e).1 (I.ok.bs b o e).2 (I.ok.nofr e) (I.ok.noex b o e),I.base.free b o (I.ok.bs b o e).1 (I.ok.bs b o e).2 (I.ok.noex b o e)⟩
theorem Inv.bk (I:Inv X pins σ H s):∀ b o,X.base.get? b=some o->s.heap.get? b=some o:=fun b o e=>(I.bs b o e).1
theorem Inv.mod (I:Inv X pins σ H s):Mod X.K X.mg X.base:=I.ok.mod
theorem Inv.kIn (I:Inv X pins σ H s):X.K.In s.heap:=I.ok.mod.kin.keeps I.bk
theorem Inv.fr (I:Inv X pins σ H s):∃ m,Fr X.base X.env.locals s.heap m:=
 let ⟨m,hn,_⟩:=I.loc
 ⟨m,hn,I.bk,Nat.le_trans I.ok.bsz I.ok.above⟩
theorem Inv.lt (I:Inv X pins σ H s):X.env.locals < s.heap.objs.size:=let ⟨_,hn,_⟩:=I.loc;hn.lt
theorem Inv.sz (I:Inv X pins σ H s):X.s₀.heap.objs.size<=s.heap.objs.size:=Nat.le_trans I.ok.above (Nat.le_of_lt I.lt)
theorem Inv.nofs (I:Inv X pins σ H s){a:Addr}(h:s.heap.objs.size<=a):a∉X.fs:=fun hb=>by
 obtain⟨_,o,J,_⟩:=I.ok.funs.mem hb
 exact absurd (Nat.lt_of_lt_of_le (Heap.lt_size J) (Nat.le_trans I.sz h)) (Nat.lt_irrefl _)
theorem Inv.cne (I:Inv X pins σ H s):∀ x c,X.env.cells.lookup x=some c->c≠X.env.locals:=fun x c e z=>by
 obtain⟨v,o,ho,hd⟩:=I.cell x c e
 obtain⟨m,⟨o',es,ep,J,U,_⟩,_⟩:=I.loc
 rw [z,J] at ho;cases ho;rw [U] at hd;cases hd
theorem Inv.funs (I:Inv X pins σ H s):s.heap.FunFrames X.base X.outer:=by
 have all:∀(l:List Env),(∀ b∈gz l,b∈X.fs)->X.s₀.heap.FunFrames X.base l->s.heap.FunFrames X.base l:=by
  intro l
  induction l with
  | nil=>intro _ _;trivial
  | cons env r U=>
   intro hs hl
   obtain⟨hk,⟨L,o,hf,hn,ho,hd⟩,hr⟩:=hl
   have J:L∈X.fs:=hs L (by unfold gz;rw [List.filterMap_cons,hf];exact List.mem_cons_self)
   obtain⟨sl,e⟩:=I.base.slot L o ho (I.ok.frf L J) J fun z=>I.ok.exfs L z J
   exact⟨hk,⟨L,_,hf,hn,e,hd⟩,U (fun b hb=>hs b (by unfold gz;rw [List.filterMap_cons,hf];exact List.mem_cons_of_mem _ hb)) hr⟩
 exact all X.outer (fun _ hb=>hb) I.ok.funs
theorem Inv.stack (I:Inv X pins σ H s):s.heap.FunFrames X.base X.stack:=by
 rcases I.ok.stk with e | ⟨e,hf⟩
 ·rw [e];exact I.funs
 ·rw [e]
  obtain⟨m,hn,_⟩:=I.loc
  refine .cons (by rw [I.ok.kind];decide) hf hn ?_ I.funs
  exact Heap.get?_none_of_le (Nat.le_trans I.ok.bsz I.ok.above)
theorem Inv.stkSub (I:Inv X pins σ H s):∀ b∈gz X.stack,b∈X.env.locals::X.fs:=fun b hb=>by
 rcases I.ok.stk with e | ⟨e,hf⟩
 ·rw [e] at hb;exact List.mem_cons_of_mem _ hb
 ·rw [e] at hb
  unfold gz at hb
  rw [List.filterMap_cons,hf] at hb
  exact hb
theorem Inv.stkFree (I:Inv X pins σ H s):∀ b∈gz X.stack,H b=none:=fun b hb=>by
 rcases List.mem_cons.mp (I.stkSub b hb) with e | hb
 ·rw [e];exact I.free
 ·obtain⟨_,o,J,_⟩:=I.ok.funs.mem hb
  exact I.base.free b o J (I.ok.frf b hb) fun z=>I.ok.exfs b z hb
theorem Inv.step {g':Array GenState}{t':Nat}{d':Drawn}{ch:List Addr}(I:Inv X pins σ H s)
  (hch:∀ b∈ch,(b∈X.ex\/X.s₀.heap.objs.size<=b)/\b≠X.env.locals/\(∀ x c,X.env.cells.lookup x=some c->c≠b)/\∀ p∈X.pn++pins,p.1≠b)
  (keep:∀ b o,b≠X.env.locals->b∉X.fs->b∉ch->s.heap.get? b=some o->H b=none->h'.get? b=some o)
  (slot:∀ b o,b≠X.env.locals->b∈X.fs->b∉ch->s.heap.get? b=some o->H b=none->∃ sl,h'.get? b=some {o with slots:=sl})(free:∀ b o,b∉ch->s.heap.get? b=some o->H b=none->H' b=none)
  (there:∀ b o,b∉ch->s.heap.get? b=some o->∃ o',h'.get? b=some o')
  (tups:∀ b xs,H b=some (.tup xs)->H' b=some (.tup xs))(frzs:∀ b o u,H b=some (.frz o u)->H' b=some (.frz o u))(tbls:∀ b ps,H b=some (.tbl ps)->∃ more,H' b=some (.tbl (ps++more)))
  (ns:∀ m,s.heap.Ns X.env.locals m->h'.Ns X.env.locals m)(hok:gG X.prog X.w H' h')(hg:AllBare g'):
  Inv X pins σ H' {s with heap:=h',gens:=g',drawn:=d',toks:=t'}:=by
 have iB:∀ b o,X.s₀.heap.get? b=some o->b≠X.env.locals:=fun b o e=>Nat.ne_of_lt (Nat.lt_of_lt_of_le (Heap.lt_size e) I.ok.above)
 have aa:∀ b o,X.s₀.heap.get? b=some o->b∉X.ex->b∉ch:=fun b o e J hb=>by
  rcases(hch b hb).1 with z | z
  ·exact J z
  ·exact absurd (Nat.lt_of_lt_of_le (Heap.lt_size e) z) (Nat.lt_irrefl _)
 have cellK:∀ x c,X.env.cells.lookup x=some c->∀ v,s.heap.IsCell c v->h'.IsCell c v:=fun x c e v ⟨o,ho,hd⟩=>by
  have U:c∉ch:=fun z=>(hch c z).2.2.1 x c e rfl
  by_cases hc:c∈X.fs
  ·obtain⟨sl,q⟩:=slot c o (I.cne x c e) hc U ho (I.freeC x c e)
   exact⟨_,q,hd⟩
  ·exact⟨o,keep c o (I.cne x c e) hc U ho (I.freeC x c e),hd⟩
 refine⟨I.ok,I.os,hg,⟨fun b o e n hb J=>?_,fun b o e n hb J=>?_,fun b o e n J=>?_,fun b o e J=>?_,fun b xs e=>tups b xs (I.base.tups b xs e),fun b o xs e=>frzs b o xs (I.base.frzs b o xs e),fun b ps e=>?_⟩,?_,fun x c e=>?_,?_,fun x c e=>?_,fun p hp=>?_,hok,I.len⟩
 ·exact keep b o (iB b o e) hb (aa b o e J) (I.base.keep b o e n hb J) (I.base.free b o e n J)
 ·obtain⟨sl,e1⟩:=I.base.slot b o e n hb J
  obtain⟨ab,e2⟩:=slot b _ (iB b o e) hb (aa b o e J) e1 (I.base.free b o e n J)
  exact⟨ab,e2⟩
 ·obtain⟨o',e1⟩:=I.base.there b o e J
  exact free b o' (aa b o e J) e1 (I.base.free b o e n J)
 ·obtain⟨o',e1⟩:=I.base.there b o e J
  exact there b o' (aa b o e J) e1
 ·obtain⟨m1,e1⟩:=I.base.tbls b ps e
  obtain⟨m2,e2⟩:=tbls b _ e1
  exact⟨m1++m2,by rw [e2,Array.append_assoc]⟩
 ·obtain⟨m,hn,hl⟩:=I.loc
  refine⟨m,ns m hn,fun i x v e1 e2 e3=>?_⟩
  obtain⟨u,r,l⟩:=hl i x v e1 e2 e3
  refine⟨u,r,?_⟩
  rcases l with l | ⟨k,c,e,z⟩
  ·exact .inl l
  ·exact .inr ⟨k,c,e,cellK x c e _ z⟩
 ·obtain⟨v,z⟩:=I.cell x c e
  exact⟨v,cellK x c e v z⟩
 ·obtain⟨m,⟨o,_,_,ho,_⟩,_⟩:=I.loc
  exact free _ o (fun z=>(hch _ z).2.1 rfl) ho I.free
 ·obtain⟨v,o,ho,hd⟩:=I.cell x c e
  exact free c o (fun z=>(hch c z).2.2.1 x c e rfl) ho (I.freeC x c e)
 ·obtain⟨e,n,ne,nf,d⟩:=I.pin p hp
  have U:p.1∉ch:=fun z=>(hch p.1 z).2.2.2 p hp rfl
  exact⟨keep p.1 p.2 ne nf U e n,free p.1 p.2 U e n,ne,nf,d⟩
theorem Inv.un {t':Nat}(I:Inv X pins σ H s)(u:Un X.fs [] H H' s.heap h')(hok:gG X.prog X.w H' h'):Inv X pins σ H' {s with heap:=h',toks:=t'}:=by
 obtain⟨m,⟨o,es,ep,ho,r⟩,_⟩:=id I.loc
 obtain⟨sl,hL⟩:=u.any ho I.free (by simp)
 exact I.step (g':=s.gens) (d':=s.drawn) (ch:=[]) (fun _ z=>nomatch z) (fun b o _ hb _ e n=>u.keep b o e n hb (by simp)) (fun b o _ hb _ e n=>u.slot b o e n hb (by simp)) (fun b o _ e n=>u.free b o e n (by simp)) (fun b o _ e=>u.there b o e (by simp)) u.tups u.frzs u.tbls (fun m' hm=>by
  obtain⟨o',U,aa,J,r'⟩:=hm
  rw [ho] at J;cases J
  exact⟨_,U,aa,hL,r'⟩) hok I.bare
theorem Inv.call {g':Array GenState}{t':Nat}{d':Drawn}{ch:List Addr}(I:Inv X pins σ H s)(u:Un (gz X.stack) ch H H' s.heap h')(hok:gG X.prog X.w H' h')(hg:AllBare g')
  (hch:∀ b∈ch,(b∈X.ex\/X.s₀.heap.objs.size<=b)/\b≠X.env.locals/\(∀ x c,X.env.cells.lookup x=some c->c≠b)/\∀ p∈X.pn++pins,p.1≠b):
  Inv X pins σ H' {s with heap:=h',gens:=g',drawn:=d',toks:=t'}:=by
 obtain⟨m,⟨o,es,ep,ho,r⟩,_⟩:=id I.loc
 obtain⟨sl,hL⟩:=u.any ho I.free fun z=>(hch _ z).2.1 rfl
 exact I.step (ch:=ch) hch (fun b o hL hb J e n=>u.keep b o e n (fun z=>(List.mem_cons.mp (I.stkSub b z)).elim hL hb) J) (fun b o _ _ J e n=>u.any e n J) (fun b o J e n=>u.free b o e n J) (fun b o J e=>u.there b o e J) u.tups u.frzs u.tbls (fun m' hm=>by
  obtain⟨o',aa,ab,U,r'⟩:=hm
  rw [ho] at U;cases U
  exact⟨_,aa,ab,hL,r'⟩) hok hg
theorem Inv.turned {t':Nat}{it:Addr}(I:Inv X pins σ H s)(k:∀ b o,b≠it->s.heap.get? b=some o->h'.get? b=some o)(hn:H it=none)(hL:it≠X.env.locals)
  (h1:it∈X.ex\/X.s₀.heap.objs.size<=it)(h2:∀ x c,X.env.cells.lookup x=some c->c≠it)(h3:∀ p∈X.pn++pins,p.1≠it):Inv X pins σ H {s with heap:=h',toks:=t'}:=by
 have U:∀ b u,H b=some u->b≠it:=fun b u e z=>by rw [z,hn] at e;cases e
 refine I.step (g':=s.gens) (d':=s.drawn) (ch:=[it]) (fun b hb=>?_) (fun b o _ _ J e _=>k b o (fun z=>J (by simp [z])) e) (fun b o _ _ J e _=>⟨o.slots,k b o (fun z=>J (by simp [z])) e⟩) (fun _ _ _ _ n=>n)
  (fun b o J e=>⟨o,k b o (fun z=>J (by simp [z])) e⟩) (fun _ _ e=>e) (fun _ _ _ e=>e) (fun b ps e=>⟨#[],by rw [e];simp⟩) (fun m hm=>?_) (fun b u e=>?_) I.bare
 ·have e:b=it:=by simpa using hb
  subst e
  exact⟨h1,hL,h2,h3⟩
 ·obtain⟨o,es,ep,ho,r⟩:=hm
  exact⟨o,es,ep,k _ o (Ne.symm hL) ho,r⟩
 ·refine(I.hok b u e).stay (fun c v J q=>k c v ?_ q) (fun _ q=>q) fun _ _ q=>q
  rcases J with z | z
  ·rw [z];exact U b u e
  ·exact U c _ z
theorem Inv.tok (I:Inv X pins σ H s)(t:Nat):Inv X pins σ H {s with toks:=t}:=I.un (h':=s.heap) (t':=t) Un.refl I.hok
theorem Inv.kept {t':Nat}(I:Inv X pins σ H s)(k:∀ b u,s.heap.get? b=some u->h'.get? b=some u):Inv X pins σ H {s with heap:=h',toks:=t'}:=I.un (Un.kept k) (I.hok.kept k)
theorem Inv.laid {a:Addr}{o:HO}{t':Nat}(I:Inv X pins σ H s)(k:∀ b u,s.heap.get? b=some u->h'.get? b=some u)(hp:s.heap.objs.size<=a)(new:gI X.prog X.w (upd H a o) h' a o):
  Inv X pins σ (upd H a o) {s with heap:=h',toks:=t'}:=I.un (Un.laid k hp (I.hok.fresh hp)) (I.hok.laid k hp new)
theorem Inv.write {x e:Addr}{o:HO}{t':Nat}(I:Inv X pins σ H s)(mu:qG (H x))(he:e=x\/H e=some (.own x))(k:∀ b u,b≠e->s.heap.get? b=some u->h'.get? b=some u)(heo:∃ u,h'.get? e=some u)
  (new:gI X.prog X.w (upd H x o) h' x o):Inv X pins σ (upd H x o) {s with heap:=h',toks:=t'}:=I.un (Un.write mu he k heo) (I.hok.write mu he k heo new)
theorem Inv.weak {σ':List (Option V)}(I:Inv X pins σ H s)(hl:σ'.length=σ.length)(w:∀(i:Nat) v,σ'[i]? =some (some v)->σ[i]? =some (some v)):Inv X pins σ' H s:=
 ⟨I.ok,I.os,I.bare,I.base,let ⟨m,hn,hl'⟩:=I.loc;⟨m,hn,fun i x v J U e3=>hl' i x v J (w i v U) e3⟩,I.cell,I.free,I.freeC,I.pin,I.hok,hl.trans I.len⟩
theorem Inv.pins_of {pins':List (Addr×Obj)}(I:Inv X pins σ H s)(h:∀ p∈pins',s.heap.get? p.1=some p.2/\H p.1=none/\p.1≠X.env.locals/\p.1∉X.fs/\∀ v,p.2.data≠ .cell v):Inv X pins' σ H s:=
 ⟨I.ok,I.os,I.bare,I.base,I.loc,I.cell,I.free,I.freeC,fun p J=>(List.mem_append.mp J).elim (fun z=>I.pin p (List.mem_append_left _ z)) (h p),I.hok,I.len⟩
theorem tM{N:List Str}(hN:N.Nodup){i j:Nat}{x:Str}(a:N[i]? =some x)(b:N[j]? =some x):i=j:=by
 obtain⟨h1,I⟩:=List.getElem?_eq_some_iff.mp a
 obtain⟨h2,J⟩:=List.getElem?_eq_some_iff.mp b
 exact(List.getElem_inj hN).mp (I.trans J.symm)
theorem zt{M:Model}{A:Around}{E:Value->Shared->Prop}{i:Nat}{x:Str}{v:V}{u:Value}{Q:Unit->Shared->Prop}(I:Inv X pins σ H s)(hN:X.N.Nodup)(hi:X.N[i]? =some x)(hx:Loc X.env.scope x)(r:RelV v u)
  (h:∀ s',Inv X pins (σ.set i (some v)) H s'->(∃ a,Heap.SameBut a s.heap s'.heap/\(a=X.env.locals\/X.env.cells.lookup x=some a))->Q () s')(hf:X.fn x=true\/X.env.scope.names.lookup x=some .local:=by first | exact .inl rfl | exact .inr rfl | assumption):wpAny M A (storeName X.env x u) Q E s:=by
 obtain⟨m,hn,hl⟩:=id I.loc
 have ae:(X.env.scope.kind == .class || (X.env.scope.kind == .module && X.env.locals != X.env.globals))=false:=by rw [I.ok.kind];rfl
 have aa:i < σ.length:=by rw [I.len];exact(List.getElem?_eq_some_iff.mp hi).1
 have cne:=I.cne
 have tracked:∀{a:Addr} {h':Heap},(∃ o,s.heap.get? a=some o/\H a=none)->Heap.SameBut a s.heap h'->gG X.prog X.w H h':=fun{a h'} ha hs b ob e=>by
  obtain⟨_,_,U⟩:=ha
  refine(I.hok b ob e).stay (fun c w' hc q=>(hs.2 c ?_).trans q) (fun _ q=>q) fun _ _ q=>q
  rintro rfl
  rcases hc with rfl | hc
  ·rw [U] at e;cases e
  ·rw [U] at hc;cases hc
 rcases hx with hk | hk
 ·refine wpAny_storeName_local hk hn (fun h' aj hs=>?_) ae
  obtain⟨oL,_,_,ak,_⟩:=id hn
  refine h _ ⟨I.ok,I.os,I.bare,⟨fun b o e n hb hx=>?_,fun b o e n hb hx=>?_,I.base.free,fun b o e hx=>?_,I.base.tups,I.base.frzs,I.base.tbls⟩,⟨_,aj,fun j y v' J e2 e3=>?_⟩,fun y c e=>?_,I.free,I.freeC,fun p hp=>?_,tracked ⟨oL,ak,I.free⟩ hs,by simpa using I.len⟩ ⟨_,hs,.inl rfl⟩
  ·exact(hs.2 b (Nat.ne_of_lt (Nat.lt_of_lt_of_le (Heap.lt_size e) I.ok.above))).trans (I.base.keep b o e n hb hx)
  ·obtain⟨sl,J⟩:=I.base.slot b o e n hb hx
   exact⟨sl,(hs.2 b (Nat.ne_of_lt (Nat.lt_of_lt_of_le (Heap.lt_size e) I.ok.above))).trans J⟩
  ·obtain⟨o',J⟩:=I.base.there b o e hx
   exact⟨o',(hs.2 b (Nat.ne_of_lt (Nat.lt_of_lt_of_le (Heap.lt_size e) I.ok.above))).trans J⟩
  ·by_cases hj:j=i
   ·subst hj
    rw [hi] at J;cases J
    rw [List.getElem?_set_self aa] at e2
    cases e2
    exact⟨u,r,.inl ⟨hk,by simp⟩⟩
   ·rw [List.getElem?_set_ne (Ne.symm hj)] at e2
    obtain⟨u',r',q⟩:=hl j y v' J e2 e3
    refine⟨u',r',?_⟩
    rcases q with ⟨k,e⟩ | ⟨k,c,e,z⟩
    ·refine .inl ⟨k,?_⟩
     have:y≠x:=fun e=>hj (tM hN J (e ▸ hi))
     simp [this,e]
    ·exact .inr ⟨k,c,e,z.sameBut hs (cne y c e)⟩
  ·obtain⟨w',z⟩:=I.cell y c e
   exact⟨w',z.sameBut hs (cne y c e)⟩
  ·obtain⟨e,n,ne,nf,d⟩:=I.pin p hp
   exact⟨(hs.2 p.1 ne).trans e,n,ne,nf,d⟩
 ·have ab:X.fn x=true:=by
   rcases hf with z | z
   ·exact z
   ·rw [z] at hk;cases hk
  obtain⟨c,hc⟩:=I.ok.has x (.inl hk)
  obtain⟨w',z⟩:=I.cell x c hc
  refine wpAny_storeName_cell I.ok.kind hk hc z (fun h' af hs=>?_)
  obtain⟨oc,ag,ah⟩:=id z
  refine h {s with heap:=h'} ⟨I.ok,I.os,I.bare,⟨fun b o e n hb hx=>?_,fun b o e n hb hx=>?_,I.base.free,fun b o e hx=>?_,I.base.tups,I.base.frzs,I.base.tbls⟩,⟨m,hn.sameBut hs (Ne.symm (cne x c hc)),fun j y v' J e2 e3=>?_⟩,fun y c' e=>?_,I.free,I.freeC,fun p hp=>?_,tracked ⟨oc,ag,I.freeC x c hc⟩ hs,by simpa using I.len⟩ ⟨c,hs,.inr hc⟩
  ·exact(hs.2 b (Nat.ne_of_lt (Nat.lt_of_lt_of_le (Heap.lt_size e) (I.ok.cab x c ab hc)))).trans (I.base.keep b o e n hb hx)
  ·obtain⟨sl,J⟩:=I.base.slot b o e n hb hx
   exact⟨sl,(hs.2 b (Nat.ne_of_lt (Nat.lt_of_lt_of_le (Heap.lt_size e) (I.ok.cab x c ab hc)))).trans J⟩
  ·obtain⟨o',J⟩:=I.base.there b o e hx
   exact⟨o',(hs.2 b (Nat.ne_of_lt (Nat.lt_of_lt_of_le (Heap.lt_size e) (I.ok.cab x c ab hc)))).trans J⟩
  ·by_cases hj:j=i
   ·subst hj
    rw [hi] at J;cases J
    rw [List.getElem?_set_self aa] at e2
    cases e2
    exact⟨u,r,.inr ⟨.inl hk,c,hc,af⟩⟩
   ·rw [List.getElem?_set_ne (Ne.symm hj)] at e2
    obtain⟨u',r',q⟩:=hl j y v' J e2 e3
    refine⟨u',r',?_⟩
    rcases q with q | ⟨k,c',e,z'⟩
    ·exact .inl q
    ·refine .inr ⟨k,c',e,z'.sameBut hs ?_⟩
     rintro rfl
     exact hj (tM hN J (I.ok.inj _ _ _ e hc ▸ hi))
  ·by_cases ai:c'=c
   ·subst ai;exact⟨_,af⟩
   ·obtain⟨w2,z2⟩:=I.cell y c' e
    exact⟨w2,z2.sameBut hs ai⟩
  ·obtain⟨e,n,ne,nf,d⟩:=I.pin p hp
   refine⟨(hs.2 p.1 ?_).trans e,n,ne,nf,d⟩
   intro q
   rw [q,ag] at e
   have q':oc=p.2:=Option.some.inj e
   exact d w' (by rw [<-q'];exact ah)
theorem pj{M:Model}{A:Around}{E:Value->Shared->Prop}{i:Nat}{x:Str}{v:V}{u:Value}{Q:Unit->Shared->Prop}(I:Inv X pins σ H s)(hN:X.N.Nodup)(hi:X.N[i]? =some x)(hx:Loc X.env.scope x)(r:RelV v u)
  (h:∀ s',Inv X pins (σ.set i (some v)) H s'->Q () s')(hf:X.fn x=true\/X.env.scope.names.lookup x=some .local:=by first | exact .inl rfl | exact .inr rfl | assumption):wpAny M A (storeName X.env x u) Q E s:=
 zt I hN hi hx r (fun s' J _=>h s' J) hf
theorem Inv.call' {s':Shared}{ch:List Addr}(I:Inv X pins σ H s)(ho:s'.os=s.os)(u:Un (gz X.stack) ch H H' s.heap s'.heap)(hok:gG X.prog X.w H' s'.heap)(hg:AllBare s'.gens)
  (hch:∀ b∈ch,(b∈X.ex\/X.s₀.heap.objs.size<=b)/\b≠X.env.locals/\(∀ x c,X.env.cells.lookup x=some c->c≠b)/\∀ p∈X.pn++pins,p.1≠b):Inv X pins σ H' s':=by
 obtain⟨h',g',d',t',o'⟩:=s'
 have e:o'=s.os:=ho
 subst e
 exact I.call (g':=g') (t':=t') (d':=d') u hok hg hch
end
abbrev XK:=Value->Option Addr->Hp->Prop
abbrev St:=List (Option V)
abbrev VK:=V->Hp->Prop
abbrev TE:=St->Hp->VK->Prop
abbrev TT:=St->Hp->(Bool->Hp->Prop)->Prop
abbrev TA:=St->Hp->(List V->Hp->Prop)->Prop
structure Ends where
 nx : St -> Hp -> Prop
 rt : VK
 bk : St -> Hp -> Prop := fun _ _ => False
 ct : St -> Hp -> Prop := fun _ _ => False
abbrev TS:=Ends->St->Hp->Prop
def EP(X:Cx)(pins:List (Addr×Obj))(σ:St)(Q:VK)(u:Value)(s':Shared):Prop:=∃ v H',Inv X pins σ H' s'/\RelV v u/\Q v H'
def TP(X:Cx)(pins:List (Addr×Obj))(σ:St)(Q:Bool->Hp->Prop)(b:Bool)(s':Shared):Prop:=∃ H',Inv X pins σ H' s'/\Q b H'
def AP(X:Cx)(pins:List (Addr×Obj))(σ:St)(Q:List V->Hp->Prop)(us:List Value)(s':Shared):Prop:=∃ vs H',Inv X pins σ H' s'/\Vals vs us/\Q vs H'
def SP(X:Cx)(pins:List (Addr×Obj))(D:Ends)(f:Flow)(s':Shared):Prop:=
 match f with
 | .next=>∃ I H',Inv X pins I H' s'/\D.nx I H'
 | .brk=>∃ I H',Inv X pins I H' s'/\D.bk I H'
 | .cont=>∃ I H',Inv X pins I H' s'/\D.ct I H'
 | .ret u=>∃ v I H',Inv X pins I H' s'/\RelV v u/\D.rt v H'
def PE(X:Cx)(e:Expr)(t:TE):Prop:=
 ∀(pins:List (Addr×Obj)) (s:Shared) (σ:St) (H:Hp) (Q:VK),Inv X pins σ H s->t σ H Q->wpAny (model X.prog X.w) X.A (eval e X.env) (EP X pins σ Q) X.xe s
def PT(X:Cx)(e:Expr)(t:TT):Prop:=
 ∀(pins:List (Addr×Obj)) (s:Shared) (σ:St) (H:Hp) (Q:Bool->Hp->Prop),Inv X pins σ H s->t σ H Q->wpAny (model X.prog X.w) X.A (isTrue e X.env (eval e X.env)) (TP X pins σ Q) X.xe s
def PW(X:Cx)(e:Expr)(t:TT):Prop:=
 ∀(whole:Sem Value) (pins:List (Addr×Obj)) (s:Shared) (σ:St) (H:Hp) (Q:Bool->Hp->Prop),Inv X pins σ H s->t σ H Q->wpAny (model X.prog X.w) X.A (isTrue e X.env whole) (TP X pins σ Q) X.xe s
theorem PW.pt {X:Cx}{e:Expr}{t:TT}(h:PW X e t):PT X e t:=h _
def PA(X:Cx)(es:List Expr)(t:TA):Prop:=
 ∀(pos:Pos) (pins:List (Addr×Obj)) (s:Shared) (σ:St) (H:Hp) (Q:List V->Hp->Prop),Inv X pins σ H s->t σ H Q->wpAny (model X.prog X.w) X.A (spliced (backTo pos (starEach es X.env))) (AP X pins σ Q) X.xe s
def PS(X:Cx)(st:Stmt)(t:TS):Prop:=
 ∀(pins:List (Addr×Obj)) (s:Shared) (σ:St) (H:Hp) (D:Ends),Inv X pins σ H s->t D σ H->wpAny (model X.prog X.w) X.A (exec st X.env) (SP X pins D) X.xe s
def fM(X:Cx)(st:List Stmt)(t:TS):Prop:=
 ∀(pins:List (Addr×Obj)) (s:Shared) (σ:St) (H:Hp) (D:Ends),Inv X pins σ H s->t D σ H->wpAny (model X.prog X.w) X.A (execs st X.env) (SP X pins D) X.xe s
theorem fK{α:Type}{t:Sem α}{Q Q':α->Shared->Prop}{M:Model}{A:Around}{E:Value->Shared->Prop}{s:Shared}(h:wpAny M A t Q E s)(hQ:∀ a s,Q a s->Q' a s):wpAny M A t Q' E s:=wpAny_mono h hQ fun _ _ x=>x
section
variable {X : Cx}
def jQ(i:Nat):TE:=fun σ H Q=>∃ v,σ[i]? =some (some v)/\Q v H
def tC(v:V):TE:=fun _ H Q=>Q v H
theorem Ba{i:Nat}{x:Str}{pos:Pos}(hN:X.N[i]? =some x)(hv:qo X.env.scope x)(hd:(x == ("__debug__":Str))=false:=by decide)(hcd:(x == ("__classdict__":Str))=false:=by decide):PE X (.Name x pos) (jQ i):=by
 intro pins s σ H Q I h
 obtain⟨v,e,h⟩:=h
 obtain⟨m,hn,hl⟩:=I.loc
 obtain⟨u,r,l⟩:=hl i x v hN e hv
 have fin:EP X pins σ Q u s:=⟨v,H,I,r,h⟩
 rcases l with ⟨hk,hm⟩ | ⟨hk,c,U,J⟩
 ·exact wpAny_Name (wpAny_loadName_local I.ok.kind hk hn hm fin) hd
 ·rcases hk with hk | hk
  ·exact wpAny_Name (wpAny_loadName_cell I.ok.kind hk U J fin) hd
  ·exact wpAny_Name (wpAny_loadName_free I.ok.kind hk U J fin hcd) hd
theorem fy{i j pos}:PE X (.Constant (.int i) j pos) (tC (.int i)):=fun _ _ _ H _ I h=>wpAny_Constant_int ⟨.int i,H,I.tok _,⟨_,rfl⟩,h⟩
theorem iG{b j pos}:PE X (.Constant (.bool b) j pos) (tC (.bl b)):=fun _ _ _ H _ I h=>Constant_bool ⟨.bl b,H,I,rfl,h⟩
theorem Fh{j pos}:PE X (.Constant .none j pos) (tC .non):=fun _ _ _ H _ I h=>Constant_none ⟨.non,H,I,rfl,h⟩
theorem gd{x j pos}:PE X (.Constant (.str x) j pos) (tC (.str x)):=fun _ _ _ H _ I h=>Calls.Constant_str ⟨.str x,H,I.tok _,⟨_,rfl⟩,h⟩
def Gl(X:Cx)(x:Str):Prop:=X.env.kindOf x=some .globalImplicit
theorem lM{E:Value->Shared->Prop}{pins:List (Addr×Obj)}{s:Shared}{σ:St}{H:Hp}{x:Str}{u:Value}{pos:Pos}{Q:Value->Shared->Prop}(I:Inv X pins σ H s)(hg:Gl X x)(hm:X.mg x=some u)(h:Q u s)
  (hd:(x == ("__debug__":Str))=false:=by decide):wpAny (model X.prog X.w) X.A (eval (.Name x pos) X.env) Q E s:=
 Calls.Name_function_global I.ok.kind hg (Calls.loadGlobal_global (by rw [I.ok.glob];exact I.mod.glob.keeps I.bk) hm h) hd
theorem oB{E:Value->Shared->Prop}{pins:List (Addr×Obj)}{s:Shared}{σ:St}{H:Hp}{x:Str}{u:Value}{pos:Pos}{Q:Value->Shared->Prop}(I:Inv X pins σ H s)(hg:Gl X x)(hm:X.mg x=none)(hv:bootBuiltins x=some u)(h:Q u s)
  (hn:x≠"__name__":=by decide)(hd:(x == ("__debug__":Str))=false:=by decide):wpAny (model X.prog X.w) X.A (eval (.Name x pos) X.env) Q E s:=by
 obtain⟨J,h1,h2⟩:=I.mod.blt
 exact Calls.Name_function_global I.ok.kind hg (Calls.loadGlobal_builtin (by rw [I.ok.glob];exact I.mod.glob.keeps I.bk) hm (by rw [I.ok.blt];exact h1.keeps I.bk) ((h2 x hn).trans hv) h) hd
theorem iY{x:Str}{v:V}{u:Value}{pos:Pos}(hg:Gl X x)(hm:X.mg x=some u)(r:RelV v u)(hd:(x == ("__debug__":Str))=false:=by decide):PE X (.Name x pos) (tC v):=
 fun _ _ _ H _ I h=>lM I hg hm ⟨v,H,I,r,h⟩ hd
theorem jN{x:Str}{v:V}{u:Value}{pos:Pos}(hg:Gl X x)(hm:X.mg x=none)(hv:bootBuiltins x=some u)(r:RelV v u)(hn:x≠"__name__":=by decide)(hd:(x == ("__debug__":Str))=false:=by decide):PE X (.Name x pos) (tC v):=
 fun _ _ _ H _ I h=>oB I hg hm hv ⟨v,H,I,r,h⟩ hn hd
variable {a b : Expr} {ta tb : TE} {pos : Pos}
def PC(X:Cx)(op:CmpOp)(a b:Expr)(t:TE):Prop:=
 ∀(pins:List (Addr×Obj)) (s:Shared) (σ:St) (H:Hp) (Q:VK),Inv X pins σ H s->t σ H Q->
  wpAny (model X.prog X.w) X.A (eval a X.env) (fun v I=>wpAny (model X.prog X.w) X.A (eval b X.env) (fun u J=>wpAny (model X.prog X.w) X.A (compareOp op v u) (EP X pins σ Q) X.xe J) X.xe I) X.xe s
theorem Hu(b:Expr){op:CmpOp}(h:op≠ .In)(h2:op≠ .NotIn):behindInMarks op b=false:=by
 have I:(op == CmpOp.In)=false:=by cases op<;>first | rfl | exact absurd rfl h
 have J:(op == CmpOp.NotIn)=false:=by cases op<;>first | rfl | exact absurd rfl h2
 cases b<;>simp [behindInMarks,I,J]
def Ds(ta:TE):TE:=fun σ H Q=>ta σ H fun x H1=>Q (.bl (decide (x= .non))) H1
def Fp(ta:TE):TE:=fun σ H Q=>ta σ H fun x H1=>Q (.bl (!decide (x= .non))) H1
theorem RelV.none_iff {x:V}{v:Value}(r:RelV x v):(v == Value.none)=decide (x= .non):=by
 cases x with
 | non=>cases r;rfl
 | bl _=>cases r;rfl
 | int _=>obtain⟨t,rfl⟩:=r;rfl
 | str _=>obtain⟨t,rfl⟩:=r;rfl
 | byt _=>obtain⟨t,rfl⟩:=r;rfl
 | flt _=>obtain⟨t,rfl⟩:=r;rfl
 | ref _=>cases r;rfl
 | ty _=>cases r;rfl
theorem zM{j pos'}(ha:PE X a ta):PC X .Is a (.Constant .none j pos') (Ds ta):=by
 intro pins s σ H Q I h
 refine fK (ha pins s σ H _ I h) fun v s1 ⟨x,H1,J,U,q1⟩=>?_
 exact Constant_none (is_none_gen ⟨.bl _,H1,J,by rw [U.none_iff];rfl,q1⟩)
theorem yJ{j pos'}(ha:PE X a ta):PC X .IsNot a (.Constant .none j pos') (Fp ta):=by
 intro pins s σ H Q I h
 refine fK (ha pins s σ H _ I h) fun v s1 ⟨x,H1,J,U,q1⟩=>?_
 exact Constant_none (isnot_none_gen ⟨.bl _,H1,J,by rw [U.none_iff];rfl,q1⟩)
def tB(t:TE):TT:=fun σ H Q=>t σ H fun x H1=>∃ c,x= .bl c/\Q c H1
theorem kI{op:CmpOp}{t:TE}(h:PC X op a b t)(h1:behindInMarks op b=false:=by first | exact Hu _ (by decide) (by decide) | rfl):PT X (.Compare a [op] [b] pos) (tB t):=by
 intro pins s σ H Q I hw
 refine wpAny_isTrue_Compare1 (fK (h pins s σ H _ I hw) fun v s1 h1=>fK h1 fun u s2 h2=>fK h2 fun c s3 ⟨x,H1,J,U,q1⟩=>?_) h1
 obtain⟨d,rfl,q⟩:=q1
 cases U
 exact wpAny_truthy_bool ⟨H1,J,q⟩
theorem gT{e:Expr}{t:TE}(h:PE X e t)(he:∀ whole,isTrue e X.env whole=(do let v<-whole;standAt e.pos;holding [v] (truthy v)):=by intro _;rfl):PT X e (tB t):=by
 intro pins s σ H Q I hw
 refine isTrue_plain (fK (h pins s σ H _ I hw) fun v s1 ⟨x,H1,J,U,q1⟩=>?_) (he _)
 obtain⟨d,rfl,q⟩:=q1
 cases U
 exact wpAny_truthy_bool ⟨H1,J,q⟩
variable {tA tB' : TT} {rest : List Expr}
def Eg(t u:TT):TT:=fun σ H Q=>t σ H fun c H1=>if c=true then u σ H1 Q else Q false H1
def IW(t u:TT):TT:=fun σ H Q=>t σ H fun c H1=>if c=true then Q true H1 else u σ H1 Q
def DZ(t:TT):TT:=fun σ H Q=>t σ H fun c H1=>Q (!c) H1
theorem kj(ha:PT X a tA):PW X (.BoolOp .And [a] pos) tA:=by
 intro J pins s σ H Q I h
 refine isTrue_and (fK (ha pins s σ H Q I h) fun c s1 e=>?_)
 cases c with
 | true=>exact isTrue_and_nil e
 | false=>exact e
theorem kf(ha:PT X a tA):PW X (.BoolOp .Or [a] pos) tA:=by
 intro J pins s σ H Q I h
 refine isTrue_or (fK (ha pins s σ H Q I h) fun c s1 e=>?_)
 cases c with
 | false=>exact isTrue_or_nil e
 | true=>exact e
theorem jW(ha:PT X a tA)(hb:PW X (.BoolOp .And (b::rest) pos) tB'):PW X (.BoolOp .And (a::b::rest) pos) (Eg tA tB'):=by
 intro wh pins s σ H Q I h
 refine isTrue_and (fK (ha pins s σ H _ I h) fun c s1 ⟨H1,J,U⟩=>?_)
 cases c with
 | true=>exact hb wh pins s1 σ H1 Q J U
 | false=>exact⟨H1,J,U⟩
theorem jr(ha:PT X a tA)(hb:PW X (.BoolOp .Or (b::rest) pos) tB'):PW X (.BoolOp .Or (a::b::rest) pos) (IW tA tB'):=by
 intro wh pins s σ H Q I h
 refine isTrue_or (fK (ha pins s σ H _ I h) fun c s1 ⟨H1,J,U⟩=>?_)
 cases c with
 | true=>exact⟨H1,J,U⟩
 | false=>exact hb wh pins s1 σ H1 Q J U
theorem hJ(ha:PT X a tA):PT X (.UnaryOp .Not a pos) (DZ tA):=by
 intro pins s σ H Q I h
 exact isTrue_not (ha pins s σ H (fun c H1=>Q (!c) H1) I h)
def IL(ta tb:TE):TE:=fun σ H Q=>ta σ H fun x H1=>∃ c,x= .bl c/\if c=true then tb σ H1 Q else Q (.bl false) H1
def B2(ta tb:TE):TE:=fun σ H Q=>ta σ H fun x H1=>∃ c,x= .bl c/\if c=true then Q (.bl true) H1 else tb σ H1 Q
def Bh(ta:TE):TE:=fun σ H Q=>ta σ H fun x H1=>∃ c,x= .bl c/\Q (.bl (!c)) H1
theorem oV{op}{t:TE}(h:PE X a t):PE X (.BoolOp op [a] pos) t:=fun pins s σ H Q I hw=>BoolOp_one (h pins s σ H Q I hw)
theorem nW(ha:PE X a ta)(hb:PE X (.BoolOp .And (b::rest) pos) tb):PE X (.BoolOp .And (a::b::rest) pos) (IL ta tb):=by
 intro pins s σ H Q I h
 refine BoolOp_and (fK (ha pins s σ H _ I h) fun v s1 ⟨x,H1,U,r1,J⟩=>?_)
 obtain⟨c,rfl,J⟩:=J
 cases r1
 refine wpAny_truthy_bool ?_
 cases c with
 | true=>exact hb pins s1 σ H1 Q U J
 | false=>exact⟨.bl false,H1,U,rfl,J⟩
theorem DI(ha:PE X a ta)(hb:PE X (.BoolOp .Or (b::rest) pos) tb):PE X (.BoolOp .Or (a::b::rest) pos) (B2 ta tb):=by
 intro pins s σ H Q I h
 refine BoolOp_or (fK (ha pins s σ H _ I h) fun v s1 ⟨x,H1,U,r1,J⟩=>?_)
 obtain⟨c,rfl,J⟩:=J
 cases r1
 refine wpAny_truthy_bool ?_
 cases c with
 | false=>exact hb pins s1 σ H1 Q U J
 | true=>exact⟨.bl true,H1,U,rfl,J⟩
theorem HE(ha:PE X a ta):PE X (.UnaryOp .Not a pos) (Bh ta):=by
 intro pins s σ H Q I h
 refine UnaryOp_ (fK (ha pins s σ H _ I h) fun v s1 ⟨x,H1,U,r1,J⟩=>?_)
 obtain⟨c,rfl,J⟩:=J
 cases r1
 exact not_of (wpAny_truthy_bool ⟨.bl (!c),H1,U,rfl,J⟩)
def E1(t:TT)(ta tb:TE):TE:=fun σ H Q=>t σ H fun c H1=>if c=true then ta σ H1 Q else tb σ H1 Q
theorem yy{c:Expr}(hc:PT X c tA)(ha:PE X a ta)(hb:PE X b tb):PE X (.IfExp c a b pos) (E1 tA ta tb):=by
 intro pins s σ H Q I h
 refine wpAny_IfExp (fK (hc pins s σ H _ I h) fun d s1 ⟨H1,J,U⟩=>?_)
 cases d with
 | true=>exact ha pins s1 σ H1 Q J U
 | false=>exact hb pins s1 σ H1 Q J U
end
def fj(K:W.Frag)(H:Hp)(a:Addr)(xs:List V):Prop:=
 Rd H a (.lst xs)\/
  ∃(o:Obj) (I:Array Value) (n:Nat),K.lookup a=some o/\o.cls= .type "list"/\o.dict=none/\o.data= .seq I n/\I.size<=sizeLine/\Vals xs I.toList
def gb(K:W.Frag)(H:Hp)(a:Addr)(xs:List V):Prop:=
 Rd H a (.tup xs)\/
  ∃(o:Obj) (I:Array Value) (n:Nat),K.lookup a=some o/\o.cls= .type "tuple"/\o.data= .seq I n/\I.size<=sizeLine/\Vals xs I.toList
def AB:Value->Option V
 | .none=>some .non
 | .bool b=>some (.bl b)
 | .int i _=>some (.int i)
 | .str x _=>some (.str x)
 | .bytes b _=>some (.byt b)
 | .float b _=>some (.flt b)
 | .ref a=>some (.ref a)
 | .type n=>some (.ty n)
 | _=>none
theorem RelV.abs {x:V}{u:Value}(r:RelV x u):AB u=some x:=by
 cases x with
 | non=>cases r;rfl
 | bl _=>cases r;rfl
 | int _=>obtain⟨t,rfl⟩:=r;rfl
 | str _=>obtain⟨t,rfl⟩:=r;rfl
 | byt _=>obtain⟨t,rfl⟩:=r;rfl
 | flt _=>obtain⟨t,rfl⟩:=r;rfl
 | ref _=>cases r;rfl
 | ty _=>cases r;rfl
theorem RelV.inj {x y:V}{u:Value}(r:RelV x u)(q:RelV y u):x=y:=Option.some.inj (r.abs.symm.trans q.abs)
theorem Vals.inj:∀{xs ys:List V} {us:List Value},Vals xs us->Vals ys us->xs=ys
 | _,_,_,.nil,.nil=>rfl
 | _,_,_,.cons r t,.cons I t'=>by rw [r.inj I,Vals.inj t t']
section
variable {X : Cx} {pins : List (Addr × Obj)} {σ : St} {H : Hp} {s : Shared} {a : Addr} {xs ys : List V}
theorem fj.of {K:W.Frag}(h:H a=some (.lst xs)):fj K H a xs:= .inl (.inl h)
theorem gb.of {K:W.Frag}(h:H a=some (.tup xs)):gb K H a xs:= .inl (.inl h)
theorem Inv.list (I:Inv X pins σ H s)(h:fj X.K H a xs):∃ its:List Value,Vals xs its/\PlainL s.heap a its.toArray/\xs.length<=sizeLine:=by
 rcases h with h | ⟨o,its,n,hk,J,hd,hs,U,r⟩
 ·obtain⟨z,its,n,r,e⟩:=h.ok I.hok
  exact⟨its,r,⟨_,n,e,rfl,rfl,rfl⟩,z⟩
 ·refine⟨its.toList,r,⟨o,n,I.kIn a o hk,J,hd,by simpa using hs⟩,?_⟩
  have e:=r.length
  simp only [Array.length_toList] at e
  omega
theorem Inv.tuple (I:Inv X pins σ H s)(h:gb X.K H a xs):∃ its:List Value,Vals xs its/\IsTup s.heap a its.toArray/\xs.length<=sizeLine:=by
 rcases h with h | ⟨o,its,n,hk,J,hs,U,r⟩
 ·obtain⟨z,its,r,p⟩:=h.ok I.hok
  exact⟨its,r,p,z⟩
 ·refine⟨its.toList,r,⟨o,I.kIn a o hk,J,n,by simpa using hs⟩,?_⟩
  have e:=r.length
  simp only [Array.length_toList] at e
  omega
theorem Inv.list_inj (I:Inv X pins σ H s)(h:fj X.K H a xs)(h':fj X.K H a ys):xs=ys:=by
 obtain⟨J,r,⟨o,n,e,_,_,d⟩,_⟩:=I.list h
 obtain⟨its',r',⟨o',n',U,_,_,d'⟩,_⟩:=I.list h'
 rw [e] at U;cases U
 rw [d] at d'
 injection d' with d1 _
 have:J=its':=by simpa using congrArg Array.toList d1
 subst this
 exact r.inj r'
theorem Inv.tuple_inj (I:Inv X pins σ H s)(h:gb X.K H a xs)(h':gb X.K H a ys):xs=ys:=by
 obtain⟨J,r,⟨o,e,_,n,d⟩,_⟩:=I.tuple h
 obtain⟨its',r',⟨o',U,_,n',d'⟩,_⟩:=I.tuple h'
 rw [e] at U;cases U
 rw [d] at d'
 injection d' with d1 _
 have:J=its':=by simpa using congrArg Array.toList d1
 subst this
 exact r.inj r'
end
abbrev Cx.wish (X:Cx)(E:Value->Shared->Prop):Cx:={X with xe:=E}
abbrev Cx.nox (X:Cx):Cx:=X.wish fun _ _=>False
theorem Cx.Ok.wish {X:Cx}(ok:X.Ok)(E:Value->Shared->Prop):(X.wish E).Ok:=
 ⟨ok.mod,ok.kind,ok.glob,ok.blt,ok.above,ok.inj,ok.has,ok.cab,ok.hd,ok.frames,ok.stk,ok.exf,ok.bs,ok.bsz,ok.noex,ok.exfs,ok.funs,ok.frf⟩
theorem Cx.Ok.unwish {X:Cx}{E:Value->Shared->Prop}(ok:(X.wish E).Ok):X.Ok:=
 ⟨ok.mod,ok.kind,ok.glob,ok.blt,ok.above,ok.inj,ok.has,ok.cab,ok.hd,ok.frames,ok.stk,ok.exf,ok.bs,ok.bsz,ok.noex,ok.exfs,ok.funs,ok.frf⟩
section
variable {X : Cx} {pins : List (Addr × Obj)} {σ : St} {H : Hp} {s : Shared} {E : Value -> Shared -> Prop}
theorem Inv.wish (I:Inv X pins σ H s)(E:Value->Shared->Prop):Inv (X.wish E) pins σ H s:=⟨I.ok.wish E,I.os,I.bare,I.base,I.loc,I.cell,I.free,I.freeC,I.pin,I.hok,I.len⟩
theorem Inv.unwish (I:Inv (X.wish E) pins σ H s):Inv X pins σ H s:=⟨I.ok.unwish,I.os,I.bare,I.base,I.loc,I.cell,I.free,I.freeC,I.pin,I.hok,I.len⟩
theorem SP.unwish {D:Ends}{f:Flow}{s':Shared}(h:SP (X.wish E) pins D f s'):SP X pins D f s':=by
 cases f with
 | next=>obtain⟨J,H',I,q⟩:=h;exact⟨J,H',I.unwish,q⟩
 | brk=>obtain⟨J,H',I,q⟩:=h;exact⟨J,H',I.unwish,q⟩
 | cont=>obtain⟨J,H',I,q⟩:=h;exact⟨J,H',I.unwish,q⟩
 | ret u=>obtain⟨v,J,H',I,r,q⟩:=h;exact⟨v,J,H',I.unwish,r,q⟩
theorem fM.nox {st:List Stmt}{t:TS}(h:fM X.nox st t):fM X st t:=fun pins s σ H D I hw=>
 wpAny_mono (h pins s σ H D (I.wish _) hw) (fun _ _ q=>q.unwish) fun _ _ z=>False.elim z
end
section
variable {X : Cx} {st : Stmt} {rest : List Stmt} {t u : TS} {e : Expr} {te : TE} {pos : Pos}
def Cc:TS:=fun D σ H=>D.nx σ H
def pF(t u:TS):TS:=fun D σ H=>t {D with nx:=u D} σ H
theorem gh:fM X [] Cc:=fun _ _ σ H _ I h=>wpAny_execs_nil ⟨σ,H,I,h⟩
theorem fq(h1:PS X st t)(h2:fM X rest u):fM X (st::rest) (pF t u):=by
 intro pins s σ H D I h
 refine wpAny_execs_cons (fK (h1 pins s σ H {D with nx:=u D} I h) fun f s1 q=>?_)
 cases f with
 | next=>
  obtain⟨J,H',U,q⟩:=q
  exact h2 pins s1 J H' D U q
 | ret v=>exact q
 | brk=>exact q
 | cont=>exact q
theorem fA(h1:PS X st t):fM X [st] t:=by
 intro pins s σ H D I h
 refine wpAny_execs_cons (fK (h1 pins s σ H D I h) fun f s1 q=>?_)
 cases f with
 | next=>exact wpAny_execs_nil q
 | ret v=>exact q
 | brk=>exact q
 | cont=>exact q
theorem Inv.quiet {pins:List (Addr×Obj)}{σ:St}{H:Hp}{s:Shared}(I:Inv X pins σ H s):interactive X.env=false:=by simp [interactive,I.ok.kind]
def Ce(te:TE):TS:=fun D σ H=>te σ H fun _ H1=>D.nx σ H1
theorem gB(he:PE X e te)(hs:swapsWith e none pos.line X.env=pure false:=by rfl):PS X (.Expr e pos) (Ce te):=by
 intro pins s σ H D I h
 exact wpAny_Expr_any (fK (he pins s σ H _ I h) fun v s1 ⟨x,H1,J,r1,U⟩=>⟨σ,H1,J,U⟩) I.quiet hs
def z6(te:TE):TS:=fun D σ H=>te σ H D.rt
theorem fP(he:PE X e te):PS X (.Return (some e) pos) (z6 te):=by
 intro pins s σ H D I h
 exact wpAny_Return_some (fK (he pins s σ H _ I h) fun v s1 ⟨x,H1,J,U,q1⟩=>⟨x,σ,H1,J,U,q1⟩)
def Cb(c:TT)(t u:TS):TS:=fun D σ H=>c σ H fun b H1=>if b=true then t D σ H1 else u D σ H1
theorem gj{c:Expr}{a b:List Stmt}{tc:TT}(hc:PT X c tc)(ha:fM X a t)(hb:fM X b u):PS X (.If c a b pos) (Cb tc t u):=by
 intro pins s σ H D I h
 refine wpAny_If (fK (hc pins s σ H _ I h) fun d s1 ⟨H1,J,U⟩=>?_)
 cases d with
 | true=>exact ha pins s1 σ H1 D J U
 | false=>exact hb pins s1 σ H1 D J U
def BX:TS:=fun _ _ _=>False
theorem jR:PS X st BX:=fun _ _ _ _ _ _ h=>h.elim
end
abbrev TG:=V->St->Hp->(St->Hp->Prop)->Prop
abbrev ky:=List V->St->Hp->(St->Hp->Prop)->Prop
def PG(X:Cx)(target:Expr)(t:TG):Prop:=
 ∀(pins:List (Addr×Obj)) (s:Shared) (σ:St) (H:Hp) (v:V) (u:Value) (Q:St->Hp->Prop),Inv X pins σ H s->RelV v u->t v σ H Q->
  wpAny (model X.prog X.w) X.A (assign target X.env u) (fun _ s'=>∃ I H',Inv X pins I H' s'/\Q I H') X.xe s
def fT(X:Cx)(ts:List Expr)(t:ky):Prop:=
 ∀(pins:List (Addr×Obj)) (s:Shared) (σ:St) (H:Hp) (vs:List V) (us:List Value) (Q:St->Hp->Prop),Inv X pins σ H s->Vals vs us->t vs σ H Q->
  wpAny (model X.prog X.w) X.A (assignInOrder ((assignEach ts X.env).map (·.2)) us) (fun _ s'=>∃ I H',Inv X pins I H' s'/\Q I H') X.xe s
abbrev ui:=V->V->V->Hp->(Hp->Prop)->Prop
def Ao(X:Cx)(t:ui):Prop:=
 ∀(pins:List (Addr×Obj)) (s:Shared) (σ:St) (H:Hp) (o i v:V) (I J u:Value) (Q:Hp->Prop),Inv X pins σ H s->RelV o I->RelV i J->RelV v u->t o i v H Q->
  wpAny (model X.prog X.w) X.A (setItem I J u) (fun _ s'=>∃ H',Inv X pins σ H' s'/\Q H') X.xe s
abbrev sA:=V->V->Hp->VK->Prop
def vA(X:Cx)(op:Operator)(t:sA):Prop:=
 ∀(pins:List (Addr×Obj)) (s:Shared) (σ:St) (H:Hp) (x y:V) (v u:Value) (Q:VK),Inv X pins σ H s->RelV x v->RelV y u->t x y H Q->
  wpAny (model X.prog X.w) X.A (inplaceOp op v u) (EP X pins σ Q) X.xe s
section
variable {X : Cx} {pos : Pos}
def jC(i:Nat):TG:=fun v σ H Q=>Q (σ.set i (some v)) H
theorem fR{i:Nat}{x:Str}(hN:X.N.Nodup)(hi:X.N[i]? =some x)(hx:Loc X.env.scope x)(hf:X.fn x=true\/X.env.scope.names.lookup x=some .local:=by first | exact .inl rfl | exact .inr rfl | assumption):PG X (.Name x pos) (jC i):=by
 intro pins s σ H v u Q I r h
 exact wpAny_assign_Name (pj I hN hi hx r (fun s' J=>⟨_,H,J,h⟩) hf)
def zw:ky:=fun vs σ H Q=>vs=[]/\Q σ H
def yY(t:TG)(u:ky):ky:=fun vs σ H Q=>∃ v r,vs=v::r/\t v σ H fun I H'=>u r I H' Q
theorem jh:fT X [] zw:=by
 intro pins s σ H vs us Q I r h
 obtain⟨e,h⟩:=h
 subst e
 cases r
 exact assignInOrder_nil ⟨σ,H,I,h⟩
theorem gJ{e:Expr}{es:List Expr}{t:TG}{u:ky}(h1:PG X e t)(h2:fT X es u)
  (hs:(assignEach (e::es) X.env).map (·.2)=assign e X.env::(assignEach es X.env).map (·.2):=by rfl):fT X (e::es) (yY t u):=by
 intro pins s σ H vs us Q I r h
 obtain⟨v,vr,U,h⟩:=h
 subst U
 cases r with
 | cons r rr=>
  rw [hs]
  refine assignInOrder_cons (fK (h1 pins s σ H _ _ _ I r h) fun _ s1 ⟨J,H1,I1,q1⟩=>?_)
  exact h2 pins s1 J H1 _ _ Q I1 rr q1
def zl(K:W.Frag)(n:Nat)(t:ky):TG:=fun v σ H Q=>∃ a xs,v= .ref a/\gb K H a xs/\xs.length=n/\t xs σ H Q
theorem jj{es:List Expr}{k:Nat}{t:ky}{n:Nat}(hc:X.calm=true)(h:fT X es t)
  (hn:(assignEach es X.env).length=n:=by rfl)(hst:(assignEach es X.env).findIdx? (·.1)=none:=by rfl):PG X (.Tuple es k pos) (zl X.K n t):=by
 intro pins s σ H v u Q I r hw
 obtain⟨a,xs,U,hq,hl,hw⟩:=hw
 subst U
 cases r
 obtain⟨aa,J,ht,hz⟩:=I.tuple hq
 refine assign_Tuple_tuple (I.ok.hd hc) ht (by simp [hn,<-hl,J.length]) hst fun h' hx=>?_
 have I1:Inv X pins σ H {s with heap:=h'}:=I.kept (t':=s.toks) fun b o e=>hx b o (Nat.ne_of_lt (Heap.lt_size e)) e
 exact h pins _ σ H xs _ Q I1 (by simpa using J) hw
def Gw(to ti:TE)(t:ui):TG:=fun v σ H Q=>to σ H fun o H1=>ti σ H1 fun i H2=>t o i v H2 fun I=>Q σ I
theorem EE{o i:Expr}{to ti:TE}{t:ui}(ho:PE X o to)(hi:PE X i ti)(hs:Ao X t)
  (ha:∀ v,assign (.Subscript o i pos) X.env v=(do
   let ov<-holding [v] (eval o X.env)
   let iv<-holding [v,ov] (eval i X.env)
   standAt pos
   holding [v,ov,iv] (setItem ov iv v)
   release [v,ov,iv] []):=by intro _;rfl):PG X (.Subscript o i pos) (Gw to ti t):=by
 intro pins s σ H v u Q I r h
 rw [ha]
 refine wpAny_bind (wpAny_holding (fK (ho pins s σ H _ I h) fun ov s1 ⟨x,H1,J,U,q1⟩=>?_))
 refine wpAny_bind (wpAny_holding (fK (hi pins s1 σ H1 _ J q1) fun iv s2 ⟨y,H2,I2,r2,q2⟩=>?_))
 refine wpAny_bind (wpAny_standAt (wpAny_bind (wpAny_holding (fK (hs pins s2 σ H2 x y v ov iv u _ I2 U r2 r q2) fun _ s3 ⟨H3,I3,q3⟩=>?_))))
 exact wpAny_release ⟨σ,H3,I3,q3⟩
def uS(te:TE)(g:TG):TS:=fun D σ H=>te σ H fun x H1=>g x σ H1 D.nx
theorem vc{tg e:Expr}{te:TE}{g:TG}(he:PE X e te)(hg:PG X tg g)(hs:swapsWithSole [tg] e pos.line X.env=pure false:=by rfl)(hw:swappedStores [tg] e X.env=pure none:=by rfl)
  (h1:(assignEach [tg] X.env).map (·.2)=[assign tg X.env]:=by rfl):PS X (.Assign [tg] e pos) (uS te g):=by
 intro pins s σ H D I h
 refine wpAny_Assign_stores (fK (he pins s σ H _ I h) fun v s1 ⟨x,H1,J,U,q1⟩=>?_) hs hw
 rw [h1]
 exact fK (hg pins s1 σ H1 x v _ J U q1) fun _ s2 q=>q
theorem fG{i:Nat}{x:Str}{e:Expr}{te:TE}{pos':Pos}(hN:X.N.Nodup)(hi:X.N[i]? =some x)(hx:Loc X.env.scope x)(he:PE X e te)(hs:swapsWith e (some (.Name x pos')) pos.line X.env=pure false:=by rfl)(hf:X.fn x=true\/X.env.scope.names.lookup x=some .local:=by first | exact .inl rfl | exact .inr rfl | assumption):
  PS X (.Assign [.Name x pos'] e pos) (uS te (jC i)):=by
 intro pins s σ H D I h
 refine wpAny_Assign_Name (fK (he pins s σ H _ I h) fun v s1 ⟨y,H1,J,U,q1⟩=>?_) hs
 exact pj J hN hi hx U (fun s2 I2=>⟨_,H1,I2,q1⟩) hf
def HR(i:Nat)(te:TE)(ti:sA):TS:=fun D σ H=>∃ x,σ[i]? =some (some x)/\te σ H fun y H1=>ti x y H1 fun z H2=>D.nx (σ.set i (some z)) H2
theorem tP{i:Nat}{x:Str}{e:Expr}{te:TE}{op:Operator}{ti:sA}{pos':Pos}(hN:X.N.Nodup)(hi:X.N[i]? =some x)(hx:Loc X.env.scope x)(he:PE X e te)(ho:vA X op ti)(hf:X.fn x=true\/X.env.scope.names.lookup x=some .local:=by first | exact .inl rfl | exact .inr rfl | assumption):
  PS X (.AugAssign (.Name x pos') op e pos) (HR i te ti):=by
 intro pins s σ H D I h
 obtain⟨v,e1,h⟩:=h
 obtain⟨m,hn,hl⟩:=I.loc
 have ab:qo X.env.scope x:=by rcases hx with k | k;exact .inl k;exact .inr (.inl k)
 obtain⟨u,r,l⟩:=hl i x v hi e1 ab
 refine wpAny_AugAssign_Name ?_
 have go:wpAny (model X.prog X.w) X.A (eval e X.env) (fun w U=>wpAny (model X.prog X.w) X.A (inplaceOp op u w) (fun r aa=>wpAny (model X.prog X.w) X.A (storeName X.env x r) (fun _=>SP X pins D .next) X.xe aa) X.xe U) X.xe s:=by
  refine fK (he pins s σ H _ I h) fun w s1 ⟨y,H1,I1,r1,q1⟩=>?_
  refine fK (ho pins s1 σ H1 v y u w _ I1 r r1 q1) fun z s2 ⟨zv,H2,I2,r2,q2⟩=>?_
  exact pj I2 hN hi hx r2 (fun s3 I3=>⟨_,H2,I3,q2⟩) hf
 rcases l with ⟨hk,hm⟩ | ⟨hk,c,hc,J⟩
 ·exact wpAny_loadName_local I.ok.kind hk hn hm go
 ·rcases hk with hk | hk
  ·exact wpAny_loadName_cell I.ok.kind hk hc J go
  ·rcases hx with k | k
   ·have:X.env.scope.names.lookup x=some .free:=hk
    rw [k] at this;cases this
   ·have:X.env.scope.names.lookup x=some .free:=hk
    rw [k] at this;cases this
def xj(f:Int->Int->Int):sA:=fun x y H Q=>∃ i j,x= .int i/\y= .int j/\Q (.int (f i j)) H
theorem y0:vA X .Add (xj fun i j=>i + j):=by
 intro pins s σ H x y v u Q I J U h
 obtain⟨i,j,e1,e2,q⟩:=h
 subst e1;subst e2
 obtain⟨t,rfl⟩:=J
 obtain⟨t',rfl⟩:=U
 exact iadd_int ⟨.int _,H,I.tok _,⟨_,rfl⟩,q⟩
theorem C9:vA X .Sub (xj fun i j=>i - j):=by
 intro pins s σ H x y v u Q I J U h
 obtain⟨i,j,e1,e2,q⟩:=h
 subst e1;subst e2
 obtain⟨t,rfl⟩:=J
 obtain⟨t',rfl⟩:=U
 exact isub_int ⟨.int _,H,I.tok _,⟨_,rfl⟩,q⟩
def yc(c:TT)(tb:TS):TS:=fun D σ H=>∃ W:Nat->St->Hp->Prop,(∃ m,W m σ H)/\∀ m σ H,W m σ H->
 c σ H fun b H1=>if b=true then ∃ N:St->Hp->Prop,(∀ I H',N I H'->∃ J,J < m/\W J I H')/\tb {D with nx:=N,ct:=N,bk:=D.nx} σ H1 else D.nx σ H1
theorem sh{c:Expr}{body:List Stmt}{tc:TT}{tb:TS}(hp:PassesOwn (model X.prog X.w) X.A X.env X.xe)(hc:PT X c tc)(hb:fM X body tb):PS X (.While c body [] pos) (yc tc tb):=by
 intro pins s σ H D I h
 obtain⟨W,⟨m0,w0⟩,turn⟩:=h
 refine wpAny_While (codeAny_whileLoop (fun n s'=>∃ aa H',Inv X pins aa H' s'/\W n aa H') ?_ m0 ⟨σ,H,I,w0⟩)
 rintro n s1 ⟨U,H1,I1,w1⟩
 refine wpAny_passesOwn hp (fK (hc pins s1 U H1 _ I1 (turn n U H1 w1)) fun b s2 ⟨H2,I2,q2⟩=>?_)
 cases b with
 | true=>
  obtain⟨N,hN,q2⟩:=q2
  rw [if_pos rfl]
  refine wpAny_passesOwn hp (fK (hb pins s2 U H2 _ I2 q2) fun f s3 q3=>?_)
  cases f with
  | next=>
   obtain⟨J,H3,I3,n3⟩:=q3
   obtain⟨m',hm,w3⟩:=hN J H3 n3
   exact⟨m',hm,J,H3,I3,w3⟩
  | cont=>
   obtain⟨J,H3,I3,n3⟩:=q3
   obtain⟨m',hm,w3⟩:=hN J H3 n3
   exact⟨m',hm,J,H3,I3,w3⟩
  | brk=>exact q3
  | ret v=>exact q3
 | false=>
  rw [if_neg Bool.false_ne_true]
  exact wpAny_execs_nil ⟨U,H2,I2,q2⟩
end
structure It where
 go : Nat -> Hp -> Prop
 yld : Nat -> Hp -> V -> Hp -> Prop
 stop : Nat -> Hp -> Prop
def kh(X:Cx)(pins:List (Addr×Obj))(H:Hp)(b:Addr):Prop:=
 H b=none/\b≠X.env.locals/\b∉X.fs/\(b∈X.ex\/X.s₀.heap.objs.size<=b)/\(∀ x c,X.env.cells.lookup x=some c->c≠b)/\∀ p∈X.pn++pins,p.1≠b
theorem Inv.fpOk {X:Cx}{pins:List (Addr×Obj)}{σ:St}{H H':Hp}{s:Shared}{b:Addr}(I:Inv X pins σ H s)(hb:s.heap.objs.size<=b)(hn:H' b=none):kh X pins H' b:=by
 refine⟨hn,Nat.ne_of_gt (Nat.lt_of_lt_of_le I.lt hb),I.nofs hb,.inr (Nat.le_trans I.sz hb),fun x c e z=>?_,fun p J z=>?_⟩
 ·obtain⟨v,q⟩:=I.cell x c e
  exact absurd (Nat.lt_of_lt_of_le q.lt (by rw [z];exact hb)) (Nat.lt_irrefl _)
 ·exact absurd (Nat.lt_of_lt_of_le (Heap.lt_size (I.pin p J).1) (by rw [z];exact hb)) (Nat.lt_irrefl _)
structure Turn (P : Program) (w : World) (K : W.Frag) (tg : Expr) (J : It) (fp : List Addr) (it : Addr) (tn : Nat -> Heap -> Prop) : Prop where
 mem : it ∈ fp
 obj : ∀ i h, tn i h -> ∀ b ∈ fp, ∃ o, h.get? b = some o /\ ∀ v, o.data ≠ .cell v
 keep : ∀ i h h', tn i h -> (∀ b ∈ fp, ∀ o, h.get? b = some o -> h'.get? b = some o) -> tn i h'
 item : ∀ (X : Cx), X.prog = P -> X.w = w -> X.K = K -> X.calm = true -> ∀ (i : Nat) (pins : List (Addr × Obj)) (s : Shared) (σ : St) (H : Hp) (E : Value -> Shared -> Prop), Inv X pins σ H s -> (∀ b ∈ fp, kh X pins H b) -> tn i s.heap -> J.go i H ->
  wpAny (model P w) X.A (pyNext (.ref it)) (fun r s1 => ∃ u, r = some u /\
   wpAny (model P w) X.A (letOwnedTupleGo tg (.ref it) u) (fun _ s2 => ∃ x H', Inv X pins σ H' s2 /\ RelV x u /\ J.yld i H x H' /\ tn (i + 1) s2.heap /\ ∀ b ∈ fp, H' b = none) E s1) E s
 done : ∀ (X : Cx), X.prog = P -> X.w = w -> X.K = K -> X.calm = true -> ∀ (i : Nat) (pins : List (Addr × Obj)) (s : Shared) (σ : St) (H : Hp) (E : Value -> Shared -> Prop), Inv X pins σ H s -> (∀ b ∈ fp, kh X pins H b) -> tn i s.heap -> J.stop i H ->
  wpAny (model P w) X.A (pyNext (.ref it)) (fun r s1 => r = none /\ Inv X pins σ H s1) E s
 self : ∀ (A : Around) (i : Nat) (s : Shared) (Q : Value -> Shared -> Prop) (E : Value -> Shared -> Prop), tn i s.heap -> Q (.ref it) s -> wpAny (model P w) A (pyIter (.ref it)) Q E s
abbrev TI:=St->Hp->(It->Hp->Prop)->Prop
def w9(X:Cx)(pins:List (Addr×Obj))(σ:St)(tg:Expr)(R:It->Hp->Prop)(itv:Value)(s2:Shared):Prop:=
 ∃(it:Addr) (fp:List Addr) (I:Nat->Heap->Prop) (J:It) (H':Hp),itv= .ref it/\Inv X pins σ H' s2/\Turn X.prog X.w X.K tg J fp it I/\I 0 s2.heap/\(∀ b∈fp,kh X pins H' b)/\R J H'
def PI(X:Cx)(tg iter:Expr)(wi:TI):Prop:=
 ∀(pins:List (Addr×Obj)) (s:Shared) (σ:St) (H:Hp) (R:It->Hp->Prop),Inv X pins σ H s->wi σ H R->
  wpAny (model X.prog X.w) X.A (eval iter X.env) (fun v s1=>wpAny (model X.prog X.w) X.A (pyIter v) (w9 X pins σ tg R) X.xe s1) X.xe s
theorem qk {M : Model} {A : Around} {E : Value -> Shared -> Prop} {s : Shared} {tg : Expr} {it : Addr} {u : Value} {o : Obj} {n : String} {vs : Array Value} {Q : Unit -> Shared -> Prop} (ho : s.heap.get? it = some o) (hc : o.cls = .type n) (hd : o.data = .fields vs)
  (hn : ["enumerate", "zip", "dict_itemiterator", "dict_reverseitemiterator", "odict_iterator", "itertools.zip_longest", "itertools.pairwise"].contains n = false) (hQ : Q () s) : wpAny M A (letOwnedTupleGo tg (.ref it) u) Q E s := by
 unfold letOwnedTupleGo
 cases tg <;> first
  | exact wpAny_pure hQ
  | (cases u <;> first
    | exact wpAny_pure hQ
    | (refine wpAny_bind (wpAny_load ho ?_)
       rw [hc, hd]
       show wpAny M A (if (["enumerate", "zip", "dict_itemiterator", "dict_reverseitemiterator", "odict_iterator", "itertools.zip_longest", "itertools.pairwise"].contains n && vs[0]? == some (rawInt _)) = true then _ else _) Q E s
       rw [if_neg (by intro h; rw [hn, Bool.false_and] at h; cases h)]
       exact wpAny_pure hQ))
def nM(K:W.Frag)(a:Addr):It:=
 ⟨fun i H=>∃ xs x,fj K H a xs/\xs[i]? =some x,fun i H x H'=>H'=H/\∀ xs,fj K H a xs->xs[i]? =some x,fun i H=>∃ xs,fj K H a xs/\xs.length<=i⟩
def pB(K:W.Frag)(a:Addr):It:=
 ⟨fun i H=>∃ xs x,gb K H a xs/\xs[i]? =some x,fun i H x H'=>H'=H/\∀ xs,gb K H a xs->xs[i]? =some x,fun i H=>∃ xs,gb K H a xs/\xs.length<=i⟩
def nA(lo:Int)(n:Nat):It:=⟨fun i _=>i < n,fun i H x H'=>H'=H/\x= .int (lo + i),fun i _=>n<=i⟩
theorem BL{P:Program}{w:World}{K:W.Frag}{tg:Expr}(a it:Addr):Turn P w K tg (nM K a) [it] it (fun i h=>h.IsListIter it a i) where
 mem:=by simp
 obj:=fun i h st b hb=>by
  have e:b=it:=by simpa using hb
  subst e
  obtain⟨o,e,c,d⟩:=st
  exact⟨o,e,fun v z=>by rw [d] at z;cases z⟩
 keep:=fun i h h' st k=>st.at fun o e=>k it (by simp) o e
 item:=by
  intro X hP hw hK hc i pins s σ H E I hf st hg
  subst hP hw hK
  obtain⟨xs,x,U,hx⟩:=hg
  obtain⟨aa,rv,p,hz⟩:=I.list U
  obtain⟨u,hu,ru⟩:=rv.get hx
  obtain⟨f0,f1,f2,f3,f4,f5⟩:=hf it (by simp)
  refine wpAny_pyNext_list_item st p.isList (x:=u) (by simpa using hu) fun h' J sb=>?_
  have I1:Inv X pins σ H {s with heap:=h'}:=I.turned (t':=s.toks) (fun b o hb e=>(sb.2 b hb).trans e) f0 f1 f3 f4 f5
  obtain⟨o,e,c,d⟩:=id J
  exact⟨u,rfl,qk (s:={s with heap:=h'}) e c d (by decide) ⟨x,H,I1,ru,⟨rfl,fun ys hy=>by rw [I.list_inj hy U];exact hx⟩,J,fun b hb=>(hf b hb).1⟩⟩
 done:=by
  intro X hP hw hK hc i pins s σ H E I hf st hg
  subst hP hw hK
  obtain⟨xs,U,hx⟩:=hg
  obtain⟨aa,rv,p,hz⟩:=I.list U
  obtain⟨f0,f1,f2,f3,f4,f5⟩:=hf it (by simp)
  have hl:=rv.length
  exact wpAny_pyNext_list_end (I.ok.hd hc) st p.isList (by simp;omega) fun h' eb=>⟨rfl,I.turned (t':=s.toks) (fun b o hb e=>eb b o hb e) f0 f1 f3 f4 f5⟩
 self:=fun _ _ _ _ _ st h=>wpAny_pyIter_listiter st h
theorem Bg{P:Program}{w:World}{K:W.Frag}{tg:Expr}(a it:Addr):Turn P w K tg (pB K a) [it] it (fun i h=>h.IsTupleIter it a i) where
 mem:=by simp
 obj:=fun i h st b hb=>by
  have e:b=it:=by simpa using hb
  subst e
  obtain⟨o,e,c,d⟩:=st
  exact⟨o,e,fun v z=>by rw [d] at z;cases z⟩
 keep:=fun i h h' st k=>st.at fun o e=>k it (by simp) o e
 item:=by
  intro X hP hw hK hc i pins s σ H E I hf st hg
  subst hP hw hK
  obtain⟨xs,x,hq,hx⟩:=hg
  obtain⟨J,rv,p,hz⟩:=I.tuple hq
  obtain⟨u,hu,ru⟩:=rv.get hx
  obtain⟨f0,f1,f2,f3,f4,f5⟩:=hf it (by simp)
  refine wpAny_pyNext_tuple_item st (show s.heap.IsTuple a J.toArray from p) (x:=u) (by simpa using hu) fun h' U sb=>?_
  have I1:Inv X pins σ H {s with heap:=h'}:=I.turned (t':=s.toks) (fun b o hb e=>(sb.2 b hb).trans e) f0 f1 f3 f4 f5
  obtain⟨o,e,c,d⟩:=id U
  exact⟨u,rfl,qk (s:={s with heap:=h'}) e c d (by decide) ⟨x,H,I1,ru,⟨rfl,fun ys hy=>by rw [I.tuple_inj hy hq];exact hx⟩,U,fun b hb=>(hf b hb).1⟩⟩
 done:=by
  intro X hP hw hK hc i pins s σ H E I hf st hg
  subst hP hw hK
  obtain⟨xs,hq,hx⟩:=hg
  obtain⟨J,rv,p,hz⟩:=I.tuple hq
  obtain⟨f0,f1,f2,f3,f4,f5⟩:=hf it (by simp)
  have hl:=rv.length
  exact wpAny_pyNext_tuple_end (I.ok.hd hc) st (show s.heap.IsTuple a J.toArray from p) (by simp;omega) fun h' eb=>⟨rfl,I.turned (t':=s.toks) (fun b o hb e=>eb b o hb e) f0 f1 f3 f4 f5⟩
 self:=fun _ _ _ _ _ st h=>wpAny_pyIter_tupleiter st h
theorem BJ{P:Program}{w:World}{K:PySem.W.Frag}{tg:Expr}(it:Addr)(lo:Int)(n:Nat):Turn P w K tg (nA lo n) [it] it (fun i h=>IsRangeIter h it (lo + (i:Nat) * 1) ((n:Int) - (i:Nat)) 1) where
 mem:=by simp
 obj:=fun i h st b hb=>by
  have e:b=it:=by simpa using hb
  subst e
  exact⟨_,st,fun v z=>by
   have z':Data.fields _=Data.cell v:=z
   cases z'⟩
 keep:=fun i h h' st k=>k it (by simp) _ st
 item:=by
  intro X U hw hK hc i pins s σ H E I hf st hg
  subst U hw hK
  obtain⟨f0,f1,f2,f3,f4,f5⟩:=hf it (by simp)
  have W:=Walks.range (prog:=X.prog) (w:=X.w) (I.ok.hd hc) it lo 1 n
  refine W.item i s _ _ hg st fun v h' tk hv J kk=>?_
  obtain⟨t,rfl⟩:=hv
  have I1:Inv X pins σ H {s with heap:=h',toks:=tk}:=I.turned (fun b o hb e=>kk b o (by simpa using hb) e) f0 f1 f3 f4 f5
  refine⟨_,rfl,qk (s:={s with heap:=h',toks:=tk}) (n:="range_iterator") J rfl rfl (by decide) ⟨.int (lo + i),H,I1,⟨t,?_⟩,⟨rfl,rfl⟩,J,fun b hb=>(hf b hb).1⟩⟩
  rw [Int.mul_one]
 done:=by
  intro X U hw hK hc i pins s σ H E I hf st hg
  subst U hw hK
  obtain⟨f0,f1,f2,f3,f4,f5⟩:=hf it (by simp)
  exact wpAny_pyNext_range_end (I.ok.hd hc) st (by have:n<=i:=hg;omega) fun h' eb=>⟨rfl,I.turned (t':=s.toks) (fun b o hb e=>eb b o hb e) f0 f1 f3 f4 f5⟩
 self:=fun _ _ _ _ _ st h=>wpAny_pyIter_rangeiter st h
section
variable {X : Cx} {tg : Expr}
def uN(K:W.Frag)(tl:TE):TI:=fun σ H R=>tl σ H fun x H1=>∃ a,x= .ref a/\(∃ xs,fj K H1 a xs)/\R (nM K a) H1
def Bv(K:W.Frag)(tl:TE):TI:=fun σ H R=>tl σ H fun x H1=>∃ a,x= .ref a/\(∃ xs,gb K H1 a xs)/\R (pB K a) H1
theorem gK{l:Expr}{tl:TE}(hl:PE X l tl):PI X tg l (uN X.K tl):=by
 intro pins s σ H R I h
 refine fK (hl pins s σ H _ I h) fun v s1 ⟨x,H1,J,U,q1⟩=>?_
 obtain⟨a,e,⟨xs,hq⟩,q⟩:=q1
 subst e
 cases U
 obtain⟨aa,rv,p,hz⟩:=J.list hq
 refine wpAny_pyIter_list p.isList ?_
 refine⟨s1.heap.objs.size,[s1.heap.objs.size],_,_,H1,rfl,J.kept (t':=s1.toks) fun b o e=>Heap.get?_push_of_some _ e,BL a _,⟨_,Heap.get?_push_size _ rfl,rfl,rfl⟩,fun b hb=>?_,q⟩
 have e:b=s1.heap.objs.size:=by simpa using hb
 subst e
 exact J.fpOk (Nat.le_refl _) (J.hok.fresh (Nat.le_refl _))
theorem yt{l:Expr}{tl:TE}(hl:PE X l tl):PI X tg l (Bv X.K tl):=by
 intro pins s σ H R I h
 refine fK (hl pins s σ H _ I h) fun v s1 ⟨x,H1,J,r1,q1⟩=>?_
 obtain⟨a,e,⟨xs,hq⟩,q⟩:=q1
 subst e
 cases r1
 obtain⟨U,rv,p,hz⟩:=J.tuple hq
 refine wpAny_pyIter_tuple (show s1.heap.IsTuple a U.toArray from p) ?_
 refine⟨s1.heap.objs.size,[s1.heap.objs.size],_,_,H1,rfl,J.kept (t':=s1.toks) fun b o e=>Heap.get?_push_of_some _ e,Bg a _,⟨_,Heap.get?_push_size _ rfl,rfl,rfl⟩,fun b hb=>?_,q⟩
 have e:b=s1.heap.objs.size:=by simpa using hb
 subst e
 exact J.fpOk (Nat.le_refl _) (J.hok.fresh (Nat.le_refl _))
theorem Fu{pins:List (Addr×Obj)}{σ:St}{H:Hp}{s:Shared}{R:It->Hp->Prop}{E:Value->Shared->Prop}{lo hi:Int}{t u v:Tok}{tk:Nat}(I:Inv X pins σ H s)(h1: -(2 ^ 62)<=lo)(h2:lo < 2 ^ 62)(h3: -(2 ^ 62)<=hi)(h4:hi < 2 ^ 62)
  (q:R (nA lo (hi - lo).toNat) H):wpAny (model X.prog X.w) X.A (pyIter (.ref s.heap.objs.size)) (w9 X pins σ tg R) E {s with heap:=s.heap.push {cls:= .type "range",data:= .fields #[.int lo t,.int hi u,.int 1 v]},toks:=tk}:=by
 refine wpAny_pyIter_range (IsRange.new ..) (small_one h1 h2 h3 h4) ?_
 have J:Inv X pins σ H {s with heap:=s.heap.push {cls:= .type "range",data:= .fields #[.int lo t,.int hi u,.int 1 v]},toks:=tk}:=I.kept fun b o e=>Heap.get?_push_of_some _ e
 refine⟨(s.heap.push {cls:= .type "range",data:= .fields #[.int lo t,.int hi u,.int 1 v]}).objs.size,[(s.heap.push {cls:= .type "range",data:= .fields #[.int lo t,.int hi u,.int 1 v]}).objs.size],_,_,H,rfl,
  J.kept (t':=tk) fun b o e=>Heap.get?_push_of_some _ e,BJ _ lo (hi - lo).toNat,?_,fun b hb=>?_,q⟩
 ·have U:lo + ((0:Nat):Int) * 1=lo:=by simp
  have e2:(((hi - lo).toNat:Nat):Int) - ((0:Nat):Int)=Builtin.Range.rangeSize lo hi 1:=by rw [rangeSize_one];split<;>omega
  show IsRangeIter _ _ (lo + ((0:Nat):Int) * 1) ((((hi - lo).toNat:Nat):Int) - ((0:Nat):Int)) 1
  rw [U,e2]
  exact Heap.get?_push_size _ rfl
 ·have e:b=(s.heap.push {cls:= .type "range",data:= .fields #[.int lo t,.int hi u,.int 1 v]}).objs.size:=by simpa using hb
  subst e
  exact J.fpOk (Nat.le_refl _) (J.hok.fresh (Nat.le_refl _))
def Ie(ta:TA):TI:=fun σ H R=>ta σ H fun vs H1=>∃ j:Int,vs=[.int j]/\ -(2 ^ 62)<=j/\j < 2 ^ 62/\R (nA 0 j.toNat) H1
theorem lp{a:Expr}{ta:TA}{p pos:Pos}(hg:Gl X "range")(hm:X.mg "range"=none)(ha:PA X [a] ta)(hs:starEach [a] X.env=[(false,eval a X.env)]:=by rfl):PI X tg (.Call (.Name "range" p) [a] [] pos) (Ie ta):=by
 intro pins s σ H R I h
 refine Call_ (oB I hg hm boot_range (PyProof.Rows.callWith_type1 (fK (ha pos pins s σ H _ I h) fun us s1 ⟨vs,H1,U,r1,J⟩=>?_) hs rfl))
 obtain⟨j,e,J,q2,q⟩:=J
 subst e
 cases r1 with
 | cons r rr=>
  cases rr
  obtain⟨t,rfl⟩:=r
  exact call_range_1 (Fu U (by omega) (by omega) J q2 (by simpa using q))
def BY(wi:TI)(g:TG)(tb:TS):TS:=fun D σ H=>wi σ H fun J H1=>∃ W:Nat->Nat->St->Hp->Prop,(∃ m,W 0 m σ H1)/\∀ i m σ H,W i m σ H->
 (J.stop i H/\D.nx σ H)\/(J.go i H/\∃ N:St->Hp->Prop,(∀ I H',N I H'->∃ m',m' < m/\W (i + 1) m' I H')/\∀ x H',J.yld i H x H'->g x σ H' fun U H2=>tb {D with nx:=N,ct:=N,bk:=D.nx} U H2)
def qb(fp:List Addr)(h:Heap):List (Addr×Obj):=fp.filterMap fun b=>(h.get? b).map fun o=>(b,o)
theorem tf{fp:List Addr}{h:Heap}{b:Addr}{o:Obj}(hb:b∈fp)(e:h.get? b=some o):(b,o)∈qb fp h:=List.mem_filterMap.mpr ⟨b,hb,by rw [e];rfl⟩
theorem AI{fp:List Addr}{h:Heap}{p:Addr×Obj}(hp:p∈qb fp h):p.1∈fp/\h.get? p.1=some p.2:=by
 obtain⟨b,hb,e⟩:=List.mem_filterMap.mp hp
 cases q:h.get? b with
 | none=>rw [q] at e;cases e
 | some o=>
  rw [q] at e
  have I:(b,o)=p:=Option.some.inj e
  subst I
  exact⟨hb,q⟩
theorem Inv.pinned {pins:List (Addr×Obj)}{σ:St}{H:Hp}{s:Shared}{fp:List Addr}(I:Inv X pins σ H s)(hf:∀ b∈fp,kh X pins H b)(ho:∀ b∈fp,∃ o,s.heap.get? b=some o/\∀ v,o.data≠ .cell v):Inv X (pins++qb fp s.heap) σ H s:=
 I.pins_of fun p U=>(List.mem_append.mp U).elim (fun z=>I.pin p (List.mem_append_right _ z)) fun z=>by
  obtain⟨hb,e⟩:=AI z
  obtain⟨f0,f1,f2,_⟩:=hf p.1 hb
  obtain⟨o,J,d⟩:=ho p.1 hb
  rw [e] at J;cases J
  exact⟨e,f0,f1,f2,d⟩
theorem Inv.unpinned {pins pl:List (Addr×Obj)}{σ:St}{H:Hp}{s:Shared}(I:Inv X (pins++pl) σ H s):Inv X pins σ H s:=I.pins_of fun p J=>I.pin p (List.mem_append_right _ (List.mem_append_left _ J))
theorem gO{iter:Expr}{body:List Stmt}{wi:TI}{g:TG}{tb:TS}{pos:Pos}(hp:PassesOwn (model X.prog X.w) X.A X.env X.xe)(hc:X.calm=true)(hi:PI X tg iter wi)(hg:PG X tg g)(hb:fM X body tb)
  (hs:∀ x,foldedSetIterable iter X.env x=pure x:=by intro _;rfl):PS X (.For tg iter body [] pos) (BY wi g tb):=by
 intro pins s σ H D I h
 refine wpAny_For (fK (hi pins s σ H _ I h) fun v s1 h1=>fK h1 fun aq s2 h2=>?_) hs
 obtain⟨it,fp,tn,J,H2,e,I2,T,ai,f2,W,⟨m0,w0⟩,turn⟩:=h2
 subst e
 have aa:∀{H':Hp},(∀ b∈fp,H' b=none)->∀ b∈fp,kh X pins H' b:=fun hn b hb=>⟨hn b hb,(f2 b hb).2⟩
 refine codeAny_forLoop_any (fun n s'=>∃ i ab H',Inv X pins ab H' s'/\tn i s'.heap/\(∀ b∈fp,H' b=none)/\W i n ab H') ?_ m0 ⟨0,σ,H2,I2,ai,fun b hb=>(f2 b hb).1,w0⟩
 rintro n s3 ⟨i,ae,H3,I3,ag,ah,w3⟩
 rcases turn i n ae H3 w3 with ⟨stop,qn⟩ | ⟨go,N,hN,step⟩
 ·refine wpAny_passesOwn hp (fK (T.done X rfl rfl rfl hc i pins s3 ae H3 X.xe I3 (aa ah) ag stop) fun r s4 ⟨hr,I4⟩=>?_)
  subst hr
  exact wpAny_execs_nil ⟨ae,H3,I4,qn⟩
 ·refine wpAny_passesOwn hp (fK (T.item X rfl rfl rfl hc i pins s3 ae H3 X.xe I3 (aa ah) ag go) fun r s4 ⟨u,hr,h4⟩=>?_)
  subst hr
  refine wpAny_passesOwn hp (fK h4 fun _ s5 ⟨x,H5,I5,r5,y5,af,aj⟩=>?_)
  have ak:=I5.pinned (aa aj) (T.obj _ _ af)
  refine wpAny_passesOwn hp (fK (hg _ s5 ae H5 x u _ ak r5 (step x H5 y5)) fun _ s6 ⟨ao,H6,I6,q6⟩=>?_)
  refine wpAny_passesOwn hp (fK (hb _ s6 ao H6 _ I6 q6) fun f s7 q7=>?_)
  have again:∀{U:St} {H7:Hp},Inv X (pins++qb fp s5.heap) U H7 s7->N U H7->∃ m,m < n/\∃ i ab H',Inv X pins ab H' s7/\tn i s7.heap/\(∀ b∈fp,H' b=none)/\W i m ab H':=fun{U H7} I7 n7=>by
   obtain⟨m',hm,w7⟩:=hN U H7 n7
   refine⟨m',hm,i + 1,U,H7,I7.unpinned,T.keep _ _ _ af fun b hb o e=>(I7.pin (b,o) (List.mem_append_right _ (List.mem_append_right _ (tf hb e)))).1,fun b hb=>?_,w7⟩
   obtain⟨o,e,d⟩:=T.obj _ _ af b hb
   exact(I7.pin (b,o) (List.mem_append_right _ (List.mem_append_right _ (tf hb e)))).2.1
  cases f with
  | next=>obtain⟨U,H7,I7,n7⟩:=q7;exact again I7 n7
  | cont=>obtain⟨U,H7,I7,n7⟩:=q7;exact again I7 n7
  | brk=>obtain⟨U,H7,I7,q7⟩:=q7;exact⟨U,H7,I7.unpinned,q7⟩
  | ret v=>obtain⟨x7,U,H7,I7,r7,q7⟩:=q7;exact⟨x7,U,H7,I7.unpinned,r7,q7⟩
end
theorem jl{K:PySem.W.Frag}{a:Addr}{xs:List V}{g:TG}{tb:TS}{D:Ends}{σ:St}{H:Hp}(Pv:Nat->St->Hp->Prop)(h0:Pv 0 σ H)(hl:∀ i σ H,i<=xs.length->Pv i σ H->fj K H a xs)
  (hs:∀ i x σ H,xs[i]? =some x->Pv i σ H->g x σ H fun σ2 H2=>tb {D with nx:=Pv (i + 1),ct:=Pv (i + 1),bk:=D.nx} σ2 H2)(hd:∀ σ H,Pv xs.length σ H->D.nx σ H):
  ∃ W:Nat->Nat->St->Hp->Prop,(∃ m,W 0 m σ H)/\∀ i m σ H,W i m σ H->
   ((nM K a).stop i H/\D.nx σ H)\/((nM K a).go i H/\∃ N:St->Hp->Prop,(∀ σ' H',N σ' H'->∃ m',m' < m/\W (i + 1) m' σ' H')/\∀ x H',(nM K a).yld i H x H'->g x σ H' fun σ2 H2=>tb {D with nx:=N,ct:=N,bk:=D.nx} σ2 H2):=by
 refine⟨fun i m σ H=>m=xs.length - i/\i<=xs.length/\Pv i σ H,⟨xs.length,by simp,Nat.zero_le _,h0⟩,?_⟩
 rintro i m σ H ⟨rfl,hi,p⟩
 have q:=hl i σ H hi p
 by_cases I:i < xs.length
 ·refine .inr ⟨⟨xs,xs[i],q,by simp [I]⟩,Pv (i + 1),fun σ' H' J=>⟨xs.length - (i + 1),by omega,rfl,I,J⟩,fun x H' y=>?_⟩
  obtain⟨e,y⟩:=y
  subst e
  exact hs i x σ _ (y xs q) p
 ·have e:i=xs.length:=by omega
  subst e
  exact .inl ⟨⟨xs,q,Nat.le_refl _⟩,hd σ H p⟩
theorem xT{K:PySem.W.Frag}{a:Addr}{xs:List V}{g:TG}{tb:TS}{D:Ends}{σ:St}{H:Hp}(Pv:Nat->St->Hp->Prop)(h0:Pv 0 σ H)(hl:∀ i σ H,i<=xs.length->Pv i σ H->gb K H a xs)
  (hs:∀ i x σ H,xs[i]? =some x->Pv i σ H->g x σ H fun σ2 H2=>tb {D with nx:=Pv (i + 1),ct:=Pv (i + 1),bk:=D.nx} σ2 H2)(hd:∀ σ H,Pv xs.length σ H->D.nx σ H):
  ∃ W:Nat->Nat->St->Hp->Prop,(∃ m,W 0 m σ H)/\∀ i m σ H,W i m σ H->
   ((pB K a).stop i H/\D.nx σ H)\/((pB K a).go i H/\∃ N:St->Hp->Prop,(∀ σ' H',N σ' H'->∃ m',m' < m/\W (i + 1) m' σ' H')/\∀ x H',(pB K a).yld i H x H'->g x σ H' fun σ2 H2=>tb {D with nx:=N,ct:=N,bk:=D.nx} σ2 H2):=by
 refine⟨fun i m σ H=>m=xs.length - i/\i<=xs.length/\Pv i σ H,⟨xs.length,by simp,Nat.zero_le _,h0⟩,?_⟩
 rintro i m σ H ⟨rfl,hi,p⟩
 have q:=hl i σ H hi p
 by_cases I:i < xs.length
 ·refine .inr ⟨⟨xs,xs[i],q,by simp [I]⟩,Pv (i + 1),fun σ' H' J=>⟨xs.length - (i + 1),by omega,rfl,I,J⟩,fun x H' y=>?_⟩
  obtain⟨e,y⟩:=y
  subst e
  exact hs i x σ _ (y xs q) p
 ·have e:i=xs.length:=by omega
  subst e
  exact .inl ⟨⟨xs,q,Nat.le_refl _⟩,hd σ H p⟩
theorem sM{lo:Int}{n:Nat}{g:TG}{tb:TS}{D:Ends}{σ:St}{H:Hp}(Pv:Nat->St->Hp->Prop)(h0:Pv 0 σ H)
  (hs:∀ i σ H,i < n->Pv i σ H->g (.int (lo + i)) σ H fun σ2 H2=>tb {D with nx:=Pv (i + 1),ct:=Pv (i + 1),bk:=D.nx} σ2 H2)(hd:∀ σ H,Pv n σ H->D.nx σ H):
  ∃ W:Nat->Nat->St->Hp->Prop,(∃ m,W 0 m σ H)/\∀ i m σ H,W i m σ H->
   ((nA lo n).stop i H/\D.nx σ H)\/((nA lo n).go i H/\∃ N:St->Hp->Prop,(∀ σ' H',N σ' H'->∃ m',m' < m/\W (i + 1) m' σ' H')/\∀ x H',(nA lo n).yld i H x H'->g x σ H' fun σ2 H2=>tb {D with nx:=N,ct:=N,bk:=D.nx} σ2 H2):=by
 refine⟨fun i m σ H=>m=n - i/\i<=n/\Pv i σ H,⟨n,by simp,Nat.zero_le _,h0⟩,?_⟩
 rintro i m σ H ⟨rfl,hi,p⟩
 by_cases I:i < n
 ·refine .inr ⟨I,Pv (i + 1),fun σ' H' J=>⟨n - (i + 1),by omega,rfl,I,J⟩,fun x H' y=>?_⟩
  obtain⟨e,y⟩:=y
  subst e y
  exact hs i σ _ I p
 ·have e:i=n:=by omega
  subst e
  exact .inl ⟨Nat.le_refl _,hd σ H p⟩
theorem rH{c:TT}{tb:TS}{D:Ends}{σ:St}{H:Hp}(Pv:St->Hp->Prop)(μ:St->Hp->Nat)(h0:Pv σ H)
  (hs:∀ σ H,Pv σ H->c σ H fun b H1=>if b=true then tb {D with nx:=fun σ' H'=>Pv σ' H'/\μ σ' H' < μ σ H,ct:=fun σ' H'=>Pv σ' H'/\μ σ' H' < μ σ H,bk:=D.nx} σ H1 else D.nx σ H1)
  (mono:∀ σ H Q Q',(∀ b H1,Q b H1->Q' b H1)->c σ H Q->c σ H Q'):yc c tb D σ H:=by
 refine⟨fun m σ H=>m=μ σ H/\Pv σ H,⟨_,rfl,h0⟩,?_⟩
 rintro m σ H ⟨rfl,p⟩
 refine mono σ H _ _ (fun b H1 q=>?_) (hs σ H p)
 cases b with
 | true=>exact⟨_,fun σ' H' ⟨I,l⟩=>⟨_,l,rfl,I⟩,q⟩
 | false=>exact q
abbrev R2:=V->V->Hp->VK->Prop
def g7(X:Cx)(f:Value->Value->Sem Value)(r:R2):Prop:=
 ∀(pins:List (Addr×Obj)) (s:Shared) (σ:St) (H:Hp) (x y:V) (v u:Value) (Q:VK),Inv X pins σ H s->RelV x v->RelV y u->r x y H Q->
  wpAny (model X.prog X.w) X.A (f v u) (EP X pins σ Q) X.xe s
def uX(X:Cx)(f:Value->Sem Value)(r:V->Hp->VK->Prop):Prop:=
 ∀(pins:List (Addr×Obj)) (s:Shared) (σ:St) (H:Hp) (x:V) (v:Value) (Q:VK),Inv X pins σ H s->RelV x v->r x H Q->
  wpAny (model X.prog X.w) X.A (f v) (EP X pins σ Q) X.xe s
def jc(X:Cx)(f:Value)(r:List V->Hp->VK->Prop):Prop:=
 ∀(pins:List (Addr×Obj)) (s:Shared) (σ:St) (H:Hp) (xs:List V) (us:List Value) (Q:VK),Inv X pins σ H s->Vals xs us->r xs H Q->
  wpAny (model X.prog X.w) X.A (call f us) (EP X pins σ Q) X.xe s
def oK(r:R2)(ta tb:TE):TE:=fun σ H Q=>ta σ H fun x H1=>tb σ H1 fun y H2=>r x y H2 Q
def Ei(r:V->Hp->VK->Prop)(ta:TE):TE:=fun σ H Q=>ta σ H fun x H1=>r x H1 Q
def rI(C:Int->Int->Prop)(g:Int->Int->V):R2:=fun x y H Q=>∃ i j,x= .int i/\y= .int j/\C i j/\Q (g i j) H
def nz(g:Int->Int->V):R2:=fun x y H Q=>∃ i j,x= .int i/\y= .int j/\Q (g i j) H
def rU(g:Int->V):V->Hp->VK->Prop:=fun x H Q=>∃ i,x= .int i/\Q (g i) H
section
variable {X : Cx} {a b c : Expr} {ta tb tc : TE} {pos : Pos}
theorem vZ(ha:PE X a ta)(hb:PE X b tb){pins:List (Addr×Obj)}{s:Shared}{σ:St}{H:Hp}{R:V->V->Hp->Prop}(I:Inv X pins σ H s)
  (h:ta σ H fun x H1=>tb σ H1 fun y H2=>R x y H2){Q:Value->Shared->Prop}{f:Value->Value->Sem Value}
  (hf:∀ v u s2 x y H2,Inv X pins σ H2 s2->RelV x v->RelV y u->R x y H2->wpAny (model X.prog X.w) X.A (f v u) Q X.xe s2):
  wpAny (model X.prog X.w) X.A (eval a X.env) (fun v s₁=>wpAny (model X.prog X.w) X.A (eval b X.env) (fun u s₂=>wpAny (model X.prog X.w) X.A (f v u) Q X.xe s₂) X.xe s₁) X.xe s:=by
 refine fK (ha pins s σ H _ I h) fun v s1 ⟨x,H1,J,U,q1⟩=>?_
 refine fK (hb pins s1 σ H1 _ J q1) fun u s2 ⟨y,H2,I2,r2,q2⟩=>?_
 exact hf v u s2 x y H2 I2 U r2 q2
theorem fF{op:Operator}{r:R2}(ho:g7 X (binaryOp op) r)(ha:PE X a ta)(hb:PE X b tb):PE X (.BinOp a op b pos) (oK r ta tb):=by
 intro pins s σ H Q I h
 exact wpAny_BinOp (vZ ha hb I h fun v u s2 x y H2 J U ry q=>ho pins s2 σ H2 x y v u Q J U ry q)
theorem mr{op:UnaryOp}{r:V->Hp->VK->Prop}(ho:uX X (unaryOp op) r)(ha:PE X a ta):PE X (.UnaryOp op a pos) (Ei r ta):=by
 intro pins s σ H Q I h
 exact UnaryOp_ (fK (ha pins s σ H _ I h) fun v s1 ⟨x,H1,J,U,q1⟩=>ho pins s1 σ H1 x v Q J U q1)
theorem uv{f:Value->Value->Sem Value}{C:Int->Int->Prop}{g:Int->Int->Int}
  (rule:∀(i j:Int) (t u:Tok) (s:Shared) (Q:Value->Shared->Prop) (E:Value->Shared->Prop),C i j->Q (.int (g i j) s.toks) {s with toks:=s.toks + 1}->wpAny (model X.prog X.w) X.A (f (.int i t) (.int j u)) Q E s):
  g7 X f (rI C fun i j=> .int (g i j)):=by
 intro pins s σ H x y v u Q I J U h
 obtain⟨i,j,rfl,rfl,hc,q⟩:=h
 obtain⟨t,rfl⟩:=J
 obtain⟨t',rfl⟩:=U
 exact rule i j t t' s _ _ hc ⟨.int (g i j),H,I.tok _,⟨_,rfl⟩,q⟩
theorem Ax{f:Value->Value->Sem Value}{g:Int->Int->Int}
  (rule:∀(i j:Int) (t u:Tok) (s:Shared) (Q:Value->Shared->Prop) (E:Value->Shared->Prop),Q (.int (g i j) s.toks) {s with toks:=s.toks + 1}->wpAny (model X.prog X.w) X.A (f (.int i t) (.int j u)) Q E s):
  g7 X f (nz fun i j=> .int (g i j)):=by
 intro pins s σ H x y v u Q I J U h
 obtain⟨i,j,rfl,rfl,q⟩:=h
 obtain⟨t,rfl⟩:=J
 obtain⟨t',rfl⟩:=U
 exact rule i j t t' s _ _ ⟨.int (g i j),H,I.tok _,⟨_,rfl⟩,q⟩
theorem ur{f:Value->Value->Sem Value}{g:Int->Int->Bool}
  (rule:∀(i j:Int) (t u:Tok) (s:Shared) (Q:Value->Shared->Prop) (E:Value->Shared->Prop),Q (.bool (g i j)) s->wpAny (model X.prog X.w) X.A (f (.int i t) (.int j u)) Q E s):
  g7 X f (nz fun i j=> .bl (g i j)):=by
 intro pins s σ H x y v u Q I J U h
 obtain⟨i,j,rfl,rfl,q⟩:=h
 obtain⟨t,rfl⟩:=J
 obtain⟨t',rfl⟩:=U
 exact rule i j t t' s _ _ ⟨.bl (g i j),H,I,rfl,q⟩
def E8(i j:Int):Prop:=0 < j/\j < 1073741824
def vB(i j:Int):Prop:=(-(2 ^ 64) < i/\i < 2 ^ 64)\/(-(2 ^ 64) < j/\j < 2 ^ 64)
theorem vB.ok {i j:Int}(h:vB i j):IntMulOk i j:=by
 rcases h with ⟨h1,h2⟩ | ⟨h1,h2⟩
 ·exact .of_left (intBits_le_64 h1 h2)
 ·exact .of_right (intBits_le_64 h1 h2)
theorem gy:g7 X (binaryOp .Add) (nz fun i j=> .int (i + j)):=Ax fun _ _ _ _ _ _ _ q=>add_int q
theorem ly:g7 X (binaryOp .Sub) (nz fun i j=> .int (i - j)):=Ax fun _ _ _ _ _ _ _ q=>sub_int q
theorem kH:g7 X (binaryOp .Mult) (rI vB fun i j=> .int (i * j)):=uv fun _ _ _ _ _ _ _ I q=>mul_int q I.ok
theorem iU:g7 X (binaryOp .FloorDiv) (rI E8 fun i j=> .int (i / j)):=uv fun i j _ _ _ _ _ I q=>by
 have h1:(0:Int) < j:=I.1
 have h2:j < 1073741824:=I.2
 exact floordiv_int (by omega) (by rw [Int.fdiv_eq_ediv_of_nonneg i (by omega)];exact q) (.inl (PyProof.noPylong_small (by omega)))
theorem gF:g7 X (binaryOp .Mod) (rI (fun _ j=>0 < j) fun i j=> .int (i % j)):=uv fun i j _ _ _ _ _ I q=>by
 have h1:(0:Int) < j:=I
 exact mod_int' (by omega) (by rw [Int.fmod_eq_emod_of_nonneg i (by omega)];exact q)
theorem B6{f:Value->Sem Value}{g:Int->Int}
  (rule:∀(i:Int) (t:Tok) (s:Shared) (Q:Value->Shared->Prop) (E:Value->Shared->Prop),Q (.int (g i) s.toks) {s with toks:=s.toks + 1}->wpAny (model X.prog X.w) X.A (f (.int i t)) Q E s):
  uX X f (rU fun i=> .int (g i)):=by
 intro pins s σ H x v Q I J h
 obtain⟨i,rfl,q⟩:=h
 obtain⟨t,rfl⟩:=J
 exact rule i t s _ _ ⟨.int (g i),H,I.tok _,⟨_,rfl⟩,q⟩
theorem lV:uX X (unaryOp .USub) (rU fun i=> .int (-i)):=B6 fun _ _ _ _ _ q=>neg_int q
end
def yD:V->V->Bool
 | .non,.non=>true | .non,.int _=>true | .int _,.non=>true | .non,.bl _=>true | .bl _,.non=>true | .non,.str _=>true | .str _,.non=>true
 | .int _,.int _=>true | .bl _,.bl _=>true | .str _,.str _=>true | .byt _,.byt _=>true
 | .int _,.str _=>true | .str _,.int _=>true | .bl _,.str _=>true | .str _,.bl _=>true
 | _,_=>false
def EM:R2:=fun x y H Q=>yD x y=true/\Q (.bl (decide (x=y))) H
def Gv:R2:=fun x y H Q=>yD x y=true/\Q (.bl (!decide (x=y))) H
theorem vE{i j:Int}:decide (V.int i=V.int j)=(i == j):=by
 rw [Bool.eq_iff_iff]
 simp
theorem z5{i j:Bool}:decide (V.bl i=V.bl j)=(i == j):=by
 rw [Bool.eq_iff_iff]
 simp
theorem za{i j:Str}:decide (V.str i=V.str j)=(i == j):=by
 rw [Bool.eq_iff_iff]
 simp
theorem yT{i j:Array UInt8}:decide (V.byt i=V.byt j)=(i.toList == j.toList):=by
 rw [Bool.eq_iff_iff]
 cases i
 cases j
 simp
section
variable {X : Cx} {a b c : Expr} {ta tb tc : TE} {pos : Pos}
theorem gS{pins:List (Addr×Obj)}{σ:St}{H:Hp}{s:Shared}{Q:VK}{k k':Bool}(I:Inv X pins σ H s)(q:Q (.bl k) H)(e:k=k'):EP X pins σ Q (.bool k') s:=by
 subst e
 exact⟨.bl k,H,I,rfl,q⟩
theorem je:g7 X (compareOp .Eq) EM:=by
 intro pins s σ H x y v u Q I U J h
 obtain⟨hs,q⟩:=h
 cases x with
 | non=>
  cases U
  cases y with
  | non=>cases J;exact PySem.EqNone.eq_none_none (gS I q (by simp))
  | bl j=>cases J;exact PySem.EqNone.eq_none_bool (gS I q (by simp))
  | int j=>obtain⟨t',rfl⟩:=J;exact PySem.EqNone.eq_none_int (gS I q (by simp))
  | str j=>obtain⟨t',rfl⟩:=J;exact PySem.EqNone.eq_none_str (gS I q (by simp))
  | _=>exact absurd (show false=true from hs) Bool.false_ne_true
 | bl i=>
  cases U
  cases y with
  | non=>cases J;exact PySem.EqNone.eq_bool_none (gS I q (by simp))
  | bl j=>cases J;exact eq_bool (gS I q z5)
  | str j=>obtain⟨t',rfl⟩:=J;exact PySem.EqMixed.eq_bool_str (gS I q (by simp))
  | _=>exact absurd (show false=true from hs) Bool.false_ne_true
 | int i=>
  obtain⟨t,rfl⟩:=U
  cases y with
  | non=>cases J;exact PySem.EqNone.eq_int_none (gS I q (by simp))
  | int j=>obtain⟨t',rfl⟩:=J;exact eq_int (gS I q vE)
  | str j=>obtain⟨t',rfl⟩:=J;exact PySem.EqMixed.eq_int_str (gS I q (by simp))
  | _=>exact absurd (show false=true from hs) Bool.false_ne_true
 | str i=>
  obtain⟨t,rfl⟩:=U
  cases y with
  | non=>cases J;exact PySem.EqNone.eq_str_none (gS I q (by simp))
  | bl j=>cases J;exact PySem.EqMixed.eq_str_bool (gS I q (by simp))
  | int j=>obtain⟨t',rfl⟩:=J;exact PySem.EqMixed.eq_str_int (gS I q (by simp))
  | str j=>obtain⟨t',rfl⟩:=J;exact eq_str (gS I q za)
  | _=>exact absurd (show false=true from hs) Bool.false_ne_true
 | byt i=>
  obtain⟨t,rfl⟩:=U
  cases y with
  | byt j=>obtain⟨t',rfl⟩:=J;exact W.eq_bytes (gS I q yT)
  | _=>exact absurd (show false=true from hs) Bool.false_ne_true
 | _=>cases y<;>exact absurd (show false=true from hs) Bool.false_ne_true
theorem qL:g7 X (compareOp .NotEq) Gv:=by
 intro pins s σ H x y v u Q I U J h
 obtain⟨hs,q⟩:=h
 cases x with
 | non=>
  cases U
  cases y with
  | non=>cases J;exact PySem.EqNone.ne_none_none (gS I q (by simp))
  | bl j=>cases J;exact PySem.EqNone.ne_none_bool (gS I q (by simp))
  | int j=>obtain⟨t',rfl⟩:=J;exact PySem.EqNone.ne_none_int (gS I q (by simp))
  | str j=>obtain⟨t',rfl⟩:=J;exact PySem.EqNone.ne_none_str (gS I q (by simp))
  | _=>exact absurd (show false=true from hs) Bool.false_ne_true
 | bl i=>
  cases U
  cases y with
  | non=>cases J;exact PySem.EqNone.ne_bool_none (gS I q (by simp))
  | bl j=>cases J;exact ne_bool (gS I q (congrArg not z5))
  | str j=>obtain⟨t',rfl⟩:=J;exact PySem.EqMixed.ne_bool_str (gS I q (by simp))
  | _=>exact absurd (show false=true from hs) Bool.false_ne_true
 | int i=>
  obtain⟨t,rfl⟩:=U
  cases y with
  | non=>cases J;exact PySem.EqNone.ne_int_none (gS I q (by simp))
  | int j=>obtain⟨t',rfl⟩:=J;exact ne_int (gS I q (congrArg not vE))
  | str j=>obtain⟨t',rfl⟩:=J;exact PySem.EqMixed.ne_int_str (gS I q (by simp))
  | _=>exact absurd (show false=true from hs) Bool.false_ne_true
 | str i=>
  obtain⟨t,rfl⟩:=U
  cases y with
  | non=>cases J;exact PySem.EqNone.ne_str_none (gS I q (by simp))
  | bl j=>cases J;exact PySem.EqMixed.ne_str_bool (gS I q (by simp))
  | int j=>obtain⟨t',rfl⟩:=J;exact PySem.EqMixed.ne_str_int (gS I q (by simp))
  | str j=>obtain⟨t',rfl⟩:=J;exact ne_str (gS I q (congrArg not za))
  | _=>exact absurd (show false=true from hs) Bool.false_ne_true
 | byt i=>
  obtain⟨t,rfl⟩:=U
  cases y with
  | byt j=>obtain⟨t',rfl⟩:=J;exact W.ne_bytes (gS I q (congrArg not yT))
  | _=>exact absurd (show false=true from hs) Bool.false_ne_true
 | _=>cases y<;>exact absurd (show false=true from hs) Bool.false_ne_true
theorem lB:g7 X (compareOp .Lt) (nz fun i j=> .bl (decide (i < j))):=ur fun _ _ _ _ _ _ _ q=>lt_int q
theorem ju:g7 X (compareOp .Gt) (nz fun i j=> .bl (decide (j < i))):=ur fun _ _ _ _ _ _ _ q=>gt_int q
theorem sS:g7 X (compareOp .GtE) (nz fun i j=> .bl (decide (j<=i))):=ur fun _ _ _ _ _ _ _ q=>ge_int q
theorem AD:g7 X (compareOp .In) (fun x y H Q=>∃ i j,x= .str i/\y= .str j/\Q (.bl (!(Builtin.Str.occurrences j i 0 j.length 1).isEmpty)) H):=by
 intro pins s σ H x y v u Q I J U h
 obtain⟨i,j,rfl,rfl,q⟩:=h
 obtain⟨t,rfl⟩:=J
 obtain⟨t',rfl⟩:=U
 exact in_str (gS I q rfl)
theorem f9(b:Expr){op:CmpOp}(h:op≠ .In:=by decide)(h2:op≠ .NotIn:=by decide):behindInMarks op b=false:=by
 have I:(op == CmpOp.In)=false:=by cases op<;>first | rfl | exact absurd rfl h
 have J:(op == CmpOp.NotIn)=false:=by cases op<;>first | rfl | exact absurd rfl h2
 cases b<;>simp [behindInMarks,I,J]
theorem j1{op:CmpOp}{r:R2}(ho:g7 X (compareOp op) r)(ha:PE X a ta)(hb:PE X b tb)(hm:behindInMarks op b=false):PE X (.Compare a [op] [b] pos) (oK r ta tb):=by
 intro pins s σ H Q I h
 exact wpAny_Compare1 (vZ ha hb I h fun v u s2 x y H2 J U ry q=>ho pins s2 σ H2 x y v u Q J U ry q) hm
def Eh(t:TE):TT:=fun σ H Q=>t σ H fun x H'=>∃ k,x= .bl k/\Q k H'
theorem gi{op:CmpOp}{r:R2}(ho:g7 X (compareOp op) r)(ha:PE X a ta)(hb:PE X b tb)(hm:behindInMarks op b=false):PT X (.Compare a [op] [b] pos) (Eh (oK r ta tb)):=by
 intro pins s σ H Q I h
 refine wpAny_isTrue_Compare1 (fK (ha pins s σ H _ I h) fun v s1 ⟨x,H1,J,U,q1⟩=>fK (hb pins s1 σ H1 _ J q1) fun u s2 ⟨y,H2,I2,r2,q2⟩=>
  fK (ho pins s2 σ H2 x y v u _ I2 U r2 q2) fun c s3 ⟨z,H3,I3,r3,k,e,q3⟩=>?_) hm
 subst e
 cases r3
 exact wpAny_truthy_bool ⟨H3,I3,q3⟩
def EH(r r':R2)(ta tb tc:TE):TE:=fun σ H Q=>ta σ H fun x H1=>tb σ H1 fun y H2=>r x y H2 fun z I=>∃ k,z= .bl k/\
 (if k=true then tc σ I fun J U=>r' y J U Q else Q (.bl false) I)
theorem HI{op op':CmpOp}{r r':R2}(ho:g7 X (compareOp op) r)(ho':g7 X (compareOp op') r')(ha:PE X a ta)(hb:PE X b tb)(hc:PE X c tc)
  (hm:lastMarks [op,op'] [b,c]=false:=by with_unfolding_all rfl):PE X (.Compare a [op,op'] [b,c] pos) (EH r r' ta tb tc):=by
 intro pins s σ H Q I h
 refine Compare_chain (fK (ha pins s σ H _ I h) fun v s1 ⟨x,H1,I1,r1,q1⟩=>chain_link (fK (hb pins s1 σ H1 _ I1 q1) fun u s2 ⟨y,H2,I2,J,q2⟩=>
  fK (ho pins s2 σ H2 x y v u _ I2 r1 J q2) fun d s3 ⟨z,U,I3,r3,k,e,q3⟩=>?_)) hm
 subst e
 cases r3
 refine wpAny_truthy_bool ?_
 cases k with
 | false=>exact ite_ff ⟨.bl false,U,I3,rfl,q3⟩
 | true=>exact ite_tt (chain_last (fK (hc pins s3 σ U _ I3 q3) fun w' s4 ⟨z',H4,I4,r4,q4⟩=>ho' pins s4 σ H4 y z' u w' Q I4 J r4 q4))
theorem oQ:(sizeLine:Nat) < 2 ^ 63:=by rw [sizeLine_eq];decide
theorem mw:g7 X (binaryOp .Add) (fun x y H Q=>∃ i j,x= .str i/\y= .str j/\i.length + j.length<=sizeLine/\Q (.str (i++j)) H):=by
 intro pins s σ H x y v u Q I J U h
 obtain⟨i,j,rfl,rfl,hz,q⟩:=h
 obtain⟨t,rfl⟩:=J
 obtain⟨t',rfl⟩:=U
 exact add_str (fun t' tk=>⟨.str (i++j),H,I.tok _,⟨_,rfl⟩,q⟩) hz
theorem vals1{x:V}{us:List Value}(r:Vals [x] us):∃ u,us=[u]/\RelV x u:=by
 cases r with
 | cons I J=>cases J;exact⟨_,rfl,I⟩
theorem vals2{x y:V}{us:List Value}(r:Vals [x,y] us):∃ u w',us=[u,w']/\RelV x u/\RelV y w':=by
 cases r with
 | cons I J=>
  cases J with
  | cons U r4=>cases r4;exact⟨_,_,rfl,I,U⟩
theorem G5:jc X (.type "int") (fun xs H Q=>(∃ i,xs=[.int i]/\Q (.int i) H)\/∃ k,xs=[.bl k]/\Q (.int (if k then 1 else 0)) H):=by
 intro pins s σ H xs us Q I r h
 rcases h with ⟨i,rfl,q⟩ | ⟨k,rfl,q⟩
 ·obtain⟨u,rfl,t,rfl⟩:=vals1 r
  exact call_int_int ⟨.int i,H,I,⟨_,rfl⟩,q⟩
 ·obtain⟨u,rfl,J⟩:=vals1 r
  cases J
  exact call_int_bool ⟨.int (if k then 1 else 0),H,I.tok _,⟨_,rfl⟩,q⟩
theorem DA:jc X (.builtin "ord") (fun xs H Q=>∃ x,xs=[.str x]/\x.length=1/\Q (.int (x.cps.getD 0 0:Nat)) H):=by
 intro pins s σ H xs us Q I r h
 obtain⟨x,rfl,J,q⟩:=h
 obtain⟨u,rfl,t,rfl⟩:=vals1 r
 exact ord_of_one J ⟨.int _,H,I.tok _,⟨_,rfl⟩,q⟩
end
structure nh (h : Heap) (x dx C : Addr) (mA : Str -> Option Value) : Prop where
 obj : h.get? x = some (W.instObj C dx)
 ns : h.Ns1 dx mA
 ne : dx ≠ x
theorem Hv{h:Heap}{dx:Addr}{mA:Str->Option Value}(n:h.Ns1 dx mA):∃ od,h.get? dx=some od/\∀ name,W.lookIn name od=some (mA name):=by
 obtain⟨o,es,ep,J,hd,hk,_,hm⟩:=n
 refine⟨o,J,fun name=>?_⟩
 have e:=hm name
 unfold nsFind findBy at e
 rw [<-Array.find?_toList] at e
 unfold W.lookIn
 rw [hd]
 dsimp only
 split
 ·rename_i y q
  rw [q] at e
  exact congrArg some e
 ·rename_i q
  rw [q] at e
  have a:es.toList.any (·.refKey)=false:=by
   rw [List.any_eq_false]
   intro y U
   obtain⟨z,t,I⟩:=hk y (Array.mem_toList_iff.mp U)
   simp [DictEntry.refKey,I]
  have a':¬ es.toList.any (·.refKey)=true:=by rw [a];exact Bool.false_ne_true
  rw [if_neg a']
  exact congrArg some e
theorem nh.look {h:Heap}{x dx C:Addr}{mA:Str->Option Value}(I:nh h x dx C mA):∃ od,W.InstAt h x (W.instObj C dx) C (some od)/\∀ name,W.lookIn name od=some (mA name):=
 let ⟨od,ho,hl⟩:=Hv I.ns
 ⟨od,⟨I.obj,rfl,rfl,ho⟩,hl⟩
section
variable {prog : Program} {w : World} {A : Around} {E : Value -> Shared -> Prop} {s : Shared} {K : PySem.W.Frag} {x dx C f : Addr} {mA : Str -> Option Value} {name : Str} {v : Value}
theorem get_map{expr:Bool}{Q:Value->Shared->Prop}(X:K.In s.heap)(I:nh s.heap x dx C mA)(hg:W.plainGet K C name=true)(hh:W.hasDictIn K C=true)
  (ha:W.findIn K (.ref C) name=some none)(hv:mA name=some v)(hv':W.handedIn v=true)(h:Q v {s with toks:=s.toks + 1}):
  wpAny (model prog w) A (getAttr (.ref x) name expr) Q E s:=by
 obtain⟨od,J,U⟩:=I.look
 exact W.get_value X J (W.plainGet_of hg).1 (W.findObj_own hh ha rfl (by rw [U,hv])) hv' h
theorem CJ{pl:Sem Bool}{Q:Value×List Value->Shared->Prop}(X:K.In s.heap)(I:nh s.heap x dx C mA)(hg:W.plainGet K C name=true)
  (hf:W.findIn K (.ref C) name=some (some (.ref f)))(ht:W.isFn K (.ref f)=true)(hv:mA name=none)(h:Q (.ref f,[.ref x]) s):
  wpAny (model prog w) A (getMethod (.ref x) name pl) Q E s:=by
 obtain⟨U,J,hl⟩:=I.look
 exact W.method_fn X J (W.plainGet_of hg).1 (W.plainGet_of hg).2 hf (beq_iff_eq.mp ht) (by show(W.lookIn name U).map (·.isSome)=some false;rw [hl,hv];rfl) h
theorem BG{ns:List Str}{Q:Unit->Shared->Prop}(X:K.In s.heap)(I:nh s.heap x dx C mA)
  (hs:W.findIn K (.ref C) "__setattr__"=some (some (.builtin "object.__setattr__")))(hp:W.plainOver K C=true)(ht:W.takerIn K C name=some none)(hh:W.hasDictIn K C=true)
  (hw:PySem.Within mA ns)(hsz:ns.length<=sizeLine)
  (h:∀ h',nh h' x dx C (fun y=>if y=name then some v else mA y)->Heap.SameBut dx s.heap h'->Q () {s with heap:=h',toks:=s.toks + 2}):
  wpAny (model prog w) A (setAttr (.ref x) name v) Q E s:=by
 obtain⟨od,J,hl⟩:=I.look
 refine W.set_plain X J hs (W.osa_open (s:={s with toks:=s.toks + 1}) (r:=none) X J hp ht fun b=>?_)
 obtain⟨cd,hc,ab⟩:=W.any_some hh
 have hx:s.heap.get? x=some ⟨.ref C,some dx,.plain,#[]⟩:=I.obj
 refine wpAny_bind (wpAny_pure (wpAny_bind (wpAny_bind (wpAny_loadPart hx (wpAny_bind (W.Looks.here (s:={s with toks:=s.toks + 1}) (W.looks_clsIn X hc) ?_))))))
 rw [ab]
 refine wpAny_pure (a:=some dx) (wpAny_bind (wpAny_pure (wpAny_bind ?_)))
 refine wpAny_nsSet1 (s:={s with toks:=s.toks + 1}) I.ns fun h' U aa=>?_
 obtain⟨oD,ah,ai,ae,af,ag⟩:=U.count (PySem.Within.cons name v hw)
 refine wpAny_bind (wpAny_lookBehind ae (by rw [af];exact pastItsLine_dict (Nat.le_trans ag (by rw [List.length_cons];omega))) ?_)
 exact wpAny_pure (h _ ⟨(aa.2 _ (Ne.symm I.ne)).trans I.obj,U,I.ne⟩ aa)
theorem F9{R:Result->Shared->Prop}{vs:List Value}{kw:List (Str×Value)}(X:K.In s.heap)(hm:W.makesIn K C=true)
  (hi:W.findIn K (.ref C) "__init__"=some (some (.ref f)))(hf:W.typeIn K (.ref f)=some (.type "function"))
  (h:codeAny (model prog w) (A.under (.builtin "type.__call__" ⟨.ref C::vs,kw⟩)) (.call (.ref f) ⟨.ref (s.heap.objs.size + 1)::vs,kw⟩) (W.InitBack (s.heap.objs.size + 1) R)
   {s with heap:=(s.heap.push W.emptyDict).push (W.instObj C s.heap.objs.size)}):
  codeAny (model prog w) A (.call (.ref C) ⟨vs,kw⟩) R s:=by
 obtain⟨I,g,d,t,os⟩:=s
 exact W.make_core (W.makes_of X hm) (W.looks_findIn X hi) (fun self=>W.bind_fn X self hf) (.inl rfl) h
end
def fX(f:Str)(v:V):List (Str×V)->List (Str×V)
 | []=>[(f,v)]
 | (g,x)::r=>if g=f then (g,v)::r else (g,x)::fX f v r
theorem iu(f g:Str)(v:V):∀ fs:List (Str×V),(fX f v fs).lookup g=if g=f then some v else fs.lookup g
 | []=>by
  show List.lookup g [(f,v)]=_
  by_cases h:g=f
  ·have hb:(g == f)=true:=beq_iff_eq.mpr h
   simp only [List.lookup,hb,if_pos h]
  ·have hb:(g == f)=false:=beq_eq_false_iff_ne.mpr h
   simp only [List.lookup,hb,if_neg h]
 | (k,x)::r=>by
  have I:=iu f g v r
  rw [show fX f v ((k,x)::r)=(if k=f then (k,v)::r else (k,x)::fX f v r) from rfl]
  by_cases hk:k=f
  ·rw [if_pos hk]
   by_cases h:g=k
   ·have hb:(g == k)=true:=beq_iff_eq.mpr h
    simp only [List.lookup,hb,if_pos (h.trans hk)]
   ·have hb:(g == k)=false:=beq_eq_false_iff_ne.mpr h
    simp only [List.lookup,hb,if_neg (fun e:g=f=>h (e.trans hk.symm))]
  ·rw [if_neg hk]
   by_cases h:g=k
   ·have hb:(g == k)=true:=beq_iff_eq.mpr h
    simp only [List.lookup,hb,if_neg (fun e:g=f=>hk (h.symm.trans e))]
   ·have hb:(g == k)=false:=beq_eq_false_iff_ne.mpr h
    simp only [List.lookup,hb]
    exact I
theorem vT(f:Str)(v:V):∀ fs:List (Str×V),f∈(fX f v fs).map (·.1)/\∀ g,g∈fs.map (·.1)->g∈(fX f v fs).map (·.1)
 | []=>⟨by simp [fX],fun g h=>by simp at h⟩
 | (k,x)::r=>by
  obtain⟨I,J⟩:=vT f v r
  rw [show fX f v ((k,x)::r)=(if k=f then (k,v)::r else (k,x)::fX f v r) from rfl]
  by_cases hk:k=f
  ·rw [if_pos hk]
   subst hk
   exact⟨by simp,fun g h=>by simpa using h⟩
  ·rw [if_neg hk]
   refine⟨?_,fun g h=>?_⟩
   ·rw [List.map_cons]
    exact List.mem_cons_of_mem _ I
   ·rw [List.map_cons] at h ⊢
    rcases List.mem_cons.mp h with e | e
    ·exact List.mem_cons.mpr (.inl e)
    ·exact List.mem_cons_of_mem _ (J g e)
theorem zT(f:Str)(v:V):∀ fs:List (Str×V),(fX f v fs).length<=fs.length + 1
 | []=>by simp [fX]
 | (k,x)::r=>by
  have I:=zT f v r
  rw [show fX f v ((k,x)::r)=(if k=f then (k,v)::r else (k,x)::fX f v r) from rfl]
  by_cases hk:k=f
  ·rw [if_pos hk,List.length_cons,List.length_cons];omega
  ·rw [if_neg hk,List.length_cons,List.length_cons];omega
theorem iT.some_of {v:V}{o:Option Value}(r:iT (some v) o):∃ u,o=some u/\RelV v u:=by
 cases o with
 | none=>exact(show False from r).elim
 | some u=>exact⟨u,rfl,r⟩
theorem iT.none_of {o:Option Value}(r:iT none o):o=none:=by
 cases o with
 | none=>rfl
 | some u=>exact(show False from r).elim
theorem Bu{v:V}{u:Value}(r:RelV v u):W.handedIn u=true:=by
 cases v with
 | non=>cases (show u=Value.none from r);rfl
 | bl b=>cases (show u=Value.bool b from r);rfl
 | int i=>obtain⟨t,e⟩:=(show ∃ t,u=Value.int i t from r);cases e;rfl
 | str x=>obtain⟨t,e⟩:=(show ∃ t,u=Value.str x t from r);cases e;rfl
 | byt b=>obtain⟨t,e⟩:=(show ∃ t,u=Value.bytes b t from r);cases e;rfl
 | flt b=>obtain⟨t,e⟩:=(show ∃ t,u=Value.float b t from r);cases e;rfl
 | ref a=>cases (show u=Value.ref a from r);rfl
 | ty n=>cases (show u=Value.type n from r);rfl
section
variable {P : Program} {w : World} {H H' : Hp} {h h' : Heap} {a C dx : Addr} {fs fs' : List (Str × V)}
theorem qT(hok:gG P w H h)(e:H a=some (.ins C dx fs)):∃ mA,nh h a dx C mA/\(∀ f,iT (fs.lookup f) (mA f))/\PySem.Within mA (fs.map (·.1))/\fs.length<=1000/\H dx=some (.own a):=by
 obtain⟨d,z,ne,I,mA,n,r,q⟩:=(show gI P w H h a (.ins C dx fs) from hok a _ e)
 exact⟨mA,⟨I,n,ne⟩,r,q,z,d⟩
end
structure jL (K : W.Frag) (C : Addr) : Prop where
 pg : W.plainGet K C Str.empty = true
 hd : W.hasDictIn K C = true
 po : W.plainOver K C = true
 sa : W.findIn K (.ref C) "__setattr__" = some (some (.builtin "object.__setattr__"))
theorem jL.get {K:W.Frag}{C:Addr}(c:jL K C)(f:Str):W.plainGet K C f=true:=c.pg
def jP(K:W.Frag)(C:Addr)(f:Str):Prop:=W.findIn K (.ref C) f=some none
theorem jP.taker {K:W.Frag}{C:Addr}{f:Str}(n:jP K C f):W.takerIn K C f=some none:=by
 unfold W.takerIn
 rw [show W.findIn K (.ref C) f=some none from n]
 rfl
structure Meth (K : W.Frag) (C : Addr) (m : Str) (f : Addr) : Prop where
 at_ : W.findIn K (.ref C) m = some (some (.ref f))
 fn : W.isFn K (.ref f) = true
 kp : W.keepIn K (.ref f) = true
section
variable {X : Cx} {pins : List (Addr × Obj)} {σ : St} {H : Hp} {s : Shared} {a C dx : Addr} {fs : List (Str × V)} {f : Str} {v : V} {A : Around} {E : Value -> Shared -> Prop}
theorem II{b:Bool}{Q:Value->Shared->Prop}(I:Inv X pins σ H s)(e:H a=some (.ins C dx fs))(c:jL X.K C)(n:jP X.K C f)(l:fs.lookup f=some v)
  (h:∀ u s',Inv X pins σ H s'->RelV v u->Q u s'):wpAny (model X.prog X.w) A (getAttr (.ref a) f b) Q E s:=by
 obtain⟨mA,O,r,_,_,_⟩:=qT I.hok e
 obtain⟨u,U,J⟩:=iT.some_of (v:=v) (o:=mA f) (by rw [<-l];exact r f)
 exact get_map I.kIn O (c.get f) c.hd n U (Bu J) (h u _ (I.tok _) J)
theorem wm{m:Str}{g:Addr}{pl:Sem Bool}{Q:Value×List Value->Shared->Prop}(I:Inv X pins σ H s)(e:H a=some (.ins C dx fs))(c:jL X.K C)(k:Meth X.K C m g)(l:fs.lookup m=none)
  (h:Q (.ref g,[.ref a]) s):wpAny (model X.prog X.w) A (getMethod (.ref a) m pl) Q E s:=by
 obtain⟨mA,O,r,_,_,_⟩:=qT I.hok e
 have hn:mA m=none:=iT.none_of (by rw [<-l];exact r m)
 exact CJ I.kIn O (c.get m) k.at_ k.fn hn h
theorem Br{y:V}{u:Value}{Q:Unit->Shared->Prop}(I:Inv X pins σ H s)(e:H a=some (.ins C dx fs))(c:jL X.K C)(n:jP X.K C f)(hl:fs.length < 1000)(ry:RelV y u)
  (h:∀ s',Inv X pins σ (upd H a (.ins C dx (fX f y fs))) s'->Q () s'):wpAny (model X.prog X.w) A (setAttr (.ref a) f u) Q E s:=by
 obtain⟨mA,O,r,wi,_,U⟩:=qT I.hok e
 have hz:(fs.map (·.1)).length<=sizeLine:=by rw [List.length_map,sizeLine_eq];omega
 refine BG I.kIn O c.sa c.po n.taker c.hd wi hz fun h' J sb=>h _ ?_
 have hd:∃ o,h'.get? dx=some o:=let ⟨o,_,_,e',_⟩:=J.ns;⟨o,e'⟩
 refine I.write (x:=a) (e:=dx) (by rw [e];exact True.intro) (.inr U) (fun b q hb z=>(sb.2 b hb).trans z) hd ?_
 refine⟨by rw [fB O.ne];exact U,?_,O.ne,J.obj,_,J.ns,fun g=>?_,fun g hg=>?_⟩
 ·have:=zT f y fs;omega
 ·show iT ((fX f y fs).lookup g) (if g=f then some u else mA g)
  rw [iu]
  by_cases q:g=f
  ·rw [if_pos q,if_pos q];exact ry
  ·rw [if_neg q,if_neg q];exact r g
 ·by_cases q:g=f
  ·rw [q];exact(vT f y fs).1
  ·refine(vT f y fs).2 g (wi g fun z=>hg ?_)
   show(if g=f then some u else mA g)=none
   rw [if_neg q];exact z
theorem Inv.made (I:Inv X pins σ H s):Inv X pins σ (upd (upd H s.heap.objs.size (.own (s.heap.objs.size + 1))) (s.heap.objs.size + 1) (.ins C s.heap.objs.size []))
  {s with heap:=(s.heap.push W.emptyDict).push (W.instObj C s.heap.objs.size)}:=by
 have J:(s.heap.push W.emptyDict).get? s.heap.objs.size=some W.emptyDict:=Heap.get?_push_size s.heap rfl
 have U:((s.heap.push W.emptyDict).push (W.instObj C s.heap.objs.size)).get? (s.heap.objs.size + 1)=some (W.instObj C s.heap.objs.size):=by
  have:=Heap.get?_push_size (s.heap.push W.emptyDict) (o:=W.instObj C s.heap.objs.size) rfl
  rwa [Heap.size_push] at this
 have e3:(s.heap.push W.emptyDict).Ns s.heap.objs.size (fun _=>none):=⟨W.emptyDict,#[],_,J,rfl,(fun e he=>absurd he (by simp)),fun _=>rfl⟩
 have I1:=I.laid (a:=s.heap.objs.size) (o:= .own (s.heap.objs.size + 1)) (h':=s.heap.push W.emptyDict) (t':=s.toks) (fun b u q=>Heap.get?_push_of_some _ q) (Nat.le_refl _) ⟨_,J⟩
 refine I1.laid (a:=s.heap.objs.size + 1) (o:= .ins C s.heap.objs.size []) (t':=s.toks) (fun b u q=>Heap.get?_push_of_some _ q) (Nat.le_of_eq (Heap.size_push _ _)) ?_
 have ne:s.heap.objs.size≠s.heap.objs.size + 1:=Nat.ne_of_lt (Nat.lt_succ_self _)
 refine⟨by rw [fB ne,fv],Nat.zero_le _,ne,U,fun _=>none,(Heap.Ns1.of_empty e3).at fun o q=>Heap.get?_push_of_some _ q,fun _=>True.intro,fun y hy=>absurd rfl hy⟩
theorem Fz{prog:Program}{w:World}{env:Env}{e:Expr}{f:Str}{pos:Pos}{s:Shared}{Q:Value->Shared->Prop}(hb:attributeBase e f env (eval e env)=eval e env)
  (h:wpAny (model prog w) A (eval e env) (fun o s₁=>wpAny (model prog w) A (getAttr o f true) Q E s₁) E s):wpAny (model prog w) A (eval (.Attribute e f pos) env) Q E s:=
 Attribute_any_ h (by rw [arm_eval_Attribute,hb])
end
def uO(K:W.Frag)(ta:TE)(f:Str):TE:=fun σ H Q=>ta σ H fun x H1=>∃ a C dx fs v,x= .ref a/\H1 a=some (.ins C dx fs)/\jL K C/\jP K C f/\fs.lookup f=some v/\Q v H1
def zZ(K:W.Frag)(ta tv:TE)(f:Str):TS:=fun D σ H=>tv σ H fun y H1=>ta σ H1 fun x H2=>∃ a C dx fs,x= .ref a/\H2 a=some (.ins C dx fs)/\jL K C/\jP K C f/\fs.length < 1000/\
 D.nx σ (upd H2 a (.ins C dx (fX f y fs)))
section
variable {X : Cx} {o e value : Expr} {f : Str} {pos pos' tpos : Pos} {ta tv : TE}
theorem iP(he:PE X e ta)(hb:attributeBase e f X.env (eval e X.env)=eval e X.env):PE X (.Attribute e f pos) (uO X.K ta f):=by
 intro pins s σ H Q I h
 refine Fz hb (fK (he pins s σ H _ I h) fun u s1 ⟨x,H1,J,U,a,C,dx,fs,v,ex,ea,c,n,l,q⟩=>?_)
 subst ex
 obtain rfl:u=Value.ref a:=U
 exact II J ea c n l fun u' s2 I2 ru=>⟨v,H1,I2,ru,q⟩
theorem kr(ha:PE X o ta)(hv:PE X value tv)(hs:swapsWith value (some (.Attribute o f pos')) pos.line X.env=pure false):PS X (.Assign [.Attribute o f pos'] value pos) (zZ X.K ta tv f):=by
 intro pins s σ H D I h
 refine plainObj_wpAny_Assign_Attribute (fK (hv pins s σ H _ I h) fun u s1 ⟨y,H1,J,U,q⟩=>fK (ha pins s1 σ H1 _ J q) fun ov s2 ⟨x,H2,I2,rx,a,C,dx,fs,ex,ea,c,n,l,q2⟩=>?_) hs
 subst ex
 obtain rfl:ov=Value.ref a:=rx
 exact Br I2 ea c n l U fun s3 I3=>⟨σ,_,I3,q2⟩
end
section
variable {X : Cx} {pins : List (Addr × Obj)} {σ : St} {H : Hp} {s : Shared} {A : Around} {E : Value -> Shared -> Prop} {Q : Value -> Shared -> Prop} {c : Value} {b : Bool}
inductive ir (K : W.Frag) (H : Hp) : V -> Value -> Prop where
 | non : ir K H .non (.type "NoneType")
 | bl (x : Bool) : ir K H (.bl x) (.type "bool")
 | int (i : Int) : ir K H (.int i) (.type "int")
 | str (x : Str) : ir K H (.str x) (.type "str")
 | flt (x : UInt64) : ir K H (.flt x) (.type "float")
 | lst {a : Addr} {xs : List V} (e : H a = some (.lst xs)) : ir K H (.ref a) (.type "list")
 | frz {a : Addr} {o : Obj} {xs : List V} (e : H a = some (.frz o (.lst xs))) : ir K H (.ref a) (.type "list")
 | tup {a : Addr} {xs : List V} (e : H a = some (.tup xs)) : ir K H (.ref a) (.type "tuple")
 | dK {a : Addr} {kvs : List (Key × V)} (e : H a = some (.dK kvs)) : ir K H (.ref a) (.type "dict")
 | dT {a : Addr} {kvs : List (List Key × V)} (e : H a = some (.dT kvs)) : ir K H (.ref a) (.type "dict")
 | ins {a C dx : Addr} {fs : List (Str × V)} (e : H a = some (.ins C dx fs)) (cl : jL K C) (ha : W.findIn K (.ref C) "__class__" = some (some (.builtin "object.__class__")))
   (hn : W.specialIn K (.builtin "object.__class__") "__get__" = some (some (.builtin "getset_descriptor.__get__"))) (htk : W.takesIn K (.builtin "object.__class__") = some true)
   (hm : W.mroIn K C (.type "object") = some true) : ir K H (.ref a) (.ref C)
theorem yP{x:V}{u t:Value}(I:Inv X pins σ H s)(rx:RelV x u)(ty:ir X.K H x t)(e:W.kitOne X.K t c=some b)(h:∀ tk,Q (.bool b) {s with toks:=tk}):
  wpAny (model X.prog X.w) A (call (.builtin "isinstance") [u,c]) Q E s:=by
 cases ty with
 | non=>cases (show u=Value.none from rx);exact W.kia_one W.kitx_none I.kIn True.intro e (fun z=>nomatch z) h
 | bl y=>cases (show u=Value.bool y from rx);exact W.kia_one W.kitx_bool I.kIn True.intro e (fun z=>nomatch z) h
 | int i=>obtain⟨t,q⟩:=(show ∃ t,u=Value.int i t from rx);cases q;exact W.kia_one W.kitx_int I.kIn True.intro e (fun z=>nomatch z) h
 | str y=>obtain⟨t,q⟩:=(show ∃ t,u=Value.str y t from rx);cases q;exact W.kia_one W.kitx_str I.kIn True.intro e (fun z=>nomatch z) h
 | flt y=>obtain⟨t,q⟩:=(show ∃ t,u=Value.float y t from rx);cases q;exact W.kia_one W.kitx_float I.kIn True.intro e (fun z=>nomatch z) h
 | @lst a xs U=>
  cases (show u=Value.ref a from rx)
  obtain⟨_,_,n,_,h1⟩:=(show gI X.prog X.w H s.heap a (.lst xs) from I.hok a _ U)
  exact W.kia_one W.kitx_list I.kIn ⟨_,h1,rfl⟩ e (fun z=>nomatch z) h
 | @frz a ob xs U=>
  cases (show u=Value.ref a from rx)
  obtain⟨_,_,_,n,_,h1⟩:=(show gI X.prog X.w H s.heap a (.frz ob (.lst xs)) from I.hok a _ U)
  exact W.kia_one W.kitx_list I.kIn ⟨_,h1,rfl⟩ e (fun z=>nomatch z) h
 | @tup a xs U=>
  cases (show u=Value.ref a from rx)
  obtain⟨_,_,_,p⟩:=(show gI X.prog X.w H s.heap a (.tup xs) from I.hok a _ U)
  obtain⟨o,h1,h2,_⟩:=p
  exact W.kia_one W.kitx_tuple I.kIn ⟨o,h1,h2⟩ e (fun z=>nomatch z) h
 | @dK a kvs U=>
  cases (show u=Value.ref a from rx)
  obtain⟨_,_,vs,_,p⟩:=(show gI X.prog X.w H s.heap a (.dK kvs) from I.hok a _ U)
  obtain⟨o,es,ep,h1,h2,_⟩:=p
  exact W.kia_one W.kitx_dict I.kIn ⟨o,h1,h2.1⟩ e (fun z=>nomatch z) h
 | @dT a kvs U=>
  cases (show u=Value.ref a from rx)
  obtain⟨_,_,xs,_,o,es,ep,h1,h2,_⟩:=(show gI X.prog X.w H s.heap a (.dT kvs) from I.hok a _ U)
  exact W.kia_one W.kitx_dict I.kIn ⟨o,h1,h2.1⟩ e (fun z=>nomatch z) h
 | @ins a C dx fs U cl ha hn aa hm=>
  cases (show u=Value.ref a from rx)
  obtain⟨mA,O,_⟩:=qT I.hok U
  obtain⟨od,J,_⟩:=O.look
  exact W.kia_one (W.kitx_own (cl.get _) cl.hd ha hn aa hm) I.kIn J e (fun z=>nomatch z) h
end
structure gE (k : Nat) (A : Around) : Prop where
 hd : A.handled = none
 dp : A.depth + 3 * k + 5 < recursionLimit
 un : A.units + 16 * k + 200 < cLine
theorem gE.mono {j k:Nat}{A:Around}(r:gE k A)(h:j<=k):gE j A:=⟨r.hd,by have:=r.dp;omega,by have:=r.un;omega⟩
theorem gE.deeper {k:Nat}{A:Around}(r:gE (k + 1) A)(env:Env):gE k (A.deeper env):=
 ⟨r.hd,by have:=r.dp;show A.depth + 1 + 3 * k + 5 < _;omega,by have:=r.un;show A.units + 3 + 16 * k + 200 < _;omega⟩
theorem Cy{A:Around}{C:Addr}{us:List Value}{kw:List (Str×Value)}:(A.under (.builtin "type.__call__" ⟨.ref C::us,kw⟩)).depth=A.depth + 1:=by
 first | rfl | simp [Around.under,Code.weight,Code.isCreation,Code.isGuard,Code.isCaller,Code.frames,Code.isFrame,guardIds]
theorem Cp{A:Around}{C:Addr}{us:List Value}{kw:List (Str×Value)}:(A.under (.builtin "type.__call__" ⟨.ref C::us,kw⟩)).units=A.units + 1:=by
 first | rfl | simp [Around.under,Code.cUnits,Code.frames,Code.isFrame]
theorem gE.make {k:Nat}{A:Around}(r:gE (k + 1) A)(C:Addr)(us:List Value)(kw:List (Str×Value)):gE k (A.under (.builtin "type.__call__" ⟨.ref C::us,kw⟩)):=
 ⟨r.hd,by have:=r.dp;rw [Cy];omega,by have:=r.un;rw [Cp];omega⟩
theorem gE.depth {k:Nat}{A:Around}(r:gE k A):A.depth < recursionLimit:=by have:=r.dp;omega
theorem gE.units {k:Nat}{A:Around}(r:gE k A):A.units + 64 < cLine:=by have:=r.un;omega
def k8:TA:=fun _ H Q=>Q [] H
def mI(ta:TE)(tr:TA):TA:=fun σ H Q=>ta σ H fun x H1=>tr σ H1 fun xs H2=>Q (x::xs) H2
section
variable {X : Cx} {e : Expr} {es : List Expr} {te : TE} {t : TA} {pos : Pos}
theorem fe:PA X [] k8:=fun _ _ _ _ H Q I h=>Calls.spliced_nil ⟨[],H,I,.nil,h⟩
theorem eY(ha:PE X e te)(hr:PA X es t)(hs:starEach (e::es) X.env=(false,eval e X.env)::starEach es X.env:=by rfl):PA X (e::es) (mI te t):=by
 intro pos pins s σ H Q I h
 rw [hs]
 show wpAny _ _ (spliced ((false,eval e X.env)::backTo pos (starEach es X.env))) _ _ s
 refine Calls.spliced_cons (fK (ha pins s σ H _ I h) fun u s1 ⟨x,H1,J,U,q1⟩=>?_)
 exact fK (hr pos pins s1 σ H1 _ J q1) fun us s2 ⟨xs,H2,I2,r2,q2⟩=>⟨x::xs,H2,I2,.cons U r2,q2⟩
def Es(t:TA):TE:=fun σ H Q=>t σ H fun xs H1=>xs.length<=sizeLine/\∀ p,H1 p=none->Q (.ref p) (upd H1 p (.tup xs))
def rP(t:TA):TE:=fun σ H Q=>t σ H fun xs H1=>xs.length<=sizeLine/\∀ p,H1 p=none->Q (.ref p) (upd H1 p (.lst xs))
theorem iV{x1}(h:PA X es t):PE X (.Tuple es x1 pos) (Es t):=by
 intro pins s σ H Q I U
 refine wpAny_Tuple_spliced (fK (h pos pins s σ H _ I U) fun us s1 ⟨xs,H1,J,r,z,q⟩=>⟨by rw [<-r.length];exact z,?_⟩)
 have hf:H1 s1.heap.objs.size=none:=J.hok.fresh (Nat.le_refl _)
 refine⟨.ref s1.heap.objs.size,upd H1 s1.heap.objs.size (.tup xs),J.laid (t':=s1.toks) (fun b u e=>Heap.get?_push_of_some _ e) (Nat.le_refl _) ?_,rfl,q _ hf⟩
 exact⟨z,us,r,⟨_,Heap.get?_push_size _ rfl,rfl,_,rfl⟩⟩
theorem gf(h:PA X es t):PE X (.List es pos) (rP t):=by
 intro pins s σ H Q I U
 refine wpAny_List_spliced (fK (h pos pins s σ H _ I U) fun us s1 ⟨xs,H1,J,r,z,q⟩=>⟨by rw [<-r.length];exact z,?_⟩)
 have hf:H1 s1.heap.objs.size=none:=J.hok.fresh (Nat.le_refl _)
 refine⟨.ref s1.heap.objs.size,upd H1 s1.heap.objs.size (.lst xs),J.laid (t':=s1.toks) (fun b u e=>Heap.get?_push_of_some _ e) (Nat.le_refl _) ?_,rfl,q _ hf⟩
 exact⟨z,us,0,r,Heap.get?_push_size _ rfl⟩
end
abbrev Sp:=List V->Hp->VK->XK->Prop
abbrev jn:=List Env->Hp->Shared->XK->Value->Shared->Prop
structure nG (P : Program) (w : World) (K : W.Frag) (mg : Str -> Option Value) (base : Heap) (A : Around) (outer : List Env) (s : Shared) (H : Hp) : Prop where
 frames : A.frames = some outer
 mod : Mod K mg base
 bs : ∀ b o, base.get? b = some o -> s.heap.get? b = some o /\ H b = none
 bsz : base.objs.size <= s.heap.objs.size
 funs : s.heap.FunFrames base outer
 frf : ∀ b ∈ gz outer, H b = none
 hok : gG P w H s.heap
 bare : AllBare s.gens
def CE(outer:List Env)(P:Program)(w:World)(H:Hp)(s:Shared)(Q:VK)(u:Value)(s':Shared):Prop:=
 ∃ v H',s'.os=s.os/\AllBare s'.gens/\Un (gz outer) [] H H' s.heap s'.heap/\gG P w H' s'.heap/\RelV v u/\Q v H'
def CR(CX:jn)(outer:List Env)(P:Program)(w:World)(H:Hp)(s:Shared)(Q:VK)(E:XK)(r:Result)(s':Shared):Prop:=
 match r with
 | .ok (.ret u)=>CE outer P w H s Q u s'
 | .ok _=>False
 | .error e=>CX outer H s E e s'
structure fx (P : Program) (w : World) (K : W.Frag) (mg : Str -> Option Value) (base : Heap) (CX : jn) (k : Nat) (f : Addr) (fd : FuncData) (ps : List Str) (sp : Sp) : Prop where
 len : ∀ vs H Q E, sp vs H Q E -> vs.length = ps.length
 run : ∀ (A : Around) (outer : List Env) (s : Shared) (H : Hp) (args : Args) (us : List Value) (vs : List V) (Q : VK) (E : XK), gE k A -> nG P w K mg base A outer s H -> BindsTo s fd args (ps.zip us) -> Vals vs us -> sp vs H Q E ->
  codeAny (model P w) A (.call (.ref f) args) (CR CX outer P w H s Q E) s
theorem fx.mono {P:Program}{w:World}{K:W.Frag}{mg:Str->Option Value}{base:Heap}{CX:jn}{j k:Nat}{f:Addr}{fd:FuncData}{ps:List Str}{sp:Sp}(F:fx P w K mg base CX j f fd ps sp)(h:j<=k):
  fx P w K mg base CX k f fd ps sp:=⟨F.len,fun A outer s H args us vs Q E I=>F.run A outer s H args us vs Q E (I.mono h)⟩
theorem nG.make {P:Program}{w:World}{K:W.Frag}{mg:Str->Option Value}{base:Heap}{A:Around}{outer:List Env}{s:Shared}{H:Hp}(e:nG P w K mg base A outer s H)(C:Addr)(us:List Value)(kw:List (Str×Value)):
  nG P w K mg base (A.under (.builtin "type.__call__" ⟨.ref C::us,kw⟩)) outer s H:=⟨by first | exact e.frames | (simpa [Around.under,Code.envs,Code.isFrame,pushEnvs] using e.frames),e.mod,e.bs,e.bsz,e.funs,e.frf,e.hok,e.bare⟩
section
variable {X : Cx} {pins : List (Addr × Obj)} {σ : St} {H : Hp} {s s' : Shared}
theorem Inv.env0 (I:Inv X pins σ H s):nG X.prog X.w X.K X.mg X.base X.A X.stack s H:=
 ⟨I.ok.frames,I.ok.mod,I.bs,Nat.le_trans I.ok.bsz I.sz,I.stack,I.stkFree,I.hok,I.bare⟩
theorem Inv.after {Q:VK}{u:Value}(I:Inv X pins σ H s)(h:CE X.stack X.prog X.w H s Q u s'):EP X pins σ Q u s':=by
 obtain⟨v,H',os,bare,un,hok,r,q⟩:=h
 obtain⟨U,g,d,t,J⟩:=s'
 obtain rfl:J=s.os:=os
 exact⟨v,H',I.call (h':=U) (g':=g) (d':=d) (t':=t) (ch:=[]) un hok bare (fun b z=>absurd z (by simp)),r,q⟩
end
def xO(sp:Sp)(dvs:List V)(E:XK)(t:TA):TE:=fun σ H Q=>t σ H fun vs H1=>sp (vs++dvs) H1 Q E
def wB(C:Addr)(m:Str)(sp:Sp)(dvs:List V)(E:XK)(ta:TE)(t:TA):TE:=fun σ H Q=>ta σ H fun x H1=>∃ a dx fs,x= .ref a/\H1 a=some (.ins C dx fs)/\fs.lookup m=none/\
 t σ H1 fun vs H2=>sp (x::(vs++dvs)) H2 Q E
def Ai(C:Addr)(sp:Sp)(dvs:List V)(E:XK)(t:TA):TE:=fun σ H Q=>t σ H fun vs H1=>∀ x dx,H1 x=none->H1 dx=none->dx≠x->
 sp (.ref x::(vs++dvs)) (upd (upd H1 dx (.own x)) x (.ins C dx [])) (fun v H2=>v= .non/\Q (.ref x) H2) E
def Binds(K:W.Frag)(fd:FuncData)(ps:List Str)(ds:List Value):Prop:=
 ∀(s:Shared) (us:List Value),K.In s.heap->(us++ds).length=ps.length->BindsTo s fd ⟨us,[]⟩ (ps.zip (us++ds))
theorem Binds.all {K:W.Frag}{fd:FuncData}{ps:List Str}(h:∀ us:List Value,us.length=ps.length->bindArgs fd ⟨us,[]⟩=pure (ps.zip us)):Binds K fd ps []:=fun s us _ I=>by
 rw [List.append_nil] at I ⊢
 exact .of_eq (h us I)
def Passes(CX:jn)(X:Cx)(E:XK):Prop:=∀(pins:List (Addr×Obj)) (σ:St) (H:Hp) (s:Shared) (e:Value) (s':Shared),Inv X pins σ H s->CX X.stack H s E e s'->X.xe e s'
section
variable {X : Cx} {CX : jn} {k : Nat} {f C : Addr} {fd : FuncData} {ps : List Str} {sp : Sp} {dvs : List V} {ds : List Value} {E : XK} {x m : Str} {p pos apos : Pos} {e o : Expr} {es : List Expr} {ta : TE} {t : TA}
theorem u6{pins:List (Addr×Obj)}{σ:St}{H:Hp}{s:Shared}{Q:VK}{us:List Value}{vs:List V}(F:fx X.prog X.w X.K X.mg X.base CX k f fd ps sp)(hr:gE k X.A)(hb:Binds X.K fd ps ds)(hd:Vals dvs ds)(hx:Passes CX X E)
  (I:Inv X pins σ H s)(r:Vals vs us)(h:sp (vs++dvs) H Q E):wpAny (model X.prog X.w) X.A (call (.ref f) us) (EP X pins σ Q) X.xe s:=by
 have U:Vals (vs++dvs) (us++ds):=r.append hd
 have hl:(us++ds).length=ps.length:=by rw [<-U.length];exact F.len _ _ _ _ h
 refine wpAny_call (codeAny_mono (F.run X.A X.stack s H ⟨us,[]⟩ (us++ds) (vs++dvs) Q E hr I.env0 (hb s us I.kIn hl) U h) fun r s' J=>?_)
 cases r with
 | error e=>exact hx pins σ H s e s' I J
 | ok fl=>
  cases fl with
  | ret u=>exact I.after J
  | next=>exact False.elim J
  | brk=>exact False.elim J
  | cont=>exact False.elim J
theorem fN(F:fx X.prog X.w X.K X.mg X.base CX k f fd ps sp)(hr:gE k X.A)(hg:Gl X x)(hm:X.mg x=some (.ref f))(hk:W.keepIn X.K (.ref f)=true)(hb:Binds X.K fd ps ds)(hd:Vals dvs ds)(hx:Passes CX X E)
  (ha:PA X (e::es) t)(hdb:(x == ("__debug__":Str))=false:=by decide)(he:starEach (e::es) X.env=(false,eval e X.env)::starEach es X.env:=by rfl)(hpl:(backTo pos (starEach es X.env)).any (·.1)=false:=by rfl):
  PE X (.Call (.Name x p) (e::es) [] pos) (xO sp dvs E t):=by
 intro pins s σ H Q I h
 refine wpAny_Call_Name_kw (lM I hg hm ?_ hdb)
 refine W.callWith_K (h₀:=X.base) I.ok.mod.kin hk (fK (ha pos pins s σ H _ I h) fun us s1 ⟨vs,H1,J,r,q⟩=>⟨J.kIn,?_⟩) he hpl
 exact u6 F hr hb hd hx J r q
theorem jD{pl:Sem Bool}(he:PE X o ta)(c:jL X.K C)(hm:Meth X.K C m f)(F:fx X.prog X.w X.K X.mg X.base CX k f fd ps sp)(hr:gE k X.A)(hb:Binds X.K fd ps ds)(hd:Vals dvs ds)(hx:Passes CX X E)(ha:PA X (e::es) t)
  (hst:starEach (e::es) X.env=(false,eval e X.env)::starEach es X.env:=by rfl)(hpl:(backTo pos (starEach es X.env)).any (·.1)=false:=by rfl)
  (ht:eval (.Call (.Attribute o m apos) (e::es) [] pos) X.env=(do
   let ov<-eval o X.env
   standAt apos.atName
   let (f,first)<-holding [ov] (getMethod ov m pl)
   callWith pos f first (backTo pos (starEach (e::es) X.env)) (backToKw pos (keywordEach [] X.env))):=by rfl):
  PE X (.Call (.Attribute o m apos) (e::es) [] pos) (wB C m sp dvs E ta t):=by
 intro pins s σ H Q I h
 refine W.methodCall_KW (pl:=pl) (fK (he pins s σ H _ I h) fun u s1 ⟨x,H1,J,rx,a,dx,fs,ex,ea,l,q⟩=>?_) ht
 subst ex
 obtain rfl:u=Value.ref a:=rx
 refine wm J ea c hm l ?_
 refine W.callWith_K (first:=[.ref a]) (h₀:=X.base) I.ok.mod.kin hm.kp (fK (ha pos pins s1 σ H1 _ J q) fun us s2 ⟨vs,H2,U,r,q2⟩=>⟨U.kIn,?_⟩) hst hpl
 exact u6 (us:= .ref a::us) (vs:= .ref a::vs) F hr hb hd hx U (.cons rfl r) q2
theorem ji{pl:Sem Bool}(he:PE X o ta)(c:jL X.K C)(hm:Meth X.K C m f)(F:fx X.prog X.w X.K X.mg X.base CX k f fd ps sp)(hr:gE k X.A)(hb:Binds X.K fd ps ds)(hd:Vals dvs ds)(hx:Passes CX X E)
  (ht:eval (.Call (.Attribute o m apos) [] [] pos) X.env=(do
   let ov<-eval o X.env
   standAt apos.atName
   let (f,first)<-holding [ov] (getMethod ov m pl)
   callWith pos f first (backTo pos (starEach [] X.env)) (backToKw pos (keywordEach [] X.env))):=by rfl):
  PE X (.Call (.Attribute o m apos) [] [] pos) (wB C m sp dvs E ta k8):=by
 intro pins s σ H Q I h
 refine W.methodCall_KW (pl:=pl) (fK (he pins s σ H _ I h) fun u s1 ⟨x,H1,J,U,a,dx,fs,ex,ea,l,q⟩=>?_) ht
 subst ex
 obtain rfl:u=Value.ref a:=U
 refine wm J ea c hm l ?_
 exact W.callWith_K0 (first:=[.ref a]) J.kIn hm.kp (u6 (us:=[.ref a]) (vs:=[.ref a]) F hr hb hd hx J (.cons rfl .nil) q)
structure Mk (K : W.Frag) (C f : Addr) : Prop where
 makes : W.makesIn K C = true
 init : W.findIn K (.ref C) "__init__" = some (some (.ref f))
 fn : W.isFn K (.ref f) = true
 kp : W.keepIn K (.ref C) = true
theorem yR{pins:List (Addr×Obj)}{σ:St}{H:Hp}{s:Shared}{Q:VK}{us:List Value}{vs:List V}(M:Mk X.K C f)(F:fx X.prog X.w X.K X.mg X.base CX k f fd ps sp)(hr:gE (k + 1) X.A)(hb:Binds X.K fd ps ds)(hd:Vals dvs ds)
  (hx:Passes CX X E)(I:Inv X pins σ H s)(r:Vals vs us)
  (h:∀ x dx,H x=none->H dx=none->dx≠x->sp (.ref x::(vs++dvs)) (upd (upd H dx (.own x)) x (.ins C dx [])) (fun v H2=>v= .non/\Q (.ref x) H2) E):
  wpAny (model X.prog X.w) X.A (call (.ref C) us) (EP X pins σ Q) X.xe s:=by
 have hq:=h (s.heap.objs.size + 1) s.heap.objs.size (I.hok.fresh (Nat.le_succ _)) (I.hok.fresh (Nat.le_refl _)) (Nat.ne_of_lt (Nat.lt_succ_self _))
 have U:=Inv.made (C:=C) I
 have r2:Vals (V.ref (s.heap.objs.size + 1)::(vs++dvs)) (Value.ref (s.heap.objs.size + 1)::(us++ds)):= .cons rfl (r.append hd)
 have hl:(Value.ref (s.heap.objs.size + 1)::us++ds).length=ps.length:=by
  have e:=r2.length
  rw [F.len _ _ _ _ hq] at e
  exact e.symm
 refine wpAny_call (F9 (f:=f) I.kIn M.makes M.init (beq_iff_eq.mp M.fn) (codeAny_mono (F.run _ X.stack _ _ ⟨Value.ref (s.heap.objs.size + 1)::us,[]⟩ (Value.ref (s.heap.objs.size + 1)::(us++ds)) _ _ E (hr.make C us [])
  (U.env0.make C us []) (hb _ (Value.ref (s.heap.objs.size + 1)::us) U.kIn hl) r2 hq) fun r s' J=>?_))
 cases r with
 | error e=>exact hx pins σ _ _ e s' U J
 | ok fl=>
  cases fl with
  | ret u=>
   obtain⟨v,H',I3,rv,ev,q3⟩:=U.after J
   subst ev
   exact⟨rv,⟨V.ref (s.heap.objs.size + 1),H',I3,rfl,q3⟩⟩
  | next=>exact False.elim J
  | brk=>exact False.elim J
  | cont=>exact False.elim J
theorem uP(M:Mk X.K C f)(F:fx X.prog X.w X.K X.mg X.base CX k f fd ps sp)(hr:gE (k + 1) X.A)(hg:Gl X x)(hm:X.mg x=some (.ref C))(hb:Binds X.K fd ps ds)(hd:Vals dvs ds)(hx:Passes CX X E)
  (ha:PA X (e::es) t)(hdb:(x == ("__debug__":Str))=false:=by decide)(he:starEach (e::es) X.env=(false,eval e X.env)::starEach es X.env:=by rfl)(hpl:(backTo pos (starEach es X.env)).any (·.1)=false:=by rfl):
  PE X (.Call (.Name x p) (e::es) [] pos) (Ai C sp dvs E t):=by
 intro pins s σ H Q I h
 refine wpAny_Call_Name_kw (lM I hg hm ?_ hdb)
 refine W.callWith_K (h₀:=X.base) I.ok.mod.kin M.kp (fK (ha pos pins s σ H _ I h) fun us s1 ⟨vs,H1,J,r,q⟩=>⟨J.kIn,?_⟩) he hpl
 exact yR M F hr hb hd hx J r q
theorem uq(M:Mk X.K C f)(F:fx X.prog X.w X.K X.mg X.base CX k f fd ps sp)(hr:gE (k + 1) X.A)(hg:Gl X x)(hm:X.mg x=some (.ref C))(hb:Binds X.K fd ps ds)(hd:Vals dvs ds)(hx:Passes CX X E)
  (hdb:(x == ("__debug__":Str))=false:=by decide):PE X (.Call (.Name x p) [] [] pos) (Ai C sp dvs E k8):=by
 intro pins s σ H Q I h
 refine wpAny_Call_Name_kw (lM I hg hm ?_ hdb)
 exact W.callWith_K0 I.kIn M.kp (yR (us:=[]) M F hr hb hd hx I .nil h)
end
section
variable {X : Cx} {CX : jn} {k : Nat} {f C : Addr} {fd : FuncData} {ps ks : List Str} {sp : Sp} {E : XK} {x m : Str} {p pos apos kpos : Pos} {e o : Expr} {es : List Expr} {kws : List Keyword} {te ta : TE} {t tk : TA} {nm : Option Str}
variable {g : List Value -> List Value -> List Value} {gV : List V -> List V -> List V}
end
structure fU (N P : List Str) (sc : Scope) : Prop where
 kind : sc.kind = .function
 co : sc.isCoroutine = false
 gen : sc.isGenerator = false
 nd : N.Nodup
 pre : N.take P.length = P
 par : ∀ x ∈ P, sc.names.lookup x = some .local \/ sc.names.lookup x = some .cell
 nofree : ∀ y ∈ sc.names, y.2 ≠ .free
theorem wD{kindOf:Str->Option NameKind}{x:Str}:∀{binds:List (Str×Value)} {m:Str->Option Value},(∀ v,(x,v)∉binds)->bindL kindOf binds m x=m x
 | [],_,_=>rfl
 | (n,v)::r,m,h=>by
  unfold bindL
  rw [wD fun w hw=>h w (List.mem_cons_of_mem _ hw)]
  split
  ·have:x≠n:=by rintro rfl;exact h v List.mem_cons_self
   simp [this]
  ·rfl
theorem zz{kindOf:Str->Option NameKind}{x:Str}:∀{binds:List (Str×Value)} {m:Str->Option Value},(∀ v,(x,v)∉binds)->bindC kindOf binds m x=m x
 | [],_,_=>rfl
 | (n,v)::r,m,h=>by
  unfold bindC
  rw [zz fun w hw=>h w (List.mem_cons_of_mem _ hw)]
  split
  ·rfl
  ·have:x≠n:=by rintro rfl;exact h v List.mem_cons_self
   simp [this]
theorem xt{kindOf:Str->Option NameKind}{x:Str}{v:Value}:∀{P:List Str} {vs:List Value} {i:Nat} {m:Str->Option Value},P.Nodup->P[i]? =some x->vs[i]? =some v->kindOf x=some .local->
  bindL kindOf (P.zip vs) m x=some v
 | [],_,_,_,_,h,_,_=>by simp at h
 | _::_,[],_,_,_,_,h,_=>by simp at h
 | p::P,w::vs,0,m,nd,h1,h2,hk=>by
  simp at h1 h2;subst h1;subst h2
  show bindL kindOf ((p,w)::P.zip vs) m p=_
  unfold bindL
  rw [wD fun v I=>(List.nodup_cons.mp nd).1 (List.of_mem_zip I).1,if_pos hk]
  simp
 | p::P,w::vs,i + 1,m,nd,h1,h2,hk=>by
  show bindL kindOf ((p,w)::P.zip vs) m x=_
  unfold bindL
  exact xt (i:=i) (List.nodup_cons.mp nd).2 (by simpa using h1) (by simpa using h2) hk
theorem wK{kindOf:Str->Option NameKind}{x:Str}{v:Value}:∀{P:List Str} {vs:List Value} {i:Nat} {m:Str->Option Value},P.Nodup->P[i]? =some x->vs[i]? =some v->kindOf x≠some .local->
  bindC kindOf (P.zip vs) m x=some v
 | [],_,_,_,_,h,_,_=>by simp at h
 | _::_,[],_,_,_,_,h,_=>by simp at h
 | p::P,w::vs,0,m,nd,h1,h2,hk=>by
  simp at h1 h2;subst h1;subst h2
  show bindC kindOf ((p,w)::P.zip vs) m p=_
  unfold bindC
  rw [zz fun v I=>(List.nodup_cons.mp nd).1 (List.of_mem_zip I).1,if_neg hk]
  simp
 | p::P,w::vs,i + 1,m,nd,h1,h2,hk=>by
  show bindC kindOf ((p,w)::P.zip vs) m x=_
  unfold bindC
  exact wK (i:=i) (List.nodup_cons.mp nd).2 (by simpa using h1) (by simpa using h2) hk
def start(N:List Str)(vs:List V):St:=vs.map some++List.replicate (N.length - vs.length) none
def ib(CX:jn)(P:Program)(w:World)(K:W.Frag)(mg:Str->Option Value)(base:Heap)(N:List Str)(qual:Str)(scope:Scope)(f:Addr)(cd:Value)(A:Around)(outer:List Env)(s:Shared)(H:Hp)(E:XK):Cx where
 prog:=P
 w:=w
 K:=K
 mg:=mg
 base:=base
 A:=A.deeper (envOfC qual scope s.heap.objs.size f cd)
 N:=N
 s₀:=s
 H₀:=H
 env:=envOfC qual scope s.heap.objs.size f cd
 outer:=outer
 stack:=envOfC qual scope s.heap.objs.size f cd::outer
 ex:=[]
 calm:=true
 fn:=fun _=>true
 pn:=[]
 xe:=fun e s'=>wpAny (model P w) (A.deeper (envOfC qual scope s.heap.objs.size f cd)) (leaving (envOfC qual scope s.heap.objs.size f cd) e) (fun _ I=>CX outer H s E e I) (fun J I=>CX outer H s E J I) s'
theorem zx{sc:Scope}{n:Nat}{x:Str}(h:sc.names.lookup x=some .cell):∃ c,(cellsFrom n sc.names []).lookup x=some c:=by
 have q:=W.cellsFrom_some sc.names n [] (.inl h)
 exact Option.isSome_iff_exists.mp q
theorem Gy{CX:jn}{P:Program}{w:World}{K:W.Frag}{mg:Str->Option Value}{base:Heap}{N ps:List Str}{qual:Str}{scope:Scope}{f:Addr}{cd:Value}{A:Around}{outer:List Env}{s s1:Shared}{H:Hp}{E:XK}{us:List Value}{vs:List V}
  (S:fU N ps scope)(hd:A.handled=none)(e0:nG P w K mg base A outer s H)(hl:vs.length=ps.length)(r:Vals vs us)
  (x:InCallC s s.heap.objs.size (bindL (envOfC qual scope s.heap.objs.size f cd).kindOf (ps.zip us) fun _=>none) (cellsFrom (s.heap.objs.size + 1) scope.names []) (bindC (envOfC qual scope s.heap.objs.size f cd).kindOf (ps.zip us) fun _=>none) s1):
  Inv (ib CX P w K mg base N qual scope f cd A outer s H E) [] (start N vs) H s1:=by
 have aa:ps.length<=N.length:=by have:=congrArg List.length S.pre;rw [List.length_take] at this;omega
 obtain⟨h1,tk,rfl,hk⟩:=x.done
 have I:∀ b:Addr,b∉(ib CX P w K mg base N qual scope f cd A outer s H E).ex:=fun b z=>absurd (show b∈([]:List Addr) from z) (by simp)
 refine⟨⟨e0.mod,S.kind,rfl,rfl,Nat.le_refl _,fun y z c h1 h2=>?_,fun y hy=>?_,fun y c _ h=>?_,fun _=>hd,Around.frames_deeper e0.frames,.inr ⟨rfl,rfl⟩,fun b z=>absurd z (I b),e0.bs,e0.bsz,fun b _ _=>I b,fun b z=>absurd z (I b),e0.funs,e0.frf⟩,
  rfl,e0.bare,Un.kept hk,⟨_,x.toInCall.ns,fun i y v h1 h2 h3=>?_⟩,fun y c h=>⟨_,x.cell y c h⟩,e0.hok.fresh (Nat.le_refl _),fun y c h=>?_,fun p J=>absurd (show p∈([]:List (Addr×Obj)) from J) (by simp),e0.hok.kept hk,?_⟩
 ·exact name_of_addr x.apart (PySem.mem_of_lookup h1) (PySem.mem_of_lookup h2)
 ·have hy:scope.names.lookup y=some .cell\/scope.names.lookup y=some .free:=hy
  rcases hy with hy | hy
  ·exact zx hy
  ·exact absurd rfl (S.nofree _ (PySem.mem_of_lookup hy))
 ·exact Nat.le_of_lt (x.above y c (PySem.mem_of_lookup h))
 ·have hi:i < vs.length:=by
   unfold start at h2
   by_cases hi:i < vs.length
   ·exact hi
   ·rw [List.getElem?_append_right (by simpa using hi)] at h2
    rw [List.getElem?_replicate] at h2
    split at h2<;>cases h2
  have ha:vs[i]? =some v:=by
   unfold start at h2
   rw [List.getElem?_append_left (by simpa using hi),List.getElem?_map] at h2
   cases e:vs[i]? with
   | none=>rw [e] at h2;cases h2
   | some a=>rw [e] at h2;cases h2;rfl
  obtain⟨u,hu,rv⟩:=r.get ha
  have J:ps[i]? =some y:=by
   rw [<-S.pre,List.getElem?_take_of_lt (by omega)];exact h1
  have U:ps.Nodup:=by rw [<-S.pre];exact S.nd.sublist (List.take_sublist _ _)
  refine⟨u,rv,?_⟩
  rcases S.par y (List.mem_of_getElem? J) with k | k
  ·exact .inl ⟨k,xt U J hu k⟩
  ·obtain⟨c,e⟩:=zx (n:=s.heap.objs.size + 1) k
   refine .inr ⟨.inl k,c,e,?_⟩
   have q:=x.cell y c e
   rw [wK U J hu (by show scope.names.lookup y≠_;rw [k];decide)] at q
   exact q
 ·exact e0.hok.fresh (Nat.le_of_lt (x.above y c (PySem.mem_of_lookup h)))
 ·unfold start
  show _=N.length
  rw [List.length_append,List.length_map,List.length_replicate]
  omega
theorem rF{CX:jn}{P:Program}{w:World}{K:W.Frag}{mg:Str->Option Value}{base:Heap}{k:Nat}{f:Addr}{name qual:Str}{params:Arguments}{body:List Stmt}{scope:Scope}{dV kV doc pm cdv ct oc:Value}{an od:Option Addr}
  {osl:Array (Option Value)}{N ps:List Str}{sp:Sp}(lk:K.lookup f=some ⟨oc,od,.func (W.fnOf name qual params body scope dV kV doc pm an cdv ct),osl⟩)(hcd:W.codeIn K cdv qual=true)(S:fU N ps scope)
  (len:∀ vs H Q E,sp vs H Q E->vs.length=ps.length)
  (hbody:∀(A:Around) (outer:List Env) (s:Shared) (H:Hp) (vs:List V) (Q:VK) (E:XK),gE k (A.deeper (envOfC qual scope s.heap.objs.size f cdv))->sp vs H Q E->
   ∃ t,fM (ib CX P w K mg base N qual scope f cdv A outer s H E) body t/\t {nx:=fun _ H'=>Q .non H',rt:=Q} (start N vs) H):
  fx P w K mg base CX (k + 1) f (W.fnOf name qual params body scope dV kV doc pm an cdv ct) ps sp:=by
 refine⟨len,fun A outer s H args us vs Q E hr e0 hb r ab=>?_⟩
 have hl:=len _ _ _ _ ab
 have KX:K.In s.heap:=e0.mod.kin.keeps fun b o e=>(e0.bs b o e).1
 have lim:s.heap.NoLimit:=e0.mod.nolimit.keeps fun b o e=>(e0.bs b o e).1
 have aa:∀ y∈ps.zip us,scope.names.lookup y.1=some .local\/(scope.names.lookup y.1=some .cell/\((cellsFrom (s.heap.objs.size + 1) scope.names []).lookup y.1).isSome=true):=fun⟨n,v⟩ hy=>by
  rcases S.par n (List.of_mem_zip hy).1 with q | q
  ·exact .inl q
  ·exact .inr ⟨q,W.cellsFrom_some _ _ _ (.inl q)⟩
 refine codeAny_call_function hr.depth (KX _ _ lk) rfl S.co S.gen rfl (W.codeRec_of KX hcd) (hb _ _ _ _ ?_)
 refine wpAny_newFunctionEnv_cells S.kind aa fun env he s1 x=>?_
 subst he
 refine⟨lim.keeps x.toInCall.keep,codeAny_func ?_⟩
 obtain⟨t,ht,hq⟩:=hbody A outer s H vs Q E (hr.deeper _) ab
 have I:Inv (ib CX P w K mg base N qual scope f cdv A outer s H E) [] (start N vs) H s1:=Gy S hr.hd e0 hl r x
 refine wpAny_mono (ht [] s1 (start N vs) H _ I hq) (fun fl s' hs=>?_) fun e s' hs=>hs
 have fin:∀{U:St} {H':Hp} {v:V} {u:Value},Inv (ib CX P w K mg base N qual scope f cdv A outer s H E) [] U H' s'->RelV v u->Q v H'->CE outer P w H s Q u s':=
  fun{U H' v u} J rv q=>⟨v,H',J.os,J.bare,J.base,J.hok,rv,q⟩
 cases fl with
 | ret u=>
  obtain⟨v,U,H',J,rv,q⟩:=hs
  exact fin J rv q
 | next=>
  obtain⟨U,H',J,q⟩:=hs
  exact fin (v:=V.non) (u:=Value.none) J rfl q
 | brk=>
  obtain⟨_,_,_,q⟩:=hs
  exact False.elim q
 | cont=>
  obtain⟨_,_,_,q⟩:=hs
  exact False.elim q
section
variable {X : Cx} {x : Str} {p pos : Pos} {e : Expr} {es : List Expr} {t : TA} {id T : String} {r : List V -> Hp -> VK -> Prop}
def vN(r:List V->Hp->VK->Prop)(t:TA):TE:=fun σ H Q=>t σ H fun vs H1=>r vs H1 Q
theorem gn(hc:jc X (.builtin id) r)(hg:Gl X x)(hm:X.mg x=none)(hv:bootBuiltins x=some (.builtin id))(ha:PA X (e::es) t)(hn:x≠"__name__":=by decide)(hdb:(x == ("__debug__":Str))=false:=by decide)
  (he:starEach (e::es) X.env=(false,eval e X.env)::starEach es X.env:=by rfl)(hpl:(backTo pos (starEach es X.env)).any (·.1)=false:=by rfl):PE X (.Call (.Name x p) (e::es) [] pos) (vN r t):=by
 intro pins s σ H Q I h
 refine wpAny_Call_Name_kw (oB I hg hm hv ?_ hn hdb)
 exact PyProof.Rows.callWith_builtin1 (fK (ha pos pins s σ H _ I h) fun us s1 ⟨vs,H1,J,U,q1⟩=>hc pins s1 σ H1 vs us Q J U q1) he hpl
theorem mm(hc:jc X (.type T) r)(hg:Gl X x)(hm:X.mg x=none)(hv:bootBuiltins x=some (.type T))(ha:PA X (e::es) t)(hn:x≠"__name__":=by decide)(hdb:(x == ("__debug__":Str))=false:=by decide)
  (he:starEach (e::es) X.env=(false,eval e X.env)::starEach es X.env:=by rfl)(hpl:(backTo pos (starEach es X.env)).any (·.1)=false:=by rfl):PE X (.Call (.Name x p) (e::es) [] pos) (vN r t):=by
 intro pins s σ H Q I h
 refine wpAny_Call_Name_kw (oB I hg hm hv ?_ hn hdb)
 exact PyProof.Rows.callWith_type1 (fK (ha pos pins s σ H _ I h) fun us s1 ⟨vs,H1,J,U,q1⟩=>hc pins s1 σ H1 vs us Q J U q1) he hpl
end
end L2
namespace HT
open PySem PyProof.Rows
section
open PySem.SeqAt
open PySem.AutoSeq1 (wpAny_loadPart')
open PySem.MeetsSeq PySem.MeetsSeq2 PySem.MeetsSeq3
end
section
variable {prog : Program} {w : World} {A : Around} {E : Value -> Shared -> Prop} {s : Shared}
def iZ(n d:Nat):Option Int->Nat
 | none=>d
 | some v=>if v < 0 then (v + (n:Int)).toNat else min v.toNat n
theorem tX(n d:Nat):iZ n d none=d:=rfl
theorem rN(n d k:Nat):iZ n d (some (k:Int))=min k n:=by
 show(if (k:Int) < 0 then ((k:Int) + (n:Int)).toNat else min (k:Int).toNat n)=min k n
 rw [if_neg (by omega),Int.toNat_natCast]
end
end HT
namespace L2
open PySem PySem.Spec PyProof.Rows
abbrev TO:=St->Hp->(Option Int->Hp->Prop)->Prop
def PO(X:Cx)(e:Option Expr)(t:TO):Prop:=
 ∀(pins:List (Addr×Obj)) (s:Shared) (σ:St) (H:Hp) (Q:Option Int->Hp->Prop),Inv X pins σ H s->t σ H Q->
  wpAny (model X.prog X.w) X.A (evalPart e X.env) (fun u s'=>∃ o H',Inv X pins σ H' s'/\IsPart u o/\Q o H') X.xe s
def tW:TO:=fun _ H Q=>Q none H
def vt(t:TE):TO:=fun σ H Q=>t σ H fun x H1=>∃ i,x= .int i/\Q (some i) H1
section
variable {X : Cx} {e : Expr} {te : TE} {lo hi : Option Expr} {tl th : TO} {pos p2 : Pos}
theorem iD:PO X none tW:=by
 intro pins s σ H Q I h
 rw [evalPart_none]
 exact wpAny_pure ⟨none,H,I,.none,h⟩
theorem g5(h:PE X e te):PO X (some e) (vt te):=by
 intro pins s σ H Q I hw
 rw [evalPart_some]
 refine fK (h pins s σ H _ I hw) fun u s1 ⟨x,H1,J,U,q1⟩=>?_
 obtain⟨i,rfl,q⟩:=q1
 obtain⟨t,rfl⟩:=U
 exact⟨some i,H1,J,.int i t,q⟩
def tV(X:Cx)(r:V->Option Int->Option Int->Hp->VK->Prop):Prop:=
 ∀(pins:List (Addr×Obj)) (s:Shared) (σ:St) (H:Hp) (x:V) (v I J:Value) (lo hi:Option Int) (sl:Addr) (Q:VK),Inv X pins σ H s->RelV x v->s.heap.IsSliceOf sl I J .none->IsPart I lo->IsPart J hi->r x lo hi H Q->
  ∃ T id,typeLookup (.type T) "__getitem__"=pure (some (.builtin id))/\s.TypeIs v T/\wpAny (model X.prog X.w) X.A (getItem v (.ref sl)) (EP X pins σ Q) X.xe s
def uu(r:V->Option Int->Option Int->Hp->VK->Prop)(te:TE)(tl th:TO):TE:=fun σ H Q=>te σ H fun x H1=>tl σ H1 fun l H2=>th σ H2 fun u I=>r x l u I Q
theorem ig{r:V->Option Int->Option Int->Hp->VK->Prop}(hr:tV X r)(he:PE X e te)(hl:PO X lo tl)(hu:PO X hi th):PE X (.Subscript e (.Slice lo hi none p2) pos) (uu r te tl th):=by
 intro pins s σ H Q I h
 refine Subscript_ (fK (he pins s σ H _ I h) fun v s1 ⟨x,H1,I1,r1,q1⟩=>?_)
 refine wpAny_Slice (fK (hl pins s1 σ H1 _ I1 q1) fun J s2 ⟨l,H2,I2,pl,q2⟩=>fK (hu pins s2 σ H2 _ I2 q2) fun U s3 ⟨u,H3,I3,pu,q3⟩=>?_)
 rw [evalPart_none]
 refine wpAny_pure ?_
 have I4:Inv X pins σ H3 {s3 with heap:=s3.heap.push {cls:= .type "slice",data:= .fields #[J,U,.none]}}:=I3.kept (t':=s3.toks) fun b ob q=>Heap.get?_push_of_some _ q
 obtain⟨T,id,hT,ht,hg⟩:=hr pins {s3 with heap:=s3.heap.push {cls:= .type "slice",data:= .fields #[J,U,.none]}} σ H3 x v J U l u s3.heap.objs.size Q I4 r1 (Heap.IsSliceOf.new ..) pl pu q3
 show wpAny (model X.prog X.w) X.A (subscriptTail e (.Slice lo hi none p2) v (.ref s3.heap.objs.size)) (EP X pins σ Q) X.xe {s3 with heap:=s3.heap.push {cls:= .type "slice",data:= .fields #[J,U,.none]}}
 exact tail_any (ops:=[.ref s3.heap.objs.size,v]) ht hT hg (by with_unfolding_all rfl)
def jb(xs:List V)(lo hi:Option Int):List V:=(xs.drop (HT.iZ xs.length 0 lo)).take (HT.iZ xs.length xs.length hi - HT.iZ xs.length 0 lo)
theorem Hm(xs:List V)(lo hi:Option Int):(jb xs lo hi).length<=xs.length:=by
 unfold jb
 rw [List.length_take,List.length_drop]
 omega
end
def jI(n:Nat)(i:Int):Option Nat:=if 0<=i then (if i < n then some i.toNat else none) else if -(n:Int)<=i then some (i + n).toNat else none
def jv{α:Type}(xs:List α)(i:Int):Option α:=(jI xs.length i).bind fun j=>xs[j]?
theorem zb{n:Nat}{i:Int}{j:Nat}(h:jI n i=some j):seqIndex? i n=some j/\j < n/\ -(n:Int)<=i/\i < n:=by
 unfold jI at h
 by_cases h0:0<=i
 ·rw [if_pos h0] at h
  by_cases h1:i < n
  ·rw [if_pos h1] at h
   have e:i.toNat=j:=Option.some.inj h
   exact⟨by rw [seqIndex_of h0 h1,e],by omega,by omega,h1⟩
  ·rw [if_neg h1] at h;cases h
 ·rw [if_neg h0] at h
  by_cases h1: -(n:Int)<=i
  ·rw [if_pos h1] at h
   have e:(i + n).toNat=j:=Option.some.inj h
   exact⟨by rw [seqIndex_neg (by omega) h1,e],by omega,h1,by omega⟩
  ·rw [if_neg h1] at h;cases h
theorem uM{α:Type}{xs:List α}{i:Int}{v:α}(h:jv xs i=some v):∃ j,seqIndex? i xs.length=some j/\xs[j]? =some v/\j < xs.length/\ -(xs.length:Int)<=i/\i < xs.length:=by
 unfold jv at h
 cases e:jI xs.length i with
 | none=>rw [e] at h;cases h
 | some j=>
  rw [e] at h
  obtain⟨h1,h2,I,J⟩:=zb e
  exact⟨j,h1,h,h2,I,J⟩
theorem gR{α:Type}{xs:List α}{j:Nat}{v:α}(h:xs[j]? =some v):jv xs (j:Int)=some v:=by
 have I:j < xs.length:=(List.getElem?_eq_some_iff.mp h).1
 have e:jI xs.length (j:Int)=some j:=by
  unfold jI
  rw [if_pos (by omega),if_pos (by omega)];simp
 unfold jv;rw [e];exact h
def CS(b:Expr):Prop:=∀ o i,subscripted b false o i=operate [o,i] (getItem o i)
def qp(X:Cx)(r:R2):Prop:=
 ∀(value slice:Expr) (pins:List (Addr×Obj)) (s:Shared) (σ:St) (H:Hp) (x y:V) (v u:Value) (Q:VK),Inv X pins σ H s->RelV x v->RelV y u->r x y H Q->
  subscripted slice false v u=operate [v,u] (getItem v u)->wpAny (model X.prog X.w) X.A (subscriptTail value slice v u) (EP X pins σ Q) X.xe s
def j5(X:Cx)(id:String)(r:V->List V->Hp->VK->Prop):Prop:=
 ∀(pins:List (Addr×Obj)) (s:Shared) (σ:St) (H:Hp) (x:V) (xs:List V) (v:Value) (us:List Value) (Q:VK),Inv X pins σ H s->RelV x v->Vals xs us->r x xs H Q->
  wpAny (model X.prog X.w) X.A (call (.builtin id) (v::us)) (EP X pins σ Q) X.xe s
section
variable {X : Cx} {a b : Expr} {ta tb : TE} {pos : Pos}
theorem gA{r:R2}(hr:qp X r)(ha:PE X a ta)(hb:PE X b tb)(hs:CS b):PE X (.Subscript a b pos) (oK r ta tb):=by
 intro pins s σ H Q I h
 exact Subscript_ (vZ ha hb I h fun v u s2 x y H2 J U ry q=>hr a b pins s2 σ H2 x y v u Q J U ry q (hs _ _))
def E9(K:W.Frag):R2:=fun x y H Q=>∃ p xs i v,x= .ref p/\y= .int i/\fj K H p xs/\jv xs i=some v/\Q v H
def xN(K:W.Frag):R2:=fun x y H Q=>∃ p xs i v,x= .ref p/\y= .int i/\gb K H p xs/\jv xs i=some v/\Q v H
def Bd:R2:=fun x y H Q=>∃ z i c,x= .str z/\y= .int i/\z.length<=sizeLine/\jv z.cps.toList i=some c/\Q (.str ⟨#[c]⟩) H
theorem g6:qp X (E9 X.K):=by
 intro value slice pins s σ H x y v u Q I rx ry h hs
 obtain⟨p,xs,i,z,rfl,rfl,hq,he,q⟩:=h
 cases rx
 obtain⟨t,rfl⟩:=ry
 obtain⟨J,r,pl,hz⟩:=I.list hq
 obtain⟨j,h1,h2,h3,h4,h5⟩:=uM he
 obtain⟨w,ew,U⟩:=r.get h2
 have hl:=r.length
 have hn:=oQ
 have fin:EP X pins σ Q w s:=⟨z,H,I,U,q⟩
 by_cases h0:0<=i
 ·have hj:i.toNat=j:=by
   rw [seqIndex_of h0 h5] at h1
   exact Option.some.inj h1
  exact item_listR pl.isList h0 (by omega) (by rw [hj];simpa using ew) fin hs
 ·have hj:(i + (J.toArray.size:Int)).toNat=j:=by
   rw [seqIndex_neg (by omega) h4] at h1
   rw [List.size_toArray,<-hl]
   exact Option.some.inj h1
  exact subscriptTail_builtinR (x:=w) pl.isList.typeIs slot_list_getitem.lookup
   (wpAny_getItem_list_neg (Q:=fun r s'=>r=w/\EP X pins σ Q r s') pl.isList (by omega) (by rw [List.size_toArray]<;>omega) (by omega) (by rw [hj];simpa using ew) ⟨rfl,fin⟩) hs
theorem kR:qp X (xN X.K):=by
 intro value slice pins s σ H x y v u Q I U ry h hs
 obtain⟨p,xs,i,z,rfl,rfl,hq,he,q⟩:=h
 cases U
 obtain⟨t,rfl⟩:=ry
 obtain⟨aa,r,pl,hz⟩:=I.tuple hq
 obtain⟨j,h1,h2,h3,h4,h5⟩:=uM he
 obtain⟨w,ew,J⟩:=r.get h2
 have hl:=r.length
 have hn:=oQ
 have fin:EP X pins σ Q w s:=⟨z,H,I,J,q⟩
 exact subscriptTail_builtinR (x:=w) pl.typeIs slot_tuple_getitem.lookup
  (getItem_tuple (j:=j) (Q:=fun r s'=>r=w/\EP X pins σ Q r s') pl (by omega) (by omega) (by rw [List.size_toArray,<-hl];exact h1) (by simpa using ew) ⟨rfl,fin⟩) hs
theorem rS:qp X Bd:=by
 intro value slice pins s σ H x y v u Q I J U h hs
 obtain⟨z,i,c,rfl,rfl,hz,he,q⟩:=h
 obtain⟨t,rfl⟩:=J
 obtain⟨t',rfl⟩:=U
 obtain⟨j,h1,h2,h3,h4,h5⟩:=uM he
 have hl:z.cps.toList.length=z.length:=by simp [Str.length]
 rw [hl] at h1 h4 h5
 have hn:=oQ
 exact tail_any (typeIs_str s z t) slot_str_getitem.lookup (getItem_str (c:=c) (by
  have e1:decide (i < -(2 ^ 63:Int))=false:=decide_eq_false (by omega)
  have e2:decide (i ≥ 2 ^ 63)=false:=decide_eq_false (by omega)
  rw [e1,e2,Bool.or_false]) (by rw [h1];simpa using h2) ⟨.str ⟨#[c]⟩,H,I.tok _,⟨_,rfl⟩,q⟩) hs
theorem Fw(its:List Value)(n j:Nat)(u:Value):Obj.mapSeq (·.setIfInBounds j u) {cls:= .type "list",data:= .seq its.toArray n}={cls:= .type "list",data:= .seq (its.set j u).toArray n}:=by
 simp [Obj.mapSeq]
theorem Inv.lst {pins:List (Addr×Obj)}{σ:St}{H:Hp}{s:Shared}{p:Addr}{xs:List V}(I:Inv X pins σ H s)(h:H p=some (.lst xs)):
  ∃(its:List Value) (n:Nat),Vals xs its/\s.heap.get? p=some {cls:= .type "list",data:= .seq its.toArray n}/\xs.length<=sizeLine:=by
 obtain⟨z,its,n,r,e⟩:=I.hok p _ h
 exact⟨its,n,r,e,z⟩
theorem Inv.lstUpd {pins:List (Addr×Obj)}{σ:St}{H:Hp}{s:Shared}{p:Addr}{xs ys:List V}{its its':List Value}{n n':Nat}{f:Obj->Obj}(I:Inv X pins σ H s)(h:H p=some (.lst xs))
  (ho:s.heap.get? p=some {cls:= .type "list",data:= .seq its.toArray n})(hf:f {cls:= .type "list",data:= .seq its.toArray n}={cls:= .type "list",data:= .seq its'.toArray n'})(r:Vals ys its')(hz:ys.length<=sizeLine)(t:Nat):
  Inv X pins σ (upd H p (.lst ys)) {s with heap:=s.heap.update p f,toks:=t}:=by
 have e:(s.heap.update p f).get? p=some {cls:= .type "list",data:= .seq its'.toArray n'}:=by
  rw [Heap.get?_update_self f ho (by rw [hf]<;>rfl),hf]
 refine I.write (x:=p) (e:=p) (by rw [h];trivial) (.inl rfl) (fun b u hb q=>(Heap.get?_update_other _ _ (Ne.symm hb)).trans q) ⟨_,e⟩ ?_
 exact⟨hz,its',n',r,e⟩
def B8:V->V->V->Hp->(Hp->Prop)->Prop:=fun o i v H Q=>∃ p xs k j,o= .ref p/\i= .int k/\H p=some (.lst xs)/\jI xs.length k=some j/\Q (upd H p (.lst (xs.set j v)))
theorem set_list:Ao X B8:=by
 intro pins s σ H o i v ov iv u Q I ro ri rv h
 obtain⟨p,xs,k,j,rfl,rfl,hp,hj,q⟩:=h
 cases ro
 obtain⟨t,rfl⟩:=ri
 obtain⟨J,n,r,U,hz⟩:=I.lst hp
 obtain⟨h1,h2,h3,h4⟩:=zb hj
 have hl:=r.length
 have hn:=oQ
 have I':Inv X pins σ (upd H p (.lst (xs.set j v))) {s with heap:=s.heap.update p (Obj.mapSeq (·.setIfInBounds j u))}:=
  I.lstUpd hp U (Fw J n j u) (r.set rv j) (by rw [List.length_set];exact hz) s.toks
 by_cases h0:0<=k
 ·have hk:k.toNat=j:=by
   rw [seqIndex_of h0 h4] at h1
   exact Option.some.inj h1
  exact W.ki_setAt U h0 (by omega) (by rw [List.size_toArray,<-hl];exact h4) (by rw [hk];exact⟨_,I',q⟩)
 ·have hk:(k + (J.toArray.size:Int)).toNat=j:=by
   rw [seqIndex_neg (by omega) h3] at h1
   rw [List.size_toArray,<-hl]
   exact Option.some.inj h1
  exact W.ki_setBack U (by omega) (by rw [List.size_toArray,<-hl];exact h3) (by omega) (by rw [hk];exact⟨_,I',q⟩)
theorem Dc(lo hi:Option Int)(n:Nat):(sliceBounds lo hi none n).1=((HT.iZ n 0 lo:Nat):Int)/\(sliceBounds lo hi none n).2.1=((HT.iZ n n hi:Nat):Int)/\(sliceBounds lo hi none n).2.2=1:=by
 refine⟨?_,?_,rfl⟩
 ·cases lo with
  | none=>simp [sliceBounds,HT.iZ]
  | some i=>
   simp only [sliceBounds,HT.iZ,Option.getD_none,show(1:Int) > 0 by decide,if_true]
   by_cases h:i < 0
   ·simp only [h,if_true]<;>omega
   ·simp only [h,if_false]<;>omega
 ·cases hi with
  | none=>simp [sliceBounds,HT.iZ]
  | some i=>
   simp only [sliceBounds,HT.iZ,Option.getD_none,show(1:Int) > 0 by decide,if_true]
   by_cases h:i < 0
   ·simp only [h,if_true]<;>omega
   ·simp only [h,if_false]<;>omega
theorem DY(its:List Value)(lo hi:Option Int):slicePick its.toArray lo hi none=((its.drop (HT.iZ its.length 0 lo)).take (HT.iZ its.length its.length hi - HT.iZ its.length 0 lo)).toArray:=by
 obtain⟨h1,h2,I⟩:=Dc lo hi its.toArray.size
 unfold slicePick
 rw [h1,h2,I]
 simp only [sliceRange_one,pick_run,List.size_toArray]<;>rfl
def vG(K:W.Frag):V->Option Int->Option Int->Hp->VK->Prop:=fun x lo hi H Q=>∃ a xs,x= .ref a/\fj K H a xs/\∀ p,H p=none->Q (.ref p) (upd H p (.lst (jb xs lo hi)))
theorem jK:tV X (vG X.K):=by
 intro pins s σ H x v vl vu lo hi sl Q I J hs pl pu h
 obtain⟨a,xs,rfl,U,q⟩:=h
 cases J
 obtain⟨aa,r,ht,hz⟩:=I.list U
 have hlen:=r.length
 refine⟨"list",_,slot_list_getitem.lookup,ht.isList.typeIs,?_⟩
 refine wpAny_getItem_list_slice ht.isList hs pl pu .none (by simp) ?_ (by rw [List.size_toArray]<;>omega)
 rw [DY,<-hlen]
 refine⟨.ref s.heap.objs.size,_,I.laid (t':=s.toks) (o:= .lst (jb xs lo hi)) (fun b ob q=>Heap.get?_push_of_some _ q) (Nat.le_refl _) ?_,rfl,q _ (I.hok.fresh (Nat.le_refl _))⟩
 exact⟨Nat.le_trans (Hm xs lo hi) hz,_,0,(r.drop (HT.iZ xs.length 0 lo)).take (HT.iZ xs.length xs.length hi - HT.iZ xs.length 0 lo),Heap.get?_push_size _ rfl⟩
theorem AW:g7 X (compareOp .NotIn) (fun x y H Q=>∃ i j,x= .str i/\y= .str j/\Q (.bl (!(!(Builtin.Str.occurrences j i 0 j.length 1).isEmpty))) H):=by
 intro pins s σ H x y v u Q I J U h
 obtain⟨i,j,rfl,rfl,q⟩:=h
 obtain⟨t,rfl⟩:=J
 obtain⟨t',rfl⟩:=U
 exact notIn_str ⟨.bl _,H,I,rfl,q⟩
theorem iE:jc X (.builtin "len") (fun xs H Q=>∃ p ys,xs=[.ref p]/\(fj X.K H p ys\/gb X.K H p ys)/\Q (.int ys.length) H):=by
 intro pins s σ H xs us Q I r h
 obtain⟨p,ys,rfl,hq,q⟩:=h
 obtain⟨u,rfl,rx⟩:=vals1 r
 cases rx
 have hn:=oQ
 rcases hq with hq | hq
 ·obtain⟨J,U,pl,hz⟩:=I.list hq
  have hlen:=U.length
  exact Calls.call_len_list pl.isList (by simp only [List.size_toArray]<;>omega) ⟨.int ys.length,H,I.tok _,⟨s.toks + 1,by rw [List.size_toArray,hlen]⟩,q⟩
 ·obtain⟨J,U,pl,hz⟩:=I.tuple hq
  have hlen:=U.length
  exact len_tuple pl (by simp only [List.size_toArray]<;>omega) ⟨.int ys.length,H,I.tok _,⟨s.toks + 1,by rw [List.size_toArray,hlen]⟩,q⟩
theorem vb:jc X (.builtin "len") (fun xs H Q=>∃ z,xs=[.str z]/\z.length<=sizeLine/\Q (.int z.length) H):=by
 intro pins s σ H xs us Q I r h
 obtain⟨z,rfl,J,q⟩:=h
 obtain⟨u,rfl,t,rfl⟩:=vals1 r
 have hn:=oQ
 exact len_str (by omega) ⟨.int z.length,H,I.tok _,⟨_,rfl⟩,q⟩
theorem pS:jc X (.type "list") (fun xs H Q=>∃ p ys,xs=[.ref p]/\(fj X.K H p ys\/gb X.K H p ys)/\∀ l,H l=none->Q (.ref l) (upd H l (.lst ys))):=by
 intro pins s σ H xs us Q I r h
 obtain⟨p,ys,rfl,hq,q⟩:=h
 obtain⟨u,rfl,rx⟩:=vals1 r
 cases rx
 have fin:∀(J:List Value),Vals ys J->ys.length<=sizeLine->∀(h':Heap) (U:Nat),(∀ b o',s.heap.get? b=some o'->h'.get? b=some o')->
   h'.get? s.heap.objs.size=some {cls:= .type "list",dict:=none,data:= .seq J.toArray U,slots:=#[]}->EP X pins σ Q (.ref s.heap.objs.size) {s with heap:=h'}:=fun J r' hz h' U kp e=>
  ⟨.ref s.heap.objs.size,_,I.laid (t':=s.toks) kp (Nat.le_refl _) (show gI X.prog X.w _ h' _ (.lst ys) from⟨hz,J,U,r',e⟩),rfl,q _ (I.hok.fresh (Nat.le_refl _))⟩
 rcases hq with hq | hq
 ·obtain⟨J,r',pl,hz⟩:=I.list hq
  have hlen:=r'.length
  obtain⟨o,ho,hc,n,hd⟩:=pl.isList
  exact call_list_seq p (.inl rfl) ho hc hd (fun h' U kp e=>fin J r' hz h' U kp e) (by simp only [List.size_toArray]<;>omega)
 ·obtain⟨J,r',pl,hz⟩:=I.tuple hq
  have hlen:=r'.length
  obtain⟨o,ho,hc,n,hd⟩:=pl
  exact call_list_seq p (.inr rfl) ho hc hd (fun h' U kp e=>fin J r' hz h' U kp e) (by simp only [List.size_toArray]<;>omega)
theorem xl:jc X (.type "tuple") (fun xs H Q=>∃ p ys,xs=[.ref p]/\((fj X.K H p ys/\∀ l,H l=none->Q (.ref l) (upd H l (.tup ys)))\/(gb X.K H p ys/\Q (.ref p) H))):=by
 intro pins s σ H xs us Q I r h
 obtain⟨p,ys,rfl,h⟩:=h
 obtain⟨u,rfl,rx⟩:=vals1 r
 cases rx
 rcases h with ⟨U,q⟩ | ⟨U,q⟩
 ·obtain⟨J,r',pl,hz⟩:=I.list U
  have hlen:=r'.length
  refine call_tuple_list pl.isList (fun h' kp=>?_) (by simp only [List.size_toArray]<;>omega)
  have I1:Inv X pins σ H {s with heap:=h'}:=I.kept (t':=s.toks) kp
  have I2:Inv X pins σ (upd H h'.objs.size (.tup ys)) {s with heap:=h'.push {cls:= .type "tuple",data:= .seq J.toArray}}:=
   I1.laid (t':=s.toks) (fun b o e=>Heap.get?_push_of_some _ e) (Nat.le_refl _) (show gI X.prog X.w _ _ _ (.tup ys) from⟨hz,J,r',IsTup.new _ _⟩)
  exact⟨.ref h'.objs.size,_,I2,rfl,q _ (I1.hok.fresh (Nat.le_refl _))⟩
 ·obtain⟨J,r',pl,hz⟩:=I.tuple U
  exact call_tuple_same pl ⟨.ref p,H,I,rfl,q⟩
def rz(K:W.Frag)(T:String)(x:V)(H:Hp):Prop:=match x with
 | .str _=>T="str"
 | .int _=>T="int"
 | .ref p=>(T="list"/\∃ xs,fj K H p xs)\/(T="tuple"/\∃ o,K.lookup p=some o/\o.cls= .type "tuple"/\o.dict=none)\/
   (T="dict"/\((∃ kvs,H p=some (.dK kvs))\/∃ kvs,H p=some (.dT kvs)))\/(T="set"/\∃ S n,H p=some (.set S n))
 | _=>False
theorem w5{pins:List (Addr×Obj)}{σ:St}{H:Hp}{s:Shared}{T:String}{x:V}{v:Value}(I:Inv X pins σ H s)(r:RelV x v)(ty:rz X.K T x H):
  s.TypeIs v T/\∀ a,v= .ref a->∃ ob,s.heap.get? a=some ob/\ob.dict=none:=by
 cases x with
 | str z=>
  obtain⟨t,rfl⟩:=r
  cases (show T="str" from ty)
  exact⟨typeIs_str s z t,fun _ e=>nomatch e⟩
 | int i=>
  obtain⟨t,rfl⟩:=r
  cases (show T="int" from ty)
  exact⟨typeIs_int s i t,fun _ e=>nomatch e⟩
 | ref p=>
  cases r
  rcases ty with ⟨rfl,xs,U⟩ | ⟨rfl,o,hk,hc,hd⟩ | ⟨rfl,hk⟩ | ⟨rfl,S,n,hk⟩
  ·obtain⟨aa,_,pl,_⟩:=I.list U
   refine⟨pl.isList.typeIs,fun a e=>?_⟩
   cases e
   obtain⟨o,n,e,c,hd,_⟩:=pl
   exact⟨o,e,hd⟩
  ·refine⟨⟨o,I.kIn p o hk,hc⟩,fun a e=>?_⟩
   cases e
   exact⟨o,I.kIn _ o hk,hd⟩
  ·have z:∃ o,s.heap.get? p=some o/\o.ExactDict:=by
    rcases hk with ⟨kvs,hk⟩ | ⟨kvs,hk⟩
    ·obtain⟨_,_,_,_,o,_,_,e,ex,_⟩:=I.hok p _ hk
     exact⟨o,e,ex⟩
    ·obtain⟨_,_,_,_,o,_,_,e,ex,_⟩:=I.hok p _ hk
     exact⟨o,e,ex⟩
   obtain⟨o,e,ex⟩:=z
   refine⟨⟨o,e,ex.1⟩,fun a J=>?_⟩
   cases J
   exact⟨o,e,ex.2.1⟩
  ·obtain⟨o,_,_,_,e,ex,_⟩:=I.hok p _ hk
   refine⟨⟨o,e,ex.1⟩,fun a J=>?_⟩
   cases J
   exact⟨o,e,ex.2.1⟩
 | _=>exact False.elim ty
def IF(K:W.Frag)(T:String)(r:V->List V->Hp->VK->Prop)(to:TE):TE:=fun σ H Q=>to σ H fun x H1=>rz K T x H1/\r x [] H1 Q
def vQ(K:W.Frag)(T:String)(r:V->List V->Hp->VK->Prop)(to:TE)(t:TA):TE:=fun σ H Q=>to σ H fun x H1=>rz K T x H1/\t σ H1 fun xs H2=>r x xs H2 Q
variable {o e : Expr} {es : List Expr} {to : TE} {t : TA} {name : Str} {apos cpos : Pos} {T id : String} {r : V -> List V -> Hp -> VK -> Prop}
theorem qA(pa:PlainAttrs T)(slot:Slot T name id)(hty:typeOf (.builtin id)=pure (.type "method_descriptor"))(hm:j5 X id r)(ho:PE X o to)
  (hbase:attributeBase o name X.env (eval o X.env)=eval o X.env:=by rfl)(hline:(apos.endLine == cpos.line)=true:=by rfl):PE X (.Call (.Attribute o name apos) [] [] cpos) (IF X.K T r to):=by
 intro pins s σ H Q I h
 refine wpAny_Call_method0_late hbase hline (fK (ho pins s σ H _ I h) fun v s1 ⟨x,H1,J,U,ty,q1⟩=>?_)
 obtain⟨h1,h2⟩:=w5 J U ty
 exact⟨T,id,pa,slot,hty,h1,h2,Calls.callWith_builtin rfl (PySem.evalArgs_none (hm pins s1 σ H1 x [] v [] Q J U .nil q1))⟩
theorem gQ(pa:PlainAttrs T)(slot:Slot T name id)(hty:typeOf (.builtin id)=pure (.type "method_descriptor"))(hm:j5 X id r)(ho:PE X o to)(ha:PA X (e::es) t)
  (hbase:attributeBase o name X.env (eval o X.env)=eval o X.env:=by rfl)
  (hfew:((backTo cpos (starEach (e::es) X.env)).all (fun x=> !x.1) && (backToKw cpos (keywordEach [] X.env)).all (fun x=>x.1.isSome)
   && decide ((e::es).length + ([]:List Keyword).length + (if ([]:List Keyword).isEmpty then 0 else 1) < 30))=true:=by rfl)
  (hline:(apos.endLine == cpos.line)=true:=by rfl)(hs:starEach (e::es) X.env=(false,eval e X.env)::starEach es X.env:=by rfl)(hplain:(backTo cpos (starEach es X.env)).any (·.1)=false:=by rfl):
  PE X (.Call (.Attribute o name apos) (e::es) [] cpos) (vQ X.K T r to t):=by
 intro pins s σ H Q I h
 refine wpAny_Call_method_late hbase hfew hline rfl (fK (ho pins s σ H _ I h) fun v s1 ⟨x,H1,J,U,ty,q1⟩=>?_)
 obtain⟨h1,h2⟩:=w5 J U ty
 refine⟨T,id,pa,slot,hty,h1,h2,?_⟩
 have hA:=ha cpos pins s1 σ H1 _ J q1
 rw [hs] at hA ⊢
 refine Calls.callWith_builtin (by show(false || (backTo cpos (starEach es X.env)).any (·.1))=false;rw [hplain]<;>rfl) (Calls.evalArgs_plain ?_)
 exact fK hA fun us s2 ⟨vs,H2,I2,r2,q2⟩=>hm pins s2 σ H2 x vs v us Q I2 U r2 q2
end
def qy(X:Cx)(id:String)(r:V->List V->Hp->VK->Prop):Prop:=
 ∀(pins:List (Addr×Obj)) (s:Shared) (σ:St) (H:Hp) (x:V) (xs:List V) (v:Value) (us:List Value) (Q:VK),Inv X pins σ H s->RelV x v->Vals xs us->r x xs H Q->
  wpAny (model X.prog X.w) X.A (call (.builtin id) (v::us)) (EP X pins σ Q) X.xe s
theorem Vals.one:∀{x:V} {us:List Value},Vals [x] us->∃ u,us=[u]/\RelV x u
 | _,_,.cons r .nil=>⟨_,rfl,r⟩
theorem Vals.two:∀{x y:V} {us:List Value},Vals [x,y] us->∃ u v,us=[u,v]/\RelV x u/\RelV y v
 | _,_,_,.cons r (.cons q .nil)=>⟨_,_,rfl,r,q⟩
theorem Vals.zero:∀{us:List Value},Vals [] us->us=[]
 | _,.nil=>rfl
theorem Vals.rep {xs:List V}{us:List Value}(h:Vals xs us):∀ k:Nat,Vals (List.replicate k xs).flatten (List.replicate k us).flatten
 | 0=> .nil
 | k + 1=>by
  rw [List.replicate_succ,List.replicate_succ,List.flatten_cons,List.flatten_cons]
  exact Vals.append h (Vals.rep h k)
theorem foldl_rep(its:List Value):∀(k:Nat) (acc:List Value),
  List.foldl (fun x1 x2=>x1++x2) acc.toArray (List.replicate k its.toArray)=(acc++(List.replicate k its).flatten).toArray
 | 0,acc=>by simp
 | k + 1,acc=>by
  have e:acc.toArray++its.toArray=(acc++its).toArray:=by simp
  have I:(acc++its)++(List.replicate k its).flatten=acc++(List.replicate (k + 1) its).flatten:=by
   rw [List.replicate_succ,List.flatten_cons,List.append_assoc]
  rw [<-I,<-foldl_rep its k (acc++its),<-e,List.replicate_succ,List.foldl_cons]
section
variable {X : Cx} {pins : List (Addr × Obj)} {σ : St} {H : Hp} {s : Shared} {l b : Addr} {xs ys zs : List V}
theorem Inv.lset {its its':List Value}{n:Nat}{f:Array Value->Array Value}{t':Nat}(I:Inv X pins σ H s)(hH:H l=some (.lst xs))
  (e:s.heap.get? l=some {cls:= .type "list",data:= .seq its.toArray n})(hf:f its.toArray=its'.toArray)(hv:Vals ys its')(hz:ys.length<=sizeLine):
  Inv X pins σ (upd H l (.lst ys)) {s with heap:=s.heap.update l (Obj.mapSeq f),toks:=t'}:=by
 have q:=PySem.IsL.update e f
 rw [hf] at q
 refine I.write (x:=l) (e:=l) (by rw [hH];exact trivial) (.inl rfl) (fun U u hb J=>(Heap.get?_update_other s.heap (Obj.mapSeq f) (Ne.symm hb)).trans J) ⟨_,q⟩ ?_
 exact⟨hz,its',_,hv,q⟩
theorem Inv.lnew {its:List Value}{t':Nat}(I:Inv X pins σ H s)(hv:Vals ys its)(hz:ys.length<=sizeLine):
  Inv X pins σ (upd H s.heap.objs.size (.lst ys)) {s with heap:=s.heap.push {cls:= .type "list",data:= .seq its.toArray},toks:=t'}:=
 I.laid (fun _ _ q=>Heap.get?_push_of_some _ q) (Nat.le_refl _) ⟨hz,its,0,hv,Heap.get?_push_size _ rfl⟩
theorem Inv.fresh (I:Inv X pins σ H s):H s.heap.objs.size=none:=I.hok.fresh (Nat.le_refl _)
theorem Inv.lstM (I:Inv X pins σ H s)(hH:H l=some (.lst xs)):xs.length<=sizeLine/\∃(its:List Value) (n:Nat),Vals xs its/\xs.length=its.length/\s.heap.get? l=some {cls:= .type "list",data:= .seq its.toArray n}:=by
 obtain⟨z,its,n,r,e⟩:=I.hok l _ hH
 exact⟨z,its,n,r,r.length,e⟩
theorem wG{n:Nat}(h:n<=sizeLine):Builtin.List.listTooLong n=false:=by
 unfold Builtin.List.listTooLong
 exact decide_eq_false (by omega)
end
section
variable {X : Cx}
def EB:V->List V->Hp->VK->Prop:=fun x vs H Q=>∃ l xs y,x= .ref l/\vs=[y]/\H l=some (.lst xs)/\xs.length < sizeLine/\Q .non (upd H l (.lst (xs++[y])))
theorem iO:qy X "list.append" EB:=by
 intro pins s σ H x vs v us Q I rx rv h
 obtain⟨l,xs,y,rfl,rfl,U,hz,q⟩:=h
 cases rx
 obtain⟨u,rfl,ru⟩:=rv.one
 obtain⟨z,J,n,r,hl,e⟩:=I.lstM U
 refine call_meets F.slot_list_append ⟨_,e,rfl⟩ F.entry_list_append (F.args_list_append_2 _ _) (PySem.list_append l J.toArray n u (by rw [List.size_toArray];omega)) ⟨e,?_⟩
 refine⟨.non,_,I.lset (its':=J++[u]) U e (by simp) (r.append (.cons ru .nil)) ?_,rfl,q⟩
 rw [List.length_append,List.length_singleton]
 omega
def Cn:V->List V->Hp->VK->Prop:=fun x vs H Q=>∃ l b xs zs,x= .ref l/\vs=[.ref b]/\H l=some (.lst xs)/\H b=some (.lst zs)/\xs.length + zs.length<=sizeLine/\Q .non (upd H l (.lst (xs++zs)))
theorem qv:qy X "list.extend" Cn:=by
 intro pins s σ H x vs v us Q I rx rv h
 obtain⟨l,b,xs,zs,rfl,rfl,hH,hB,hz,q⟩:=h
 cases rx
 obtain⟨u,rfl,ru⟩:=rv.one
 cases ru
 obtain⟨z,U,n,r,hl,e⟩:=I.lstM hH
 obtain⟨z2,J,n2,r2,ab,e2⟩:=I.lstM hB
 have hsz:U.toArray.size + J.toArray.size<=sizeLine:=by rw [List.size_toArray,List.size_toArray];omega
 have aa:¬ (!U.toArray.isEmpty && Builtin.List.listTooLong (U.toArray.size + J.toArray.size))=true:=by
  rw [wG hsz,Bool.and_false]
  exact Bool.false_ne_true
 refine call_meets F.slot_list_extend ⟨_,e,rfl⟩ F.entry_list_extend (F.args_list_extend_2 _ _)
  (AutoSeq1.list_extend_list_list_0 l U.toArray n b J.toArray n2 aa (by rw [List.size_toArray];omega) (by omega)) ⟨e,e2,?_⟩
 refine⟨.non,_,I.lset (its':=U++J) hH e (by simp) (r.append r2) ?_,rfl,q⟩
 rw [List.length_append]
 omega
def CI:V->List V->Hp->VK->Prop:=fun x vs H Q=>∃ l xs,x= .ref l/\vs=[]/\H l=some (.lst xs)/\Q .non (upd H l (.lst []))
theorem IX:qy X "list.clear" CI:=by
 intro pins s σ H x vs v us Q I rx rv h
 obtain⟨l,xs,rfl,rfl,hH,q⟩:=h
 cases rx
 have J:=rv.zero
 subst J
 obtain⟨z,U,n,r,hl,e⟩:=I.lstM hH
 refine call_meets F.slot_list_clear ⟨_,e,rfl⟩ F.entry_list_clear (F.args_list_clear_1 _) (AutoSeq1.list_clear_list_0 l U.toArray n (by rw [List.size_toArray];omega)) ⟨e,?_⟩
 exact⟨.non,_,I.lset (its':=[]) (ys:=[]) hH e rfl .nil (Nat.zero_le _),rfl,q⟩
def tO:R2:=fun x y H Q=>∃ l b xs zs,x= .ref l/\y= .ref b/\H l=some (.lst xs)/\H b=some (.lst zs)/\xs.length + zs.length<=sizeLine/\∀ p,H p=none->Q (.ref p) (upd H p (.lst (xs++zs)))
theorem oT:g7 X (binaryOp .Add) tO:=by
 intro pins s σ H x y v u Q I rx ry h
 obtain⟨l,b,xs,zs,rfl,rfl,hH,hB,hz,q⟩:=h
 cases rx
 cases ry
 obtain⟨z,U,n,r,hl,e⟩:=I.lstM hH
 obtain⟨z2,J,n2,r2,aa,e2⟩:=I.lstM hB
 refine PySem.P.add_list e e2 ?_ (by rw [List.size_toArray,List.size_toArray];omega)
 have ea:U.toArray++J.toArray=(U++J).toArray:=by simp
 rw [ea]
 exact⟨.ref _,_,I.lnew (t':=s.toks) (r.append r2) (by rw [List.length_append];omega),rfl,q _ I.fresh⟩
def Dx:R2:=fun x y H Q=>∃ l k xs,x= .ref l/\y= .int k/\H l=some (.lst xs)/\ -(2 ^ 63)<=k/\k < 2 ^ 63/\xs.length * k.toNat<=sizeLine/\
 ∀ p,H p=none->Q (.ref p) (upd H p (.lst (List.replicate k.toNat xs).flatten))
theorem len_rep{α:Type}(xs:List α)(k:Nat):(List.replicate k xs).flatten.length=k * xs.length:=by
 induction k with
 | zero=>simp
 | succ k I=>rw [List.replicate_succ,List.flatten_cons,List.length_append,I,Nat.succ_mul,Nat.add_comm]
theorem AE:g7 X (binaryOp .Mult) Dx:=by
 intro pins s σ H x y v u Q I rx ry h
 obtain⟨l,k,xs,rfl,rfl,hH,h1,h2,hz,q⟩:=h
 cases rx
 obtain⟨t,rfl⟩:=ry
 obtain⟨z,J,n,r,hl,e⟩:=I.lstM hH
 have hlen:J.toArray.size * k.toNat<=sizeLine:=by rw [List.size_toArray,<-hl];exact hz
 have ab:¬ J.toArray.size * k.toNat > (2 ^ 63 - 1) / 8:=by
  have:(sizeLine:Nat)<=(2 ^ 63 - 1) / 8:=by decide
  omega
 have ae:¬ (!Builtin.List.listFitsIndex k)=true:=by
  rw [fitsIndex_both h1 h2]
  exact Bool.false_ne_true
 have aa:¬ Builtin.List.listTooLong (J.toArray.size * k.toNat)=true:=by
  rw [wG hlen]
  exact Bool.false_ne_true
 have af:List.foldl (fun x1 x2=>x1++x2) #[] (List.replicate (if J.toArray.isEmpty=true then 0 else k.toNat) J.toArray)=(List.replicate k.toNat J).flatten.toArray:=by
  have f0:∀ m:Nat,List.foldl (fun x1 x2=>x1++x2) #[] (List.replicate m J.toArray)=(List.replicate m J).flatten.toArray:=fun m=>by
   have:=foldl_rep J m []
   rw [List.nil_append] at this
   exact this
  rw [f0]
  cases J with
  | nil=>simp
  | cons a r'=>rw [if_neg (by simp)]
 refine wpAny_binaryOp_repeat_ref (T:="list") (U:="int") (by decide) ⟨_,e,rfl⟩ (fun s'=>typeIs_int s' k t) noFill_list_mul F.fills_int_mul F.slot_int_rmul repeat_list F.slot_int_index.lookup
  (call_meets F.slot_int_rmul (typeIs_int s k t) F.entry_int_rmul (F.args_int_rmul_2 _ _) (int___rmul___int_list k t l J.toArray n)
   ⟨e,rfl,⟨_,e,rfl⟩,call_meets F.slot_list_mul ⟨_,e,rfl⟩ F.entry_list_mul (F.args_list_mul_2 _ _) (AutoListH.list___mul___list_int_3 l J.toArray n k t ae ab aa) ⟨e,?_⟩⟩)
 rw [af]
 exact⟨.ref _,_,I.lnew (t':=s.toks) (r.rep k.toNat) (by rw [len_rep,Nat.mul_comm];exact hz),rfl,q _ I.fresh⟩
end
section
variable {prog : Program} {w : World} {A : Around} {E : Value -> Shared -> Prop} {s : Shared}
end
section
variable {X : Cx}
end
end L2
namespace Att
open PySem PySem.W PySem.Calls PyProof.Rows
theorem CV{P:Params}{h:Heap}:∀(ns:List Int) (vs:List Value),WellAll P h vs (ns.map WData.int)->IntsAre vs ns:=by
 intro ns
 induction ns with
 | nil=>
  intro vs w
  rw [List.map_nil] at w
  cases w
  exact .nil
 | cons n ns I=>
  intro vs w
  rw [List.map_cons] at w
  cases w with
  | cons a b=>
   cases a
   exact .cons _ _ (I _ b)
theorem CO{l:OpenLaw}{n:Nat}(hn:l.most=some n){P:Params}{h:Heap}{args:List WData}{vals:List Value}
  (hpre:l.row.toRowW.claim.pre args=true)(hwl:WellAll P h vals args):
  ∃ a vs ns,vals=[Value.ref a]/\args=[WData.list (ns.map WData.int)]/\h.get? a=some {cls:= .type "list",data:= .seq vs.toArray}/\IntsAre vs ns/\ns.length<=n:=by
 have aa:WShape.hasAll [] args [.list .int]=true:=(pre_splitW hpre).1
 have hc:l.pre.holds [] {args:=args}=true:=(pre_splitW hpre).2
 obtain⟨d,r,rfl,h1,h2⟩:=hasAllW_cons aa
 obtain rfl:=hasAllW_nil h2
 obtain⟨xs,rfl,h3⟩:=hasW_list h1
 obtain⟨ns,rfl⟩:=items_int h3
 have hlen:ns.length<=n:=by
  unfold OpenLaw.pre at hc
  have J:(WTm.not (.lt (.lit (.int (n:Int))) (.len (.arg 0)))).holds [] {args:=[.list (ns.map .int)]}=true:=by
   have J:=(holds_andW hc).1
   rw [hn] at J
   exact J
  have U:=condW_of J (w_not (w_lt w_lit (w_len_list (w_arg rfl))))
  rw [List.length_map] at U
  refine Nat.le_of_not_lt fun q=>?_
  have q':(n:Int) < ((ns.length:Nat):Int):=by omega
  first
   | (rw [decide_eq_true q'] at U;exact absurd U (by decide))
   | (simp at U;omega)
 cases hwl with
 | cons w1 w2=>
  cases w2
  cases w1 with
  | list ho I=>exact⟨_,_,ns,rfl,rfl,ho,CV ns _ I,hlen⟩
theorem Ck(l:OpenLaw)(args:List WData):l.row.toRowW.claim.post args (.bool true) args=true:=
 postW_of (r:=l.row.toRowW) (X:=(true == true))
  (show WShape.has [] (.bool true) .bool=true by first | rfl | decide | simp [WShape.has,WShape.arms,WShape.armsAll])
  (show(WTm.eq .res (.lit (.bool true))).value [] {args:=args,res:=some (.bool true),after:=args}=some (.bool (true == true)) from w_eq_bool (w_res rfl) w_lit) rfl
section
variable {prog : Program} {w : World} {A : Around} {E : Value -> Shared -> Prop} {s : Shared} {K : Frag}
end
end Att
namespace L2
open PySem PySem.Spec PyProof.Rows
theorem yx:∀{vs:List Value} {ns:List Int},IntsAre vs ns->Vals (ns.map V.int) vs
 | _,_,.nil=> .nil
 | _,_,.cons n t h=> .cons ⟨t,rfl⟩ (yx h)
def yi(H:Hp):Prop:=∀ b,H b=none\/∃ o xs,H b=some (.frz o (.lst xs))
theorem C8{P:Program}{w:World}{K:W.Frag}{mg mb:Str->Option Value}{CX:jn}{k:Nat}{fa a:Addr}{fd:FuncData}{x:Str}{sp:Sp}{s₁:Shared}{vs:List Value}{ns:List Int}
  (KX:K.In s₁.heap)(hns:s₁.heap.Ns mainGlobals mg)(hb:s₁.heap.Ns builtinsNs mb)(hbb:∀ x:Str,x≠"__name__"->mb x=bootBuiltins x)(hlim:s₁.heap.NoLimit)(hg:s₁.gens=#[])
  (ha:s₁.heap.get? a=some {cls:= .type "list",data:= .seq vs.toArray})(hi:IntsAre vs ns)(hl:ns.length<=sizeLine)(hr:gE k callerA)
  (F:∀ base:Heap,K.In base->base.Ns mainGlobals mg->fx P w K mg base CX k fa fd [x] sp)(hbind:∀(s:Shared) (u:Value),BindsTo s fd ⟨[u],[]⟩ [(x,u)])
  (hsp:∀ H:Hp,yi H->fj K H a (ns.map V.int)->sp [.ref a] H (fun v _=>v= .bl true) fun _ _ _=>False)
  (hCX:∀ H e s',CX [] H s₁ (fun _ _ _=>False) e s'->False):
  codeAny (model P w) callerA (.call (.ref fa) ⟨[.ref a],[]⟩) (fun r s'=>r= .ok (.ret (.bool true))/\OldK s₁.heap s'.heap/\s'.os=s₁.os/\AllBare s'.gens) s₁:=by
 have rv:=yx hi
 have U:=hi.length
 have core:∀ H:Hp,yi H->fj K H a (ns.map V.int)->gG P w H s₁.heap->(∀ b,H b≠none->b=a)->(H a≠none->K.lookup a=none)->
   codeAny (model P w) callerA (.call (.ref fa) ⟨[.ref a],[]⟩) (fun r s'=>r= .ok (.ret (.bool true))/\OldK s₁.heap s'.heap/\s'.os=s₁.os/\AllBare s'.gens) s₁:=by
  intro H hO hS hok hA hK
  have I:∀{b:Addr} {o:Obj},s₁.heap.get? b=some o->H b=none->(la s₁.heap H).get? b=some o:=fun e n=>BV e n
  have ae:∀{b:Addr} {o:Obj} {es:Array DictEntry} {ep:Nat},s₁.heap.get? b=some o->o.data= .dict es ep->H b=none:=fun{b o es ep} e d=>by
   cases q:H b with
   | none=>rfl
   | some u=>
    have e':b=a:=hA b (by rw [q];simp)
    subst e'
    rw [ha] at e;cases e
    have d':Data.seq vs.toArray _=Data.dict es ep:=d
    cases d'
  have J:∀{b:Addr} {m:Str->Option Value},s₁.heap.Ns b m->(la s₁.heap H).Ns b m:=fun{b m} ⟨o,es,ep,e,d,r⟩=>⟨o,es,ep,I e (ae e d),d,r⟩
  have aa:K.In (la s₁.heap H):=fun b o e=>I (KX b o e) (by
   cases q:H b with
   | none=>rfl
   | some u=>
    have e':b=a:=hA b (by rw [q];simp)
    subst e'
    rw [hK (by rw [q];simp)] at e;cases e)
  have hM:Mod K mg (la s₁.heap H):=⟨aa,J hns,⟨mb,J hb,hbb⟩,let ⟨mc,h1,h2⟩:=hlim;⟨mc,J h1,h2⟩⟩
  have e0:nG P w K mg (la s₁.heap H) callerA [] s₁ H:=⟨rfl,hM,fun b o e=>BH e,Nat.le_of_eq (Di _ _),trivial,fun b hb=>absurd (show b∈([]:List Addr) from hb) (by simp),hok,.of_eq hg⟩
  refine codeAny_mono ((F _ aa (J hns)).run callerA [] s₁ H ⟨[.ref a],[]⟩ [.ref a] [.ref a] _ _ hr e0 (hbind s₁ (.ref a)) (.cons rfl .nil) (hsp H hO hS)) fun r s' h=>?_
  cases r with
  | error e=>exact(hCX H e s' h).elim
  | ok fl=>
   cases fl with
   | next=>exact False.elim h
   | brk=>exact False.elim h
   | cont=>exact False.elim h
   | ret u=>
    obtain⟨v,H',os,bare,un,ab,r',q⟩:=h
    have q':v= .bl true:=q
    subst q'
    obtain rfl:u=Value.bool true:=r'
    refine⟨rfl,OldK.of_keep fun b o e=>?_,os,bare⟩
    cases q:H b with
    | none=>exact un.keep b o e q (by intro z;exact absurd (show b∈([]:List Addr) from z) (by simp)) (by simp)
    | some u=>
     rcases hO b with z | ⟨ob,xs,z⟩
     ·rw [q] at z;cases z
     ·have z2:=un.frzs b ob _ z
      obtain⟨e1,_⟩:=hok b _ z
      obtain⟨e2,_⟩:=ab b _ z2
      rw [e] at e1;cases e1
      exact e2
 cases hk:K.lookup a with
 | some o=>
  have e:=KX a o hk
  rw [ha] at e
  cases e
  refine core (fun _=>none) (fun _=> .inl rfl) (.inr ⟨_,vs.toArray,_,hk,rfl,rfl,rfl,by rw [List.size_toArray,U];exact hl,by simpa using rv⟩) (fun b u z=>by have z':(none:Option HO)=some u:=z;cases z') (fun b z=>absurd rfl z) fun z=>absurd rfl z
 | none=>
  refine core (fun b=>if b=a then some (.frz {cls:= .type "list",data:= .seq vs.toArray} (.lst (ns.map V.int))) else none) (fun b=>?_) (.inl (.inr ⟨{cls:= .type "list",data:= .seq vs.toArray},if_pos rfl⟩)) (fun b u z=>?_) (fun b z=>?_) fun _=>hk
  ·by_cases hb:b=a
   ·exact .inr ⟨_,_,if_pos hb⟩
   ·exact .inl (if_neg hb)
  ·by_cases hb:b=a
   ·have z':=(if_pos hb).symm.trans z
    cases z'
    subst hb
    exact⟨ha,by rw [List.length_map];exact hl,vs,_,rv,ha⟩
   ·have z':=(if_neg hb).symm.trans z
    cases z'
  ·by_cases hb:b=a
   ·exact hb
   ·exact absurd (if_neg hb) z
abbrev fH{K:W.Frag}{h:Heap}(_:K.In h):W.Frag:=K
def inClass(s:Stmt)(j:Nat):Stmt:=match s with
 | .ClassDef _ _ _ body _ _ _ _ _ _ _=>body.getD j (.Pass ⟨0,0,0,0⟩)
 | _=> .Pass ⟨0,0,0,0⟩
def gX(s:Stmt):Arguments:=match s with
 | .FunctionDef _ a _ _ _ _ _ _ _ _=>a
 | _=>{posonlyargs:=[],args:=[],vararg:=none,kwonlyargs:=[],kw_defaults:=[],kwarg:=none,defaults:=[]}
def gH(s:Stmt):List Stmt:=match s with
 | .FunctionDef _ _ b _ _ _ _ _ _ _=>b
 | _=>[]
def fD(s:Stmt):Scope:=match s with
 | .FunctionDef _ _ _ _ _ _ sc _ _ _=>sc
 | _=>{kind:= .function,names:=[],isGenerator:=false,isCoroutine:=false}
abbrev fE:jn:=fun _ _ _ _ _ _=>False
abbrev E0:XK:=fun _ _ _=>False
theorem fL{X:Cx}:Passes fE X E0:=fun _ _ _ _ _ _ _ h=>h.elim
structure fV (K : W.Frag) (x qual : Str) (st : Stmt) (f : Addr) (fd : FuncData) : Prop where
 ex : ∃ (oc : Value) (od : Option Addr) (kV doc pm : Value) (an : Option Addr) (cdv ct : Value) (osl : Array (Option Value)),
  fd = W.fnOf x qual (gX st) (gH st) (fD st) .none kV doc pm an cdv ct /\ K.lookup f = some ⟨oc, od, .func fd, osl⟩ /\ W.codeIn K cdv qual = true
 kp : W.keepIn K (.ref f) = true
section
variable {P : Program} {w : World} {K : PySem.W.Frag} {mg : Str -> Option Value} {base : Heap}
theorem fV.ok {x qual:Str}{st:Stmt}{f:Addr}{fd:FuncData}{N ps:List Str}{k:Nat}{sp:Sp}(F:fV K x qual st f fd)(S:fU N ps (fD st))(len:∀ vs H Q E,sp vs H Q E->vs.length=ps.length)
  (hbody:∀(cdv:Value) (A:Around) (outer:List Env) (s:Shared) (H:Hp) (vs:List V) (Q:VK) (E:XK),gE k (A.deeper (envOfC qual (fD st) s.heap.objs.size f cdv))->sp vs H Q E->
   ∃ t,fM (ib fE P w K mg base N qual (fD st) f cdv A outer s H E).nox (gH st) t/\t {nx:=fun _ H'=>Q .non H',rt:=Q} (start N vs) H):fx P w K mg base fE (k + 1) f fd ps sp:=by
 obtain⟨oc,od,kV,doc,pm,an,cdv,ct,U,rfl,lk,I⟩:=F.ex
 refine rF lk I S len fun A outer s H vs Q E hr J=>?_
 obtain⟨t,h,q⟩:=hbody cdv A outer s H vs Q E hr J
 exact⟨t,h.nox,q⟩
theorem fV.binds {x qual:Str}{st:Stmt}{f:Addr}{fd:FuncData}{ps:List Str}(F:fV K x qual st f fd)
  (h:∀(kV doc pm:Value) (an:Option Addr) (cdv ct:Value) (us:List Value),us.length=ps.length->bindArgs (W.fnOf x qual (gX st) (gH st) (fD st) .none kV doc pm an cdv ct) ⟨us,[]⟩=pure (ps.zip us)):Binds K fd ps []:=by
 obtain⟨U,od,kV,doc,pm,an,cdv,ct,I,rfl,lk,J⟩:=F.ex
 exact .all (h kV doc pm an cdv ct)
theorem iX{x qual:Str}{st:Stmt}{f:Addr}{oc:Value}{od an:Option Addr}{osl:Array (Option Value)}{kV doc pm cdv ct:Value}(l:K.lookup f=some ⟨oc,od,.func (W.fnOf x qual (gX st) (gH st) (fD st) .none kV doc pm an cdv ct),osl⟩)
  (c:W.codeIn K cdv qual=true)(k:W.keepIn K (.ref f)=true):fV K x qual st f (W.fnOf x qual (gX st) (gH st) (fD st) .none kV doc pm an cdv ct):=⟨⟨oc,od,kV,doc,pm,an,cdv,ct,osl,rfl,l,c⟩,k⟩
end
theorem kq{A:Around}{k:Nat}(hr:gE k A):A.units + 1 < cLine:=Nat.lt_of_le_of_lt (Nat.add_le_add_left (by decide:1<=64) _) hr.units
section
variable {X : Cx}
theorem pv(i:Nat){x:Str}{pos:Pos}(hN:X.N[i]? =some x:=by rfl)(hv:qo X.env.scope x:=by first | exact Or.inl rfl | exact Or.inr (Or.inl rfl) | exact Or.inr (Or.inr rfl))(hd:(x == ("__debug__":Str))=false:=by decide)
  (hcd:(x == ("__classdict__":Str))=false:=by decide):PE X (.Name x pos) (jQ i):=Ba hN hv hd hcd
end
theorem fO{A B:Prop}(h:B):if false=true then A else B:=by
 rw [if_neg Bool.false_ne_true]
 exact h
theorem fY{A B:Prop}(h:A):if true=true then A else B:=by
 rw [if_pos rfl]
 exact h
theorem jX{c A B:Prop} [Decidable c] (h1:c->A)(h2:¬ c->B):if c then A else B:=by
 by_cases h:c
 ·rw [if_pos h]
  exact h1 h
 ·rw [if_neg h]
  exact h2 h
def eZ(H H':Hp):Prop:=∀ b o,H b=some o->H' b=some o
theorem eZ.refl (H:Hp):eZ H H:=fun _ _ h=>h
theorem eZ.trans {H H1 H2:Hp}(a:eZ H H1)(b:eZ H1 H2):eZ H H2:=fun c o h=>b c o (a c o h)
theorem eZ.free {H H':Hp}(e:eZ H H'){l:Addr}(h:H' l=Option.none):H l=Option.none:=by
 cases q:H l with
 | none=>rfl
 | some o=>
  rw [e l o q] at h
  cases h
theorem eZ.seq {K:W.Frag}{H H':Hp}{a:Addr}{xs:List V}(e:eZ H H')(h:fj K H a xs):fj K H' a xs:=by
 rcases h with (h | ⟨o,h⟩) | h
 ·exact .inl (.inl (e _ _ h))
 ·exact .inl (.inr ⟨o,e _ _ h⟩)
 ·exact .inr h
section
variable {κ : Type} [DecidableEq κ]
def gg(kvs:List (κ×V))(k:κ):Option V:=(kvs.find? fun I=>decide (I.1=k)).map (·.2)
def putK(kvs:List (κ×V))(k:κ)(v:V):List (κ×V):=
 if (kvs.any fun I=>decide (I.1=k))=true then kvs.map (fun I=>if I.1=k then (I.1,v) else I) else kvs++[(k,v)]
theorem jJ{p:κ×V}{r:List (κ×V)}{k:κ}(e:p.1=k):gg (p::r) k=some p.2:=by simp [gg,List.find?_cons,e]
theorem jt{p:κ×V}{r:List (κ×V)}{k:κ}(e:¬ p.1=k):gg (p::r) k=gg r k:=by simp [gg,List.find?_cons,e]
theorem nJ(k:κ):∀ kvs:List (κ×V),(kvs.any fun kv=>decide (kv.1=k))=(gg kvs k).isSome
 | []=>rfl
 | p::r=>by
  rw [List.any_cons]
  by_cases e:p.1=k
  ·simp only [jJ e,decide_eq_true e,Bool.true_or,Option.isSome_some]
  ·rw [jt e,decide_eq_false e,Bool.false_or];exact nJ k r
theorem xP(k j:κ)(y:V):∀ kvs:List (κ×V),gg (kvs.map fun kv=>if kv.1=k then (kv.1,y) else kv) j=(gg kvs j).map fun x=>if j=k then y else x
 | []=>rfl
 | p::r=>by
  have I:=xP k j y r
  rw [List.map_cons]
  by_cases h:p.1=k
  ·rw [if_pos h]
   by_cases e:p.1=j
   ·rw [jJ (p:=(p.1,y)) e,jJ e,Option.map_some,if_pos (e.symm.trans h)]
   ·rw [jt (p:=(p.1,y)) e,jt e,I]
  ·rw [if_neg h]
   by_cases e:p.1=j
   ·rw [jJ (p:=p) e,jJ e,Option.map_some,if_neg (fun z=>h (e.trans z))]
   ·rw [jt (p:=p) e,jt e,I]
theorem Aa(k j:κ)(y:V):∀ kvs:List (κ×V),gg kvs k=none->gg (kvs++[(k,y)]) j=if j=k then some y else gg kvs j
 | [],_=>by
  by_cases e:k=j
  ·rw [if_pos e.symm];exact jJ (p:=(k,y)) e
  ·rw [if_neg (fun z=>e z.symm)];exact jt (p:=(k,y)) e
 | p::r,hn=>by
  rw [List.cons_append]
  have hk:¬ p.1=k:=fun z=>by rw [jJ z] at hn;cases hn
  rw [jt hk] at hn
  have I:=Aa k j y r hn
  by_cases e:p.1=j
  ·rw [jJ e,jJ e,if_neg (fun z=>hk (e.trans z))]
  ·rw [jt e,jt e,I]
theorem zf(kvs:List (κ×V))(k j:κ)(y:V):gg (putK kvs k y) j=if j=k then some y else gg kvs j:=by
 unfold putK
 by_cases a:(kvs.any fun I=>decide (I.1=k))=true
 ·rw [if_pos a,xP]
  rw [nJ] at a
  by_cases e:j=k
  ·obtain⟨x,J⟩:=Option.isSome_iff_exists.mp a
   rw [if_pos e,e,J,Option.map_some,if_pos rfl]
  ·rw [if_neg e]
   cases gg kvs j with
   | none=>rfl
   | some x=>rw [Option.map_some,if_neg e]
 ·rw [if_neg a]
  refine Aa k j y kvs ?_
  rw [nJ] at a
  cases q:gg kvs k with
  | none=>rfl
  | some x=>rw [q] at a;exact(a rfl).elim
theorem qB(kvs:List (κ×V))(k:κ)(v:V):(putK kvs k v).length<=kvs.length + 1:=by
 unfold putK
 split
 ·rw [List.length_map];omega
 ·rw [List.length_append,List.length_cons,List.length_nil];omega
theorem xr{kvs:List (κ×V)}{k:κ}(v:V)(h:gg kvs k=none):putK kvs k v=kvs++[(k,v)]:=by
 unfold putK
 rw [nJ,h]
 exact if_neg (by decide)
theorem iT.isSome_eq {o:Option V}{u:Option Value}(r:iT o u):o.isSome=u.isSome:=by
 cases o with
 | none=>cases u with
  | none=>rfl
  | some _=>exact(show False from r).elim
 | some _=>cases u with
  | none=>exact(show False from r).elim
  | some _=>rfl
theorem iT.getD {o:Option V}{u:Option Value}{d:V}{d':Value}(r:iT o u)(rd:RelV d d'):RelV (o.getD d) (u.getD d'):=by
 cases o with
 | none=>cases u with
  | none=>exact rd
  | some _=>exact(show False from r).elim
 | some _=>cases u with
  | none=>exact(show False from r).elim
  | some _=>exact r
theorem KV.val {kvs:List (κ×V)}{vs:List (κ×Value)}(r:KV kvs vs)(k:κ):iT (gg kvs k) (valueAt vs k):=by
 unfold KV at r
 induction r with
 | nil=>exact True.intro
 | @cons p q ps I h t U=>
  obtain⟨h1,h2⟩:=h
  by_cases e:p.1=k
  ·have J:q.1=k:=h1.symm.trans e
   have b:valueAt (q::I) k=some q.2:=by simp [valueAt,List.find?_cons,J]
   rw [jJ e,b];exact h2
  ·have J:¬ q.1=k:=fun z=>e (h1.trans z)
   have b:valueAt (q::I) k=valueAt I k:=by simp [valueAt,List.find?_cons,J]
   rw [jt e,b];exact U
theorem KV.any {kvs:List (κ×V)}{vs:List (κ×Value)}(r:KV kvs vs)(k:κ):(kvs.any fun kv=>decide (kv.1=k))=vs.any fun kv=>decide (kv.1=k):=by
 unfold KV at r
 induction r with
 | nil=>rfl
 | cons h t I=>rw [List.any_cons,List.any_cons,I,h.1]
theorem KV.repl {kvs:List (κ×V)}{vs:List (κ×Value)}(r:KV kvs vs)(k:κ){y:V}{u:Value}(ry:RelV y u):
  KV (kvs.map fun kv=>if kv.1=k then (kv.1,y) else kv) (vs.map fun kv=>if kv.1=k then (kv.1,u) else kv):=by
 unfold KV at r ⊢
 induction r with
 | nil=>exact .nil
 | @cons p q ps J h t I=>
  rw [List.map_cons,List.map_cons]
  refine .cons ?_ I
  obtain⟨h1,h2⟩:=h
  by_cases e:p.1=k
  ·rw [if_pos e,if_pos (h1.symm.trans e)];exact⟨h1,ry⟩
  ·rw [if_neg e,if_neg (fun z=>e (h1.trans z))];exact⟨h1,h2⟩
theorem KV.put {kvs:List (κ×V)}{vs:List (κ×Value)}(r:KV kvs vs)(k:κ){y:V}{u:Value}(ry:RelV y u):KV (putK kvs k y) (stored vs k u):=by
 unfold putK stored
 rw [r.any k]
 by_cases e:(vs.any fun I=>decide (I.1=k))=true
 ·rw [if_pos e,if_pos e];exact r.repl k ry
 ·rw [if_neg e,if_neg e];exact Paired.snoc r ⟨rfl,ry⟩
theorem KV.keys {kvs:List (κ×V)}{vs:List (κ×Value)}(r:KV kvs vs):kvs.map (·.1)=vs.map (·.1):=by
 unfold KV at r
 induction r with
 | nil=>rfl
 | cons h t I=>rw [List.map_cons,List.map_cons,I,h.1]
theorem KV.length {kvs:List (κ×V)}{vs:List (κ×Value)}(r:KV kvs vs):kvs.length=vs.length:=Paired.length r
end
theorem m7{P:Program}{w:World}{k:Key}{u:Value}(r:RelV (kV k) u):(iC P w).is k u=true:=by
 cases k with
 | inl i=>obtain⟨t,e⟩:=(show ∃ t,u=Value.int i t from r);subst e;exact Ca P w i t
 | inr x=>obtain⟨t,e⟩:=(show ∃ t,u=Value.str x t from r);subst e;exact AG P w x t
theorem xa{P:Program}{w:World}:∀{ks:List Key} {us:List Value},Vals (ks.map kV) us->ItemsAre (iC P w) ks us
 | [],_,r=>by rw [List.map_nil] at r;cases r;exact .nil
 | k::ks,_,r=>by
  rw [List.map_cons] at r
  cases r with
  | cons h t=>exact .cons (m7 h) (xa t)
abbrev KT(H:Hp):List (List Key×V)->List (List Key×Addr×Value)->Prop:=Paired fun p q=>p.1=q.1/\H q.2.1=some (.tup (p.1.map kV))/\RelV p.2 q.2.2
theorem KT.val {H:Hp}{kvs:List (List Key×V)}{xs:List (List Key×Addr×Value)}(r:KT H kvs xs)(k:List Key):iT (gg kvs k) ((atKey xs k).map (·.2)):=by
 induction r with
 | nil=>exact True.intro
 | @cons p q ps I h t U=>
  obtain⟨h1,_,h2⟩:=h
  by_cases e:p.1=k
  ·have J:q.1=k:=h1.symm.trans e
   have b:atKey (q::I) k=some q.2:=by simp [atKey,List.find?_cons,J]
   rw [jJ e,b];exact h2
  ·have J:¬ q.1=k:=fun z=>e (h1.trans z)
   have b:atKey (q::I) k=atKey I k:=by simp [atKey,List.find?_cons,J]
   rw [jt e,b];exact U
theorem KT.repl {H:Hp}{kvs:List (List Key×V)}{xs:List (List Key×Addr×Value)}(r:KT H kvs xs)(k:List Key){y:V}{u:Value}(ry:RelV y u):
  KT H (kvs.map fun kv=>if kv.1=k then (kv.1,y) else kv) (xs.map (putAt k u)):=by
 induction r with
 | nil=>exact .nil
 | @cons p q ps U h t I=>
  rw [List.map_cons,List.map_cons]
  refine .cons ?_ I
  obtain⟨h1,h2,J⟩:=h
  unfold putAt
  by_cases e:p.1=k
  ·rw [if_pos e,if_pos (h1.symm.trans e)];exact⟨h1,h2,ry⟩
  ·rw [if_neg e,if_neg (fun z=>e (h1.trans z))];exact⟨h1,h2,J⟩
theorem KT.put {H:Hp}{kvs:List (List Key×V)}{xs:List (List Key×Addr×Value)}(r:KT H kvs xs)(k:List Key){b:Addr}{y:V}{u:Value}(hb:H b=some (.tup (k.map kV)))(ry:RelV y u):
  KT H (putK kvs k y) (storedH xs k b u):=by
 have e:(kvs.any fun I=>decide (I.1=k))=(atKey xs k).isSome:=by
  rw [nJ,(r.val k).isSome_eq,Option.isSome_map]
 unfold putK storedH
 rw [e]
 by_cases q:(atKey xs k).isSome=true
 ·rw [if_pos q,if_pos q];exact r.repl k ry
 ·rw [if_neg q,if_neg q];exact Paired.snoc r ⟨rfl,hb,ry⟩
theorem KT.keeps {H H':Hp}{kvs:List (List Key×V)}{xs:List (List Key×Addr×Value)}(r:KT H kvs xs)(ht:∀ b ys,H b=some (.tup ys)->H' b=some (.tup ys)):KT H' kvs xs:=
 Paired.mapP r fun _ _ z=>⟨z.1,ht _ _ z.2.1,z.2.2⟩
section
variable {P : Program} {w : World} {H : Hp} {h : Heap} {a : Addr}
theorem wL{u:HO}(ok:gG P w H h)(e:Rd H a u):gI P w H h a u:=e.ok ok
theorem lS{kvs:List (Key×V)}(ok:gG P w H h)(e:Rd H a (.dK kvs)):kvs.length<=sizeLine/\(a == sysModules)=false/\∃ vs,KV kvs vs/\h.DictOf (iC P w) a vs:=
 show gI P w H h a (.dK kvs) from wL ok e
theorem wa{kvs:List (Key×V)}(ok:gG P w H h)(e:H a=some (.dK kvs)):kvs.length<=sizeLine/\(a == sysModules)=false/\∃ vs,KV kvs vs/\h.DictOf (iC P w) a vs:=lS ok (.inl e)
theorem oS{ks:List Key}(ok:gG P w H h)(e:H a=some (.tup (ks.map kV))):(tupleKind (iC P w)).is h ks a:=by
 obtain⟨_,I,r,o,h1,h2,n,J⟩:=(show gI P w H h a (.tup (ks.map kV)) from ok a _ e)
 exact⟨o,I.toArray,n,h1,h2,J,by simpa using xa r⟩
theorem oN{kvs:List (List Key×V)}(ok:gG P w H h)(e:Rd H a (.dT kvs)):kvs.length<=sizeLine/\(a == sysModules)=false/\
  ∃ xs,KT H kvs xs/\h.DictOfH (tupleKind (iC P w)) a xs:=by
 obtain⟨z,y,xs,r,o,es,ep,h1,h2,J,U,h5⟩:=(show gI P w H h a (.dT kvs) from wL ok e)
 refine⟨z,y,xs,r,o,es,ep,h1,h2,J,U,fun x hx=>?_,h5⟩
 have all:∀{l:List (List Key×V)} {m:List (List Key×Addr×Value)},KT H l m->∀ x∈m,(tupleKind (iC P w)).is h x.1 x.2.1:=by
  intro l m q
  induction q with
  | nil=>intro x hx;exact nomatch hx
  | @cons p q ps qs I t ih=>
   intro x hx
   rcases List.mem_cons.mp hx with e | hx
   ·subst e
    exact oS ok (by rw [<-I.1];exact I.2.1)
   ·exact ih x hx
 exact all r x hx
theorem HV{kvs:List (List Key×V)}(ok:gG P w H h)(e:H a=some (.dT kvs)):kvs.length<=sizeLine/\(a == sysModules)=false/\
  ∃ xs,KT H kvs xs/\h.DictOfH (tupleKind (iC P w)) a xs:=oN ok (.inl e)
end
def iF(H:Hp)(a:Addr)(y:V)(r:Option V):Prop:=
 (∃ kvs k,Rd H a (.dK kvs)/\y=kV k/\r=gg kvs k)\/∃ kvs k b,Rd H a (.dT kvs)/\y= .ref b/\H b=some (.tup (k.map kV))/\r=gg kvs k
def j7(H:Hp)(a:Addr)(y v:V)(H':Hp):Prop:=
 (∃ kvs k,H a=some (.dK kvs)/\y=kV k/\kvs.length < sizeLine/\H'=upd H a (.dK (putK kvs k v)))\/
 ∃ kvs k b,H a=some (.dT kvs)/\y= .ref b/\H b=some (.tup (k.map kV))/\kvs.length < sizeLine/\H'=upd H a (.dT (putK kvs k v))
theorem iF.k {H:Hp}{a:Addr}{kvs:List (Key×V)}{k:Key}(e:H a=some (.dK kvs)):iF H a (kV k) (gg kvs k):= .inl ⟨kvs,k,.inl e,rfl,rfl⟩
theorem iF.t {H:Hp}{a b:Addr}{kvs:List (List Key×V)}{k:List Key}(e:H a=some (.dT kvs))(eb:H b=some (.tup (k.map kV))):iF H a (.ref b) (gg kvs k):= .inr ⟨kvs,k,b,.inl e,rfl,eb,rfl⟩
theorem j7.k {H:Hp}{a:Addr}{kvs:List (Key×V)}{k:Key}{v:V}(e:H a=some (.dK kvs))(hl:kvs.length < sizeLine):j7 H a (kV k) v (upd H a (.dK (putK kvs k v))):= .inl ⟨kvs,k,e,rfl,hl,rfl⟩
theorem j7.t {H:Hp}{a b:Addr}{kvs:List (List Key×V)}{k:List Key}{v:V}(e:H a=some (.dT kvs))(eb:H b=some (.tup (k.map kV)))(hl:kvs.length < sizeLine):
  j7 H a (.ref b) v (upd H a (.dT (putK kvs k v))):= .inr ⟨kvs,k,b,e,rfl,eb,hl,rfl⟩
section
variable {X : Cx} {pins : List (Addr × Obj)} {σ : St} {H : Hp} {s : Shared} {a : Addr} {y v : V} {u r : Value} {o : Option V} {A : Around} {E : Value -> Shared -> Prop}
theorem Inv.big (I:Inv X pins σ H s):sysModules < s.heap.objs.size:=by
 have h:mainGlobals < s.heap.objs.size:=(I.mod.glob.keeps I.bk).lt
 exact Nat.lt_trans (by decide) h
theorem AM{Q:Value->Shared->Prop}(hu:A.units + 1 < cLine)(I:Inv X pins σ H s)(g:iF H a y (some v))(ry:RelV y u)(h:∀ w' s',Inv X pins σ H s'->RelV v w'->Q w' s'):
  wpAny (model X.prog X.w) A (getItem (.ref a) u) Q E s:=by
 rcases g with ⟨kvs,k,e,U,l⟩ | ⟨kvs,k,b,e,U,eb,l⟩
 ·subst U
  obtain⟨z,hd,vs,rel,dd⟩:=lS I.hok e
  obtain⟨w',hw,J⟩:=iT.some_of (v:=v) (o:=valueAt vs k) (by rw [l];exact rel.val k)
  exact wpAny_getItem_of (m7 ry) dd.mapOf hw (h w' _ (I.tok _) J)
 ·subst U
  cases (show u=Value.ref b from ry)
  obtain⟨z,hd,xs,rel,dd⟩:=oN I.hok e
  obtain⟨w',hw,J⟩:=iT.some_of (v:=v) (o:=(atKey xs k).map (·.2)) (by rw [l];exact rel.val k)
  obtain⟨p,hp,aa⟩:=Option.map_eq_some_iff.mp hw
  refine wpAny_getItem_heap (tupleKind_room_in1 hu) (oS I.hok eb) dd hp ?_
  rw [aa]
  exact h w' _ (I.tok _) J
theorem FD{Q:Value->Shared->Prop}(hu:A.units + 1 < cLine)(I:Inv X pins σ H s)(g:iF H a y o)(ry:RelV y u)(h:∀ s',Inv X pins σ H s'->Q (.bool o.isSome) s'):
  wpAny (model X.prog X.w) A (compareOp .In u (.ref a)) Q E s:=by
 rcases g with ⟨kvs,k,e,J,l⟩ | ⟨kvs,k,b,e,J,U,l⟩
 ·subst J
  obtain⟨z,hd,vs,rel,dd⟩:=lS I.hok e
  refine wpAny_in_of (m7 ry) hd dd.mapOf ?_
  rw [<-(rel.val k).isSome_eq,<-l]
  exact h _ (I.tok _)
 ·subst J
  cases (show u=Value.ref b from ry)
  obtain⟨z,hd,xs,rel,dd⟩:=oN I.hok e
  refine wpAny_in_heap (tupleKind_room_in1 hu) (oS I.hok U) hd dd ?_
  have q:=(rel.val k).isSome_eq
  rw [Option.isSome_map] at q
  rw [<-q,<-l]
  exact h _ (I.tok _)
theorem EX{Q:Value->Shared->Prop}(hu:A.units + 1 < cLine)(I:Inv X pins σ H s)(g:iF H a y o)(ry:RelV y u)(h:∀ s',Inv X pins σ H s'->Q (.bool (!o.isSome)) s'):
  wpAny (model X.prog X.w) A (compareOp .NotIn u (.ref a)) Q E s:=by
 rcases g with ⟨kvs,k,e,J,l⟩ | ⟨kvs,k,b,e,J,U,l⟩
 ·subst J
  obtain⟨z,hd,vs,rel,dd⟩:=lS I.hok e
  refine wpAny_notIn_of (m7 ry) hd dd.mapOf ?_
  rw [<-(rel.val k).isSome_eq,<-l]
  exact h _ (I.tok _)
 ·subst J
  cases (show u=Value.ref b from ry)
  obtain⟨z,hd,xs,rel,dd⟩:=oN I.hok e
  refine wpAny_notIn_heap (tupleKind_room_in1 hu) (oS I.hok U) hd dd ?_
  have q:=(rel.val k).isSome_eq
  rw [Option.isSome_map] at q
  rw [<-q,<-l]
  exact h _ (I.tok _)
theorem vO{h':Heap}{t':Nat}{ob:HO}(I:Inv X pins σ H s)(mu:qG (H a))(hs:Heap.SameBut a s.heap h')(he:∃ q,h'.get? a=some q)(new:gI X.prog X.w (upd H a ob) h' a ob):
  Inv X pins σ (upd H a ob) {s with heap:=h',toks:=t'}:=
 I.write (x:=a) (e:=a) mu (.inl rfl) (fun b q hb z=>(hs.2 b hb).trans z) he new
theorem z9{P:Program}{w:World}{H':Hp}{h':Heap}{kvs:List (Key×V)}{vs:List (Key×Value)}(z:kvs.length<=sizeLine)(hd:(a == sysModules)=false)(rel:KV kvs vs)(dd:h'.DictOf (iC P w) a vs):
  gI P w H' h' a (.dK kvs):=⟨z,hd,vs,rel,dd⟩
theorem AJ{H':Hp}{Q:Unit->Shared->Prop}(hu:A.units + 1 < cLine)(I:Inv X pins σ H s)(g:j7 H a y v H')(ry:RelV y u)(rv:RelV v r)(h:∀ s',Inv X pins σ H' s'->Q () s'):
  wpAny (model X.prog X.w) A (setItem (.ref a) u r) Q E s:=by
 rcases g with ⟨kvs,k,e,ey,l,eH⟩ | ⟨kvs,k,b,e,ey,eb,l,eH⟩
 ·subst ey eH
  obtain⟨z,hd,vs,rel,dd⟩:=wa I.hok e
  have hz:vs.length<=sizeLine:=by rw [<-rel.length];exact z
  have hl:(putK kvs k v).length<=sizeLine:=by have:=qB kvs k v;omega
  refine wpAny_setItem_pairs (hsz:=hz) (m7 ry) dd fun h' J hs=>h _ ?_
  have he:∃ q,h'.get? a=some q:=let ⟨q,_,_,U,_⟩:=J;⟨q,U⟩
  exact vO I (by rw [e];exact True.intro) hs he (z9 hl hd (rel.put k rv) J)
 ·subst ey eH
  cases (show u=Value.ref b from ry)
  obtain⟨z,hd,xs,rel,dd⟩:=HV I.hok e
  have hz:xs.length<=sizeLine:=by rw [<-Paired.length rel];exact z
  have hl:(putK kvs k v).length<=sizeLine:=by have:=qB kvs k v;omega
  refine wpAny_setItem_heap (hsz:=hz) (tupleKind_room_in1 hu) (oS I.hok eb) dd fun h' J hs=>h _ ?_
  obtain⟨q,es,ep,U,h2,h3,h4,_,h5⟩:=J
  refine vO I (by rw [e];exact True.intro) hs ⟨q,U⟩ ⟨hl,hd,_,(rel.put k eb rv).keeps fun c ys ec=>?_,q,es,ep,U,h2,h3,h4,h5⟩
  rw [fB (EJ ec e (fun z=>nomatch z))]
  exact ec
end
section
variable {X : Cx} {pins : List (Addr × Obj)} {σ : St} {H : Hp} {s : Shared} {a : Addr} {kvs : List (Key × V)} {k : Key} {u : Value} {A : Around} {E : Value -> Shared -> Prop}
theorem CC{Q:Value->Shared->Prop}(I:Inv X pins σ H s)(e:Rd H a (.dK kvs))(h:∀ t s',Inv X pins σ H s'->Q (.int kvs.length t) s'):wpAny (model X.prog X.w) A (call (.builtin "len") [.ref a]) Q E s:=by
 obtain⟨z,hd,vs,rel,dd⟩:=lS I.hok e
 refine call_len_dict hd dd (by rw [<-rel.length];rw [sizeLine_eq] at z;omega) ?_
 rw [<-rel.length]
 exact h _ _ (I.tok _)
end
def xf(i:Expr):Prop:=∀ I J,subscripted i false I J=operate [I,J] (getItem I J)
theorem HZ{prog:Program}{w:World}{A:Around}{E:Value->Shared->Prop}{s:Shared}{env:Env}{value slice:Expr}{pos:Pos}{T id:String}{Q:Value->Shared->Prop}
  (hl:typeLookup (.type T) "__getitem__"=pure (some (.builtin id)))(hs:xf slice)
  (h:wpAny (model prog w) A (eval value env) (fun o s₁=>wpAny (model prog w) A (eval slice env) (fun i s₂=>s₂.TypeIs o T/\wpAny (model prog w) A (getItem o i) Q E s₂) E s₁) E s):
  wpAny (model prog w) A (eval (.Subscript value slice pos) env) Q E s:=by
 refine Subscript_ (wpAny_mono h (fun o s₁ U=>wpAny_mono U (fun i s₂ I=>?_) fun _ _ x=>x) fun _ _ x=>x)
 obtain⟨hT,I⟩:=I
 unfold subscriptTail
 refine wpAny_bind ?_
 rw [getitemInPython_of_ne hT.not_modules]
 refine wpAny_bind (wpAny_specialOf hT hl ?_)
 have fin:wpAny (model prog w) A (subscripted slice false o i) (fun r J=>wpAny (model prog w) A (letTemporaryGo value o r >>= fun _=>pure r) Q E J) E s₂:=by
  rw [hs o i]
  exact wpAny_operating (wpAny_mono I (fun r J aa=>wpAny_bind (wpAny_letTemporaryGo (wpAny_pure aa))) fun _ _ x=>x)
 first
  | exact wpAny_pure (wpAny_bind fin)
  | exact wpAny_bind (wpAny_pure (wpAny_bind fin))
  | exact wpAny_bind fin
theorem Bq{X:Cx}{pins:List (Addr×Obj)}{σ:St}{H:Hp}{s:Shared}{a:Addr}{y:V}{o:Option V}(I:Inv X pins σ H s)(g:iF H a y o):s.TypeIs (.ref a) "dict":=by
 rcases g with ⟨kvs,k,e,_,_⟩ | ⟨kvs,k,b,e,_,_,_⟩
 ·obtain⟨_,_,vs,_,dd⟩:=lS I.hok e
  exact dd.typeIs
 ·obtain⟨_,_,xs,_,dd⟩:=oN I.hok e
  exact dd.typeIs
def FA(td ty:TE):TE:=fun σ H Q=>td σ H fun x H1=>ty σ H1 fun y H2=>∃ a v,x= .ref a/\iF H2 a y (some v)/\Q v H2
def A9(ty td:TE):TE:=fun σ H Q=>ty σ H fun y H1=>td σ H1 fun x H2=>∃ a o,x= .ref a/\iF H2 a y o/\Q (.bl o.isSome) H2
def Fd(ty td:TE):TE:=fun σ H Q=>ty σ H fun y H1=>td σ H1 fun x H2=>∃ a o,x= .ref a/\iF H2 a y o/\Q (.bl (!o.isSome)) H2
def IP(td ty tv:TE):TS:=fun D σ H=>tv σ H fun v H1=>td σ H1 fun x H2=>ty σ H2 fun y J=>∃ a I,x= .ref a/\j7 J a y v I/\D.nx σ I
section
variable {X : Cx} {o i e value : Expr} {pos pos' tpos : Pos} {td ty tv : TE}
theorem qw(hu:X.A.units + 1 < cLine)(ho:PE X o td)(hi:PE X i ty)(hs:xf i):PE X (.Subscript o i pos) (FA td ty):=by
 intro pins s σ H Q I h
 refine HZ F.slot_dict_getitem.lookup hs (fK (ho pins s σ H _ I h) fun u s1 ⟨x,H1,I1,rx,q1⟩=>fK (hi pins s1 σ H1 _ I1 q1) fun iv s2 ⟨y,H2,U,ry,a,v,ex,g,q2⟩=>?_)
 subst ex
 obtain rfl:u=Value.ref a:=rx
 exact⟨Bq U g,AM hu U g ry fun w' s3 I3 J=>⟨v,H2,I3,J,q2⟩⟩
theorem vd(hu:X.A.units + 1 < cLine)(hi:PE X i ty)(ho:PE X o td):PC X .In i o (A9 ty td):=by
 intro pins s σ H Q I h
 refine fK (hi pins s σ H _ I h) fun iv s1 ⟨y,H1,J,U,q1⟩=>fK (ho pins s1 σ H1 _ J q1) fun u s2 ⟨x,H2,I2,rx,a,ov,ex,g,q2⟩=>?_
 subst ex
 obtain rfl:u=Value.ref a:=rx
 exact FD hu I2 g U fun s3 I3=>⟨.bl ov.isSome,H2,I3,rfl,q2⟩
theorem xo(hu:X.A.units + 1 < cLine)(hi:PE X i ty)(ho:PE X o td):PC X .NotIn i o (Fd ty td):=by
 intro pins s σ H Q I h
 refine fK (hi pins s σ H _ I h) fun iv s1 ⟨y,H1,J,U,q1⟩=>fK (ho pins s1 σ H1 _ J q1) fun u s2 ⟨x,H2,I2,rx,a,ov,ex,g,q2⟩=>?_
 subst ex
 obtain rfl:u=Value.ref a:=rx
 exact EX hu I2 g U fun s3 I3=>⟨.bl (!ov.isSome),H2,I3,rfl,q2⟩
theorem qF(hu:X.A.units + 1 < cLine)(ho:PE X o td)(hi:PE X i ty)(hv:PE X value tv)(hs:swapsWith value (some (.Subscript o i pos')) pos.line X.env=pure false):
  PS X (.Assign [.Subscript o i pos'] value pos) (IP td ty tv):=by
 intro pins s σ H D I h
 refine wpAny_Assign_Subscript (fK (hv pins s σ H _ I h) fun r s1 ⟨v,H1,J,U,q1⟩=>fK (ho pins s1 σ H1 _ J q1) fun u s2 ⟨x,H2,I2,rx,q2⟩=>fK (hi pins s2 σ H2 _ I2 q2) fun iv s3 ⟨y,H3,I3,ry,a,H4,ex,g,q3⟩=>?_) hs
 subst ex
 obtain rfl:u=Value.ref a:=rx
 exact AJ hu I3 g ry U fun s4 I4=>⟨σ,H4,I4,q3⟩
end
theorem Hf{P:Program}{w:World}{H:Hp}(h:Heap)(hb:sysModules < h.objs.size):gI P w H (h.push {cls:= .type "dict",data:= .dict #[]}) h.objs.size (.dK []):=
 ⟨Nat.zero_le _,beq_eq_false_iff_ne.mpr (Ne.symm (Nat.ne_of_lt hb)),[],.nil,Heap.DictOf.new h⟩
theorem GX{P:Program}{w:World}{H:Hp}(h:Heap)(hb:sysModules < h.objs.size):gI P w H (h.push {cls:= .type "dict",data:= .dict #[]}) h.objs.size (.dT []):=
 ⟨Nat.zero_le _,beq_eq_false_iff_ne.mpr (Ne.symm (Nat.ne_of_lt hb)),[],.nil,_,#[],0,Heap.get?_push_size _ rfl,⟨rfl,rfl,rfl⟩,rfl,rfl,List.nodup_nil⟩
def Eb:TE:=fun _ H Q=>∀ p,H p=none->Q (.ref p) (upd H p (.dK []))
def Ea:TE:=fun _ H Q=>∀ p,H p=none->Q (.ref p) (upd H p (.dT []))
section
variable {X : Cx} {pos : Pos}
theorem mE:PE X (.Dict [] [] pos) Eb:=fun pins s σ H Q I h=>
 wpAny_Dict_empty ⟨.ref s.heap.objs.size,_,I.laid (a:=s.heap.objs.size) (o:= .dK []) (t':=s.toks) (fun _ _ q=>Heap.get?_push_of_some _ q) (Nat.le_refl _) (Hf s.heap I.big),rfl,h _ (I.hok.fresh (Nat.le_refl _))⟩
theorem DJ:PE X (.Dict [] [] pos) Ea:=fun pins s σ H Q I h=>
 wpAny_Dict_empty ⟨.ref s.heap.objs.size,_,I.laid (a:=s.heap.objs.size) (o:= .dT []) (t':=s.toks) (fun _ _ q=>Heap.get?_push_of_some _ q) (Nat.le_refl _) (GX s.heap I.big),rfl,h _ (I.hok.fresh (Nat.le_refl _))⟩
end
section
variable {X : Cx} {pins : List (Addr × Obj)} {σ : St} {H : Hp} {s : Shared} {a : Addr} {y d : V} {u r : Value} {o : Option V} {A : Around} {E : Value -> Shared -> Prop}
theorem BU{Q:Value->Shared->Prop}(hu:A.units + 1 < cLine)(I:Inv X pins σ H s)(g:iF H a y o)(ry:RelV y u)(rd:RelV d r)(h:∀ w' s',Inv X pins σ H s'->RelV (o.getD d) w'->Q w' s'):
  wpAny (model X.prog X.w) A (call (.builtin "dict.get") [.ref a,u,r]) Q E s:=by
 rcases g with ⟨kvs,k,e,J,l⟩ | ⟨kvs,k,b,e,J,U,l⟩
 ·subst J
  obtain⟨z,hd,vs,rel,dd⟩:=lS I.hok e
  refine call_meetsIn F.slot_dict_get dd.typeIs F.entry_dict_get (F.args_dict_get_3 _ _ _) (meets_dict_get_default (iC X.prog X.w) a (m7 ry) hd r) ⟨_,dd.mapOf,h _ _ (I.tok _) ?_⟩
  rw [l]
  exact(rel.val k).getD rd
 ·subst J
  cases (show u=Value.ref b from ry)
  obtain⟨z,hd,xs,rel,dd⟩:=oN I.hok e
  refine call_meetsIn F.slot_dict_get dd.typeIs F.entry_dict_get (F.args_dict_get_3 _ _ _) (meetsH_dict_get_default (tupleKind (iC X.prog X.w)) a b hd r) ⟨tupleKind_room_in1 hu,k,xs,oS I.hok U,dd,h _ _ (I.tok _) ?_⟩
  rw [l]
  exact(rel.val k).getD rd
end
section
variable {X : Cx} {o e f : Expr} {apos cpos : Pos} {td ty tx : TE}
end
section
variable {X : Cx} {pins : List (Addr × Obj)} {σ : St} {H : Hp} {s : Shared} {a : Addr} {kvs : List (Key × V)} {A : Around} {E : Value -> Shared -> Prop}
end
section
variable {X : Cx} {pins : List (Addr × Obj)} {σ : St} {H : Hp} {s : Shared} {a : Addr} {y : V} {u : Value} {A : Around} {E : Value -> Shared -> Prop}
end
section
variable {X : Cx}
theorem DE:jc X (.builtin "len") (fun xs H Q=>∃ a kvs,xs=[V.ref a]/\H a=some (.dK kvs)/\Q (.int kvs.length) H):=by
 intro pins s σ H xs us Q I r h
 obtain⟨a,kvs,rfl,ha,q⟩:=h
 obtain⟨u,rfl,J⟩:=vals1 r
 cases J
 exact CC I (.inl ha) fun t s' U=>⟨.int kvs.length,H,U,⟨t,rfl⟩,q⟩
end
section
variable {κ : Type} [DecidableEq κ]
theorem zr{kvs:List (κ×V)}{k:κ}(h:gg kvs k=none):¬ k∈kvs.map (·.1):=by
 intro m
 obtain⟨p,I,e⟩:=List.mem_map.mp m
 have q:(kvs.any fun J=>decide (J.1=k))=true:=List.any_eq_true.mpr ⟨p,I,decide_eq_true e⟩
 rw [nJ,h] at q
 exact absurd q (by simp)
theorem Bt{kvs:List (κ×V)}{k:κ}{v:V}(h:gg kvs k=some v):k∈kvs.map (·.1):=by
 have q:(kvs.any fun I=>decide (I.1=k))=true:=by
  rw [nJ,h]
  all_goals rfl
 obtain⟨p,J,e⟩:=List.any_eq_true.mp q
 exact List.mem_map.mpr ⟨p,J,of_decide_eq_true e⟩
end
end L2
set_option maxHeartbeats 4000000
namespace L2
open PySem PySem.Spec PyProof.Rows
section
variable {X : Cx}
theorem Dz:j5 X "str.lower" (fun x xs H Q=>∃ z,x= .str z/\xs=[]/\z.length<=5592405/\Q (.str (Txt.lower z)) H):=by
 intro pins s σ H x xs v us Q I J rs h
 obtain⟨z,rfl,rfl,U,q⟩:=h
 obtain⟨t,rfl⟩:=J
 cases rs
 exact SCL.lower U fun _=>⟨.str _,H,I.tok _,⟨_,rfl⟩,q⟩
theorem wW:j5 X "str.upper" (fun x xs H Q=>∃ z,x= .str z/\xs=[]/\z.length<=5592405/\Q (.str (Txt.upper z)) H):=by
 intro pins s σ H x xs v us Q I J rs h
 obtain⟨z,rfl,rfl,U,q⟩:=h
 obtain⟨t,rfl⟩:=J
 cases rs
 exact SCL.upper U fun _=>⟨.str _,H,I.tok _,⟨_,rfl⟩,q⟩
theorem FZ:j5 X "str.strip" (fun x xs H Q=>∃ z,x= .str z/\xs=[]/\z.length<=sizeLine/\Q (.str (Txt.strip z)) H):=by
 intro pins s σ H x xs v us Q I J rs h
 obtain⟨z,rfl,rfl,U,q⟩:=h
 obtain⟨t,rfl⟩:=J
 cases rs
 exact SCL.strip (fun t' k _=>⟨.str _,H,I.tok _,⟨_,rfl⟩,q⟩) U
theorem y2:∀{ys:List Str} {us:List Value},Vals (ys.map V.str) us->StrsAre us ys
 | [],_,.nil=> .nil
 | y::ys,_,.cons r t=>by
  obtain⟨k,e⟩:=(show ∃ k,_=Value.str y k from r)
  subst e
  exact .cons y k (y2 t)
theorem wR:j5 X "str.join" (fun x xs H Q=>∃ z p ys,x= .str z/\xs=[.ref p]/\fj X.K H p (ys.map V.str)/\(ys.map (·.length)).sum + ys.length * z.length<=16777216/\Q (.str (Txt.join z ys)) H):=by
 intro pins s σ H x xs v us Q I J rs h
 obtain⟨z,p,ys,rfl,rfl,U,hz,q⟩:=h
 obtain⟨t,rfl⟩:=J
 obtain⟨u,rfl,r1⟩:=vals1 rs
 cases r1
 obtain⟨aa,r,pl,_⟩:=I.list U
 exact join_list pl.isList (by simpa using y2 r) hz fun t' k=>⟨.str _,H,I.tok _,⟨_,rfl⟩,q⟩
def AO:V->Option Int->Option Int->Hp->VK->Prop:=fun x lo hi H Q=>∃ z,x= .str z/\z.length<=sizeLine/\Q (.str (Txt.slice z lo hi)) H
theorem ka:tV X AO:=by
 intro pins s σ H x v vl vu lo hi sl Q I rx hs pl pu h
 obtain⟨z,rfl,J,q⟩:=h
 obtain⟨t,rfl⟩:=rx
 refine⟨"str",_,F.slot_str_getitem.lookup,typeIs_str _ _ _,?_⟩
 cases pl with
 | none=>
  cases pu with
  | none=>exact wpAny_getItem_str_slice (l:=none) (u:=none) (st:=none) hs rfl (post_val_or_str ⟨Nat.le_trans (Txt.slice_le z _ _) J,fun t' k=>⟨.str (Txt.slice z none none),H,I.tok _,⟨_,rfl⟩,q⟩⟩)
  | int j U=>exact wpAny_getItem_str_slice (l:=none) (u:=some (j,U)) (st:=none) hs rfl (post_val_or_str ⟨Nat.le_trans (Txt.slice_le z _ _) J,fun t' k=>⟨.str (Txt.slice z none (some j)),H,I.tok _,⟨_,rfl⟩,q⟩⟩)
 | int i ti=>
  cases pu with
  | none=>exact wpAny_getItem_str_slice (l:=some (i,ti)) (u:=none) (st:=none) hs rfl (post_val_or_str ⟨Nat.le_trans (Txt.slice_le z _ _) J,fun t' k=>⟨.str (Txt.slice z (some i) none),H,I.tok _,⟨_,rfl⟩,q⟩⟩)
  | int j U=>exact wpAny_getItem_str_slice (l:=some (i,ti)) (u:=some (j,U)) (st:=none) hs rfl (post_val_or_str ⟨Nat.le_trans (Txt.slice_le z _ _) J,fun t' k=>⟨.str (Txt.slice z (some i) (some j)),H,I.tok _,⟨_,rfl⟩,q⟩⟩)
theorem yS:g7 X (compareOp .LtE) (fun x y H Q=>∃ i j,x= .str i/\y= .str j/\Q (.bl (!(decide (j.cps.toList < i.cps.toList)))) H):=by
 intro pins s σ H x y v u Q I J U h
 obtain⟨i,j,rfl,rfl,q⟩:=h
 obtain⟨t,rfl⟩:=J
 obtain⟨t',rfl⟩:=U
 exact PySem.P.le_str ⟨.bl _,H,I,rfl,q⟩
mutual
inductive jg (K : PySem.W.Frag) (H : Hp) : V -> PyData -> Prop
 | non : jg K H .non .none
 | bl (b : Bool) : jg K H (.bl b) (.bool b)
 | int (i : Int) : jg K H (.int i) (.int i)
 | str (x : Str) : jg K H (.str x) (.str x)
 | lst {a : Addr} {xs : List V} {ds : List PyData} : fj K H a xs -> i8 K H xs ds -> jg K H (.ref a) (.list ds)
 | tup {a : Addr} {xs : List V} {ds : List PyData} : gb K H a xs -> i8 K H xs ds -> jg K H (.ref a) (.tuple ds)
inductive i8 (K : PySem.W.Frag) (H : Hp) : List V -> List PyData -> Prop
 | nil : i8 K H [] []
 | cons {x : V} {xs : List V} {d : PyData} {ds : List PyData} : jg K H x d -> i8 K H xs ds -> i8 K H (x :: xs) (d :: ds)
end
mutual
theorem jg.reads {pins : List (Addr × Obj)} {σ : St} {H : Hp} {s : Shared} (I : Inv X pins σ H s) : ∀ {x : V} {d : PyData} {u : Value}, jg X.K H x d -> RelV x u -> ∃ as, Reads s.heap u d as
 | _, _, _, .non, r => by cases r; exact ⟨_, .none⟩
 | _, _, _, .bl b, r => by cases r; exact ⟨_, .bool b⟩
 | _, _, _, .int i, r => by obtain ⟨t, rfl⟩ := r; exact ⟨_, .int i t⟩
 | _, _, _, .str x, r => by obtain ⟨t, rfl⟩ := r; exact ⟨_, .str x t⟩
 | _, _, _, .lst hq hs, r => by
  cases r
  obtain ⟨its, rv, ⟨o, n, e, c, _, d⟩, _⟩ := I.list hq
  obtain ⟨as, ra⟩ := i8.reads I hs rv
  exact ⟨_, .list e c d (by simpa using ra)⟩
 | _, _, _, .tup hq hs, r => by
  cases r
  obtain ⟨its, rv, ⟨o, e, c, n, d⟩, _⟩ := I.tuple hq
  obtain ⟨as, ra⟩ := i8.reads I hs rv
  exact ⟨_, .tuple e c d (by simpa using ra)⟩
theorem i8.reads {pins : List (Addr × Obj)} {σ : St} {H : Hp} {s : Shared} (I : Inv X pins σ H s) : ∀ {xs : List V} {ds : List PyData} {us : List Value}, i8 X.K H xs ds -> Vals xs us -> ∃ as, ReadsAll s.heap us ds as
 | _, _, _, .nil, .nil => ⟨_, .nil⟩
 | _, _, _, .cons h hs, .cons r rs => by
  obtain ⟨as, ra⟩ := jg.reads I h r
  obtain ⟨bs, rb⟩ := i8.reads I hs rs
  exact ⟨_, .cons ra rb⟩
end
def Fo(X:Cx):R2:=fun x y H Q=>∃ dx I,jg X.K H x dx/\jg X.K H y I/\dx.canLay0=true/\I.canLay0=true/\min dx.depth I.depth<=100/\Q (.bl (PyData.eqv dx I)) H
def Eo(X:Cx):R2:=fun x y H Q=>∃ dx I,jg X.K H x dx/\jg X.K H y I/\dx.canLay0=true/\I.canLay0=true/\min dx.depth I.depth<=100/\Q (.bl (!PyData.eqv dx I)) H
theorem qi(hu:X.A.units + 100 < cLine):g7 X (compareOp .Eq) (Fo X):=by
 intro pins s σ H x y v u Q I U ry h
 obtain⟨dx,dy,hx,hy,lx,J,hd,q⟩:=h
 obtain⟨as,ra⟩:=hx.reads I U
 obtain⟨bs,rb⟩:=hy.reads I ry
 exact SeqAt.compareEq_reads ra rb lx J (by(clear J lx;omega)) ⟨.bl _,H,I,rfl,q⟩
theorem oJ(hu:X.A.units + 100 < cLine):g7 X (compareOp .NotEq) (Eo X):=by
 intro pins s σ H x y v u Q I U ry h
 obtain⟨dx,dy,hx,hy,lx,J,hd,q⟩:=h
 obtain⟨as,ra⟩:=hx.reads I U
 obtain⟨bs,rb⟩:=hy.reads I ry
 exact SeqAt.compareNe_reads ra rb lx J (by(clear J lx;omega)) ⟨.bl _,H,I,rfl,q⟩
theorem rm:∀{bs:List Bool} {us:List Value},Vals (bs.map V.bl) us->∀(i:Nat) (v:Value),us[i]? =some v->∃ b,bs[i]? =some b/\v= .bool b
 | [],_,.nil,i,v,h=>by simp at h
 | b::bs,_,.cons r t,0,v,h=>by
  have I:_=Value.bool b:=r
  subst I
  simp at h
  exact⟨b,by simp,h.symm⟩
 | b::bs,_,.cons r t,i + 1,v,h=>by
  obtain⟨c,J,U⟩:=rm t i v (by simpa using h)
  exact⟨c,by simpa using J,U⟩
theorem vn(hc:X.calm=true):jc X (.builtin "all") (fun xs H Q=>∃(p:Addr) (bs:List Bool),xs=[.ref p]/\fj X.K H p (bs.map V.bl)/\Q (.bl (bs.all id)) H):=by
 intro pins s σ H xs us Q I r h
 obtain⟨p,bs,rfl,hq,q⟩:=h
 obtain⟨u,rfl,rx⟩:=vals1 r
 cases rx
 obtain⟨J,rv,pl,hz⟩:=I.list hq
 have U:=pl.isList
 have hlen:=rv.length
 rw [List.length_map] at hlen
 have aa:p < s.heap.objs.size:=by obtain⟨_,e,_⟩:=U;exact Heap.lt_size e
 refine call_all_walk (wpAny_pyIter_list U ?_)
 refine⟨s.heap.objs.size,[s.heap.objs.size,p],[s.heap.objs.size],J.toArray.size,_,_,fun i=>(bs[i]?).getD true,rfl,Walks.list (A:=X.A.in1) (I.ok.hd hc) _ p (Nat.ne_of_lt aa) J.toArray,
  ⟨⟨_,Heap.get?_push_size _ rfl,rfl,rfl⟩,U.push _⟩,fun i v s' Q' E' hP hQ=>?_,fun h' tk hk=>?_⟩
 ·obtain⟨b,e,rfl⟩:=rm rv i v (by simpa using hP)
  simp only [e,Option.getD_some] at hQ
  exact wpAny_truthy_bool hQ
 ·have e:((List.range J.toArray.size).all fun i=>(bs[i]?).getD true)=bs.all id:=by
   rw [List.size_toArray,<-hlen];exact LSm.range_all bs
  rw [e]
  exact⟨.bl _,H,I.kept (LSm.kept_iter hk),rfl,q⟩
theorem kx:jc X (.builtin "isinstance") (fun xs H Q=>∃ x c t b,xs=[x,c]/\ir X.K H x t/\
  ((∃ n,c= .ty n/\W.kitOne X.K t (.type n)=some b)\/(∃ C,c= .ref C/\W.kitOne X.K t (.ref C)=some b))/\Q (.bl b) H):=by
 intro pins s σ H xs us Q I r h
 obtain⟨x,c,t,b,rfl,ty,U,q⟩:=h
 obtain⟨u,w',rfl,J,rc⟩:=vals2 r
 rcases U with ⟨n,rfl,e⟩ | ⟨C,rfl,e⟩
 ·cases rc
  exact yP I J ty e fun tk=>⟨.bl b,H,I.tok tk,rfl,q⟩
 ·cases rc
  exact yP I J ty e fun tk=>⟨.bl b,H,I.tok tk,rfl,q⟩
end
section
variable {X : Cx} {pins : List (Addr × Obj)} {σ : St} {H H' : Hp} {s : Shared} {h' : Heap}
theorem Inv.track {a:Addr}{o:HO}(I:Inv X pins σ H s)(hs:X.s₀.heap.get? a=none\/a∈X.ex)(hn:H a=none)(hL:a≠X.env.locals)(hC:∀ x c,X.env.cells.lookup x=some c->c≠a)(hp:∀ p∈X.pn++pins,p.1≠a)
  (new:gI X.prog X.w (upd H a o) s.heap a o):Inv X pins σ (upd H a o) s:=by
 refine⟨I.ok,I.os,I.bare,⟨I.base.keep,I.base.slot,fun b U e n hx=>?_,I.base.there,fun b xs e=>?_,fun b U u e=>?_,fun b ps e=>?_⟩,I.loc,I.cell,?_,fun x c e=>?_,fun p J=>?_,fun b u e=>?_,I.len⟩
 ·have hb:b≠a:=by
   rintro rfl
   rcases hs with z | z
   ·rw [z] at e;cases e
   ·exact hx z
  rw [fB hb]
  exact I.base.free b U e n hx
 ·have q:=I.base.tups b xs e
  rw [fB (fW q hn)];exact q
 ·have q:=I.base.frzs b U u e
  rw [fB (fW q hn)];exact q
 ·obtain⟨m,q⟩:=I.base.tbls b ps e
  exact⟨m,by rw [fB (fW q hn)];exact q⟩
 ·rw [fB (Ne.symm hL)];exact I.free
 ·rw [fB (hC x c e)];exact I.freeC x c e
 ·obtain⟨e,n,r⟩:=I.pin p J
  exact⟨e,by rw [fB (hp p J)];exact n,r⟩
 ·by_cases hb:b=a
  ·subst hb;rw [fv] at e;cases e;exact new
  ·rw [fB hb] at e
   exact(I.hok b u e).stay (fun c v _ q=>q) (fun c q=>by rw [fB (fW q hn)];exact q) fun c xs q=>by rw [fB (fW q hn)];exact q
theorem Inv.turnedL {t':Nat}{fp:List Addr}(I:Inv X pins σ H s)(k:∀ b o,b∉fp->s.heap.get? b=some o->h'.get? b=some o)(hf:∀ b∈fp,kh X pins H b):Inv X pins σ H {s with heap:=h',toks:=t'}:=by
 have U:∀ b u,H b=some u->b∉fp:=fun b u e z=>by rw [(hf b z).1] at e;cases e
 refine I.step (g':=s.gens) (d':=s.drawn) (ch:=fp) (fun b hb=>?_) (fun b o _ _ J e _=>k b o J e) (fun b o _ _ J e _=>⟨o.slots,k b o J e⟩) (fun _ _ _ _ n=>n)
  (fun b o J e=>⟨o,k b o J e⟩) (fun _ _ e=>e) (fun _ _ _ e=>e) (fun b ps e=>⟨#[],by rw [e];simp⟩) (fun m hm=>?_) (fun b u e=>?_) I.bare
 ·obtain⟨f0,f1,f2,f3,f4,f5⟩:=hf b hb
  exact⟨f3,f1,f4,f5⟩
 ·obtain⟨o,es,ep,ho,r⟩:=hm
  exact⟨o,es,ep,k _ o (fun z=>(hf _ z).2.1 rfl) ho,r⟩
 ·refine(I.hok b u e).stay (fun c v J q=>k c v ?_ q) (fun _ q=>q) fun _ _ q=>q
  rcases J with z | z
  ·rw [z];exact U b u e
  ·exact U c _ z
end
def tQ(x:Str):It:=⟨fun i _=>i < x.cps.size,fun i H v H'=>H'=H/\∃ c,x.cps[i]? =some c/\v= .str ⟨#[c]⟩,fun i _=>i=x.cps.size⟩
theorem yd{P:Program}{w:World}{A:Around}(hh:A.handled=none)(I:Addr)(x:Str)(t:Tok):Walks P w A I [I] [I] x.cps.size (SignAt x) (fun i h=>h.IsStrIter I (strIterType x) x t i):=by
 unfold strIterType
 cases x.cps.all (· < 128)
 ·exact Walks.strWide hh I x t
 ·exact Walks.strAscii hh I x t
theorem IJ{x:Str}:["enumerate","zip","dict_itemiterator","dict_reverseitemiterator","odict_iterator","itertools.zip_longest","itertools.pairwise"].contains (strIterType x)=false:=by
 unfold strIterType
 cases x.cps.all (· < 128)<;>decide
theorem Dp{P:Program}{w:World}{K:W.Frag}{tg:Expr}(x:Str)(t:Tok)(it:Addr):Turn P w K tg (tQ x) [it] it (fun i h=>h.IsStrIter it (strIterType x) x t i) where
 mem:=by simp
 obj:=fun i h st b hb=>by
  have e:b=it:=by simpa using hb
  subst e
  obtain⟨o,e,c,d⟩:=st
  exact⟨o,e,fun v z=>by rw [d] at z;cases z⟩
 keep:=fun i h h' st k=>by
  obtain⟨o,e,r⟩:=st
  exact⟨o,k it (by simp) o e,r⟩
 item:=by
  intro X U hw hK hc i pins s σ H E I hf st hg
  subst U hw hK
  refine(yd (P:=X.prog) (w:=X.w) (I.ok.hd hc) it x t).item i s _ _ hg st fun v h' tk hv J kk=>?_
  obtain⟨c,u,aa,rfl⟩:=hv
  have I1:Inv X pins σ H {s with heap:=h',toks:=tk}:=I.turnedL kk hf
  obtain⟨o,e,c2,d⟩:=id J
  exact⟨_,rfl,qk (s:={s with heap:=h',toks:=tk}) e c2 d IJ ⟨.str ⟨#[c]⟩,H,I1,⟨u,rfl⟩,⟨rfl,c,aa,rfl⟩,J,fun b hb=>(hf b hb).1⟩⟩
 done:=by
  intro X U hw hK hc i pins s σ H E I hf st hg
  subst U hw hK
  have ab:i=x.cps.size:=hg
  subst ab
  exact(yd (P:=X.prog) (w:=X.w) (I.ok.hd hc) it x t).done s _ _ st fun h' tk kk=>⟨rfl,I.turnedL kk hf⟩
 self:=fun A i s Q E st h=>by
  revert st
  unfold strIterType
  cases x.cps.all (· < 128)
  ·exact fun st=>wpAny_pyIter_striter_wide st h
  ·exact fun st=>wpAny_pyIter_striter_ascii st h
def Dl(tl:TE):TI:=fun σ H R=>tl σ H fun v H1=>∃ x,v= .str x/\R (tQ x) H1
section
variable {X : Cx} {tg : Expr}
theorem zP{l:Expr}{tl:TE}(hl:PE X l tl):PI X tg l (Dl tl):=by
 intro pins s σ H R I h
 refine fK (hl pins s σ H _ I h) fun v s1 ⟨y,H1,J,U,x,e,q⟩=>?_
 subst e
 obtain⟨t,rfl⟩:=U
 refine wpAny_pyIter_strU ?_
 refine⟨s1.heap.objs.size,[s1.heap.objs.size],_,_,H1,rfl,J.kept (t':=s1.toks) fun b o e=>Heap.get?_push_of_some _ e,Dp x t _,⟨_,Heap.get?_push_size _ rfl,rfl,rfl⟩,fun b hb=>?_,q⟩
 have e:b=s1.heap.objs.size:=by simpa using hb
 subst e
 exact J.fpOk (Nat.le_refl _) (J.hok.fresh (Nat.le_refl _))
end
theorem yA{P:Program}{w:World}{A:Around}(hh:A.handled=none)(it:Addr)(x:Str)(t:Tok):
  Draws P w A it [it] x.cps.size (fun i v=>∃ c u,x.cps[i]? =some c/\v= .str ⟨#[c]⟩ u) (fun i h=>h.IsStrIter it (strIterType x) x t i):=by
 unfold strIterType
 cases x.cps.all (· < 128)
 ·exact Draws.strWide hh it x t
 ·exact Draws.strAscii hh it x t
def pW(x:Str):It:=⟨fun i _=>i < x.cps.size,fun i H v H'=>∃ T c,H T=none/\x.cps[i]? =some c/\v= .ref T/\H'=upd H T (.tup [.int i,.str ⟨#[c]⟩]),fun i _=>i=x.cps.size⟩
theorem A6{P:Program}{w:World}{K:PySem.W.Frag}{elts:List Expr}{k:Nat}{pos:Pos}(x:Str)(t:Tok)(e it:Addr)(hei:e≠it):
  Turn P w K (.Tuple elts k pos) (pW x) [e,it] e (fun i h=>(∃ old,IsEnum h e it i old)/\h.IsStrIter it (strIterType x) x t i) where
 mem:=by simp
 obj:=fun i h st b hb=>by
  obtain⟨⟨old,he⟩,o,ho,c,d⟩:=st
  rcases List.mem_cons.mp hb with rfl | hb
  ·exact⟨_,he,fun v z=>nomatch z⟩
  ·have e:b=it:=by simpa using hb
   subst e
   exact⟨o,ho,fun v z=>by rw [d] at z;cases z⟩
 keep:=fun i h h' st U=>by
  obtain⟨⟨old,he⟩,o,ho,r⟩:=st
  exact⟨⟨old,U e (by simp) _ he⟩,o,U it (by simp) o ho,r⟩
 item:=by
  intro X hP hw hK hc i pins s σ H E I hf st hg
  subst hP hw hK
  have W:=WalksT.enumerateD (yA (P:=X.prog) (w:=X.w) (A:=X.A.in1) (I.ok.hd hc) it x t) e hei (by simpa using hei) (by simp)
  refine W.item i s _ _ hg st fun T vals h' tk hv hT ht mid U=>⟨_,rfl,?_⟩
  obtain⟨t',y,⟨c,u,hx,rfl⟩,rfl⟩:=hv
  refine W.go elts k pos i T _ _ _ mid fun J aa ab=>?_
  have keep:∀ b o,b∉[e,it]->s.heap.get? b=some o->J.get? b=some o:=fun b o hb q=>ab b o hb (U b o hb q)
  have I1:Inv X pins σ H {s with heap:=J,toks:=tk}:=I.turnedL keep hf
  have hn:H T=none:=I.hok.fresh hT
  have ae:T∉[e,it]:=W.apart i T h' mid
  obtain⟨ot,af,ag,n,ah⟩:=ht
  have I2:Inv X pins σ (upd H T (.tup [.int i,.str ⟨#[c]⟩])) {s with heap:=J,toks:=tk}:=by
   refine I1.track (.inl (Heap.get?_none_of_le (Nat.le_trans I.sz hT))) hn (Nat.ne_of_gt (Nat.lt_of_lt_of_le I.lt hT)) (fun y c' q z=>?_) (fun p hp z=>?_) ?_
   ·obtain⟨v,q'⟩:=I.cell y c' q
    exact absurd (Nat.lt_of_lt_of_le q'.lt (by rw [z];exact hT)) (Nat.lt_irrefl _)
   ·exact absurd (Nat.lt_of_lt_of_le (Heap.lt_size (I.pin p hp).1) (by rw [z];exact hT)) (Nat.lt_irrefl _)
   ·exact⟨by show 2<=sizeLine;decide,[.int i t',.str ⟨#[c]⟩ u],.cons ⟨_,rfl⟩ (.cons ⟨_,rfl⟩ .nil),ot,ab T ot ae af,ag,n,ah⟩
  refine⟨.ref T,_,I2,rfl,⟨T,c,hn,hx,rfl,rfl⟩,aa,fun b hb=>?_⟩
  have ai:b≠T:=fun z=>ae (z ▸ hb)
  rw [fB ai]
  exact(hf b hb).1
 done:=by
  intro X hP hw hK hc i pins s σ H E I hf st hg
  subst hP hw hK
  have aj:i=x.cps.size:=hg
  subst aj
  have W:=WalksT.enumerateD (yA (P:=X.prog) (w:=X.w) (A:=X.A.in1) (I.ok.hd hc) it x t) e hei (by simpa using hei) (by simp)
  exact W.done s _ _ st fun h' tk U=>⟨rfl,I.turnedL U hf⟩
 self:=fun A i s Q E st h=>by
  obtain⟨⟨old,he⟩,_⟩:=st
  exact wpAny_pyIter_enum he h
def Dq(ta:TA):TI:=fun σ H R=>ta σ H fun vs H1=>∃ x,vs=[.str x]/\R (pW x) H1
section
variable {X : Cx}
theorem Dd{elts:List Expr}{k:Nat}{tpos p pos:Pos}{a:Expr}{ta:TA}(hg:Gl X "enumerate")(hm:X.mg "enumerate"=none)(ha:PA X [a] ta)(hs:starEach [a] X.env=[(false,eval a X.env)]:=by rfl):
  PI X (.Tuple elts k tpos) (.Call (.Name "enumerate" p) [a] [] pos) (Dq ta):=by
 intro pins s σ H R I h
 refine Call_ (oB I hg hm boot_enumerate (PyProof.Rows.callWith_type1 (fK (ha pos pins s σ H _ I h) fun us s1 ⟨vs,H1,J,U,q1⟩=>?_) hs rfl))
 obtain⟨x,e,q⟩:=q1
 subst e
 obtain⟨u,rfl,t,rfl⟩:=vals1 U
 refine call_enumerate_str fun h' he hit hsz hk=>?_
 refine wpAny_pyIter_enum he ?_
 refine⟨s1.heap.objs.size + 1,[s1.heap.objs.size + 1,s1.heap.objs.size],_,_,H1,rfl,J.kept (t':=s1.toks) hk,A6 x t _ _ (Nat.succ_ne_self _),⟨⟨_,he⟩,hit⟩,fun b hb=>?_,q⟩
 rcases List.mem_cons.mp hb with rfl | hb
 ·exact J.fpOk (Nat.le_succ _) (J.hok.fresh (Nat.le_succ _))
 ·have e:b=s1.heap.objs.size:=by simpa using hb
  subst e
  exact J.fpOk (Nat.le_refl _) (J.hok.fresh (Nat.le_refl _))
end
theorem E3{x:Str}{g:TG}{tb:TS}{D:Ends}{σ:St}{H:Hp}(Pv:Nat->St->Hp->Prop)(h0:Pv 0 σ H)
  (hs:∀ i c σ H T,x.cps[i]? =some c->Pv i σ H->H T=none->g (.ref T) σ (upd H T (.tup [.int i,.str ⟨#[c]⟩])) fun σ2 H2=>tb {D with nx:=Pv (i + 1),ct:=Pv (i + 1),bk:=D.nx} σ2 H2)(hd:∀ σ H,Pv x.cps.size σ H->D.nx σ H):
  ∃ W:Nat->Nat->St->Hp->Prop,(∃ m,W 0 m σ H)/\∀ i m σ H,W i m σ H->
   ((pW x).stop i H/\D.nx σ H)\/((pW x).go i H/\∃ N:St->Hp->Prop,(∀ σ' H',N σ' H'->∃ m',m' < m/\W (i + 1) m' σ' H')/\∀ y H',(pW x).yld i H y H'->g y σ H' fun σ2 H2=>tb {D with nx:=N,ct:=N,bk:=D.nx} σ2 H2):=by
 refine⟨fun i m σ H=>m=x.cps.size - i/\i<=x.cps.size/\Pv i σ H,⟨x.cps.size,by simp,Nat.zero_le _,h0⟩,?_⟩
 rintro i m σ H ⟨rfl,hi,p⟩
 by_cases I:i < x.cps.size
 ·refine .inr ⟨I,Pv (i + 1),fun σ' H' J=>⟨x.cps.size - (i + 1),by(clear hi;omega),rfl,I,J⟩,fun y H' q=>?_⟩
  obtain⟨T,c,U,hc,e,e2⟩:=q
  subst e e2
  exact hs i c σ _ T hc p U
 ·have e:i=x.cps.size:=by omega
  subst e
  exact .inl ⟨rfl,hd σ H p⟩
open PySem
def jZ(env:Env):List (Str×NameKind)->List (Str×Addr)->List (Str×Addr)
 | [],cs=>cs
 | (n,k)::r,cs=>jZ env r (if (k == NameKind.free)=true then (n,(env.cells.lookup n).getD 0)::cs else cs)
theorem Ek{scope:Scope}{env:Env}(h:∀ x∈scope.names,x.2= .free->∃ c,env.cells.lookup x.1=some c):closureFor scope env=pure (jZ env scope.names []):=by
 unfold closureFor
 have go:∀(names:List (Str×NameKind)) (cs:List (Str×Addr)),(∀ x∈names,x.2= .free->∃ c,env.cells.lookup x.1=some c)->
   (forIn names cs fun(x:Str×NameKind) (r:List (Str×Addr))=>(match x with
    | (name,kind)=>if (kind == NameKind.free)=true then do let a<-cellOf env name;pure (ForInStep.yield ((name,a)::r)) else pure (ForInStep.yield r):Sem (ForInStep (List (Str×Addr)))))=pure (jZ env names cs):=by
  intro names
  induction names with
  | nil=>intro cs _;rfl
  | cons x r I=>
   intro cs h
   obtain⟨n,k⟩:=x
   rw [List.forIn_cons]
   have J:=fun y hy=>h y (List.mem_cons_of_mem _ hy)
   cases hk:(k == NameKind.free) with
   | false=>
    simp only [hk,Bool.false_eq_true,if_false]
    show(pure (ForInStep.yield cs) >>= _:Sem _)=_
    simp only [pure_bind]
    rw [I cs J]
    simp only [jZ,hk,Bool.false_eq_true,if_false]
   | true=>
    obtain⟨c,U⟩:=h (n,k) List.mem_cons_self (by simpa using hk)
    have e:cellOf env n=pure c:=by unfold cellOf;rw [show env.cells.lookup n=some c from U]
    simp only [hk,if_true,e,pure_bind]
    rw [I _ J]
    simp only [jZ,hk,if_true]
    rw [show env.cells.lookup n=some c from U]
    rfl
 exact congrArg (fun m:Sem (List (Str×Addr))=>m >>= fun r=>pure r) (go scope.names [] h)
theorem zG{env:Env}{x:Str}{c:Addr}:∀{names:List (Str×NameKind)} {cs:List (Str×Addr)},(jZ env names cs).lookup x=some c->cs.lookup x=some c\/((x,NameKind.free)∈names/\c=(env.cells.lookup x).getD 0)
 | [],_,h=> .inl h
 | (n,k)::r,cs,h=>by
  rcases zG (names:=r) h with q | ⟨q,e⟩
  ·cases hk:(k == NameKind.free) with
   | false=>rw [hk] at q;exact .inl q
   | true=>
    rw [hk,if_pos rfl] at q
    have I:k=NameKind.free:=by simpa using hk
    subst I
    cases hx:x == n with
    | true=>
     rw [List.lookup_cons,hx] at q
     have e:x=n:=by simpa using hx
     subst e
     exact .inr ⟨List.mem_cons_self,(Option.some.inj q).symm⟩
    | false=>
     rw [List.lookup_cons,hx] at q
     exact .inl q
  ·exact .inr ⟨List.mem_cons_of_mem _ q,e⟩
theorem q8{env:Env}{x:Str}:∀{names:List (Str×NameKind)} {cs:List (Str×Addr)},(x,NameKind.free)∈names\/(∃ c,cs.lookup x=some c)->∃ c,(jZ env names cs).lookup x=some c
 | [],_,h=>by
  rcases h with h | h
  ·cases h
  ·exact h
 | (n,k)::r,cs,h=>by
  refine q8 (names:=r) ?_
  rcases h with h | ⟨c,h⟩
  ·rcases List.mem_cons.mp h with e | e
   ·cases e
    refine .inr ⟨(env.cells.lookup x).getD 0,?_⟩
    rw [if_pos (by rfl),List.lookup_cons]
    simp
   ·exact .inl e
  ·refine .inr ?_
   cases hk:(k == NameKind.free) with
   | false=>exact⟨c,h⟩
   | true=>
    rw [if_pos rfl,List.lookup_cons]
    cases hx:x == n with
    | true=>exact⟨_,rfl⟩
    | false=>exact⟨c,h⟩
theorem zB{env:Env}(hf:env.scope.kind= .function):∀{names:List (Str×NameKind)} {x:Str},names.lookup x=some .free->env.kindOf x=some .cell->
  (names.map fun(n,k)=>if (k == NameKind.free && env.scope.kind == .function && env.kindOf n == some .cell) then (n,NameKind.cell) else (n,k)).lookup x=some .cell
 | [],_,h,_=>by simp at h
 | (n,k)::r,x,h,J=>by
  have U:=@zB env hf r x
  show List.lookup x ((if (k == NameKind.free && env.scope.kind == .function && env.kindOf n == some .cell)=true then (n,NameKind.cell) else (n,k))::_)=_
  cases hx:x == n with
  | true=>
   have e:x=n:=by simpa using hx
   subst e
   simp only [List.lookup_cons,hx] at h
   cases h
   rw [if_pos (by rw [hf,J];rfl)]
   simp [List.lookup_cons]
  | false=>
   simp only [List.lookup_cons,hx] at h
   by_cases I:(k == NameKind.free && env.scope.kind == .function && env.kindOf n == some .cell)=true
   ·rw [if_pos I];simp only [List.lookup_cons,hx];exact U h J
   ·rw [if_neg I];simp only [List.lookup_cons,hx];exact U h J
theorem vH{env:Env}:∀{names:List (Str×NameKind)} {x:Str} {k':NameKind},(∀ y∈names,y.2≠ .cell)->(k'= .cell\/k'= .free)->
  (names.map fun(n,k)=>if (k == NameKind.free && env.scope.kind == .function && env.kindOf n == some .cell) then (n,NameKind.cell) else (n,k)).lookup x=some k'->(x,NameKind.free)∈names
 | [],_,_,_,_,h=>by simp at h
 | (n,k)::r,x,k',hn,hk,h=>by
  have ih:=@vH env r x k' (fun y hy=>hn y (List.mem_cons_of_mem _ hy)) hk
  have h':List.lookup x ((if (k == NameKind.free && env.scope.kind == .function && env.kindOf n == some .cell)=true then (n,NameKind.cell) else (n,k))::r.map fun(n,k)=>if (k == NameKind.free && env.scope.kind == .function && env.kindOf n == some .cell) then (n,NameKind.cell) else (n,k))=some k':=h
  have J:k≠ .cell:=hn (n,k) List.mem_cons_self
  by_cases I:(k == NameKind.free && env.scope.kind == .function && env.kindOf n == some .cell)=true
  ·rw [if_pos I,List.lookup_cons] at h'
   have U:k= .free:=by
    rw [Bool.and_eq_true,Bool.and_eq_true] at I
    simpa using I.1.1
   cases hx:x == n with
   | true=>
    have e:x=n:=by simpa using hx
    subst e
    rw [U]
    exact List.mem_cons_self
   | false=>rw [hx] at h';exact List.mem_cons_of_mem _ (ih h')
  ·rw [if_neg I,List.lookup_cons] at h'
   cases hx:x == n with
   | true=>
    rw [hx] at h'
    have e:x=n:=by simpa using hx
    subst e
    have e2:k=k':=Option.some.inj h'
    subst e2
    rcases hk with z | z
    ·exact absurd z J
    ·rw [z];exact List.mem_cons_self
   | false=>rw [hx] at h';exact List.mem_cons_of_mem _ (ih h')
section
variable {prog : Program} {w : World} {A : Around} {R : Result -> Shared -> Prop} {s : Shared}
theorem A7{elt target iter:Expr}{ifs:List Expr}{scope:Scope}{pos:Pos}{it acc:Value}{env:Env}(I:Nat->Shared->Prop)
  (turn:∀ n s,I n s->wpAny (model prog w) A (pyNext it) (fun r s₁=>match r with
   | none=>R (.ok .next) s₁
   | some v=>wpAny (model prog w) A (letOwnedTupleGo target it v) (fun _ s₀=>wpAny (model prog w) A (assign target env v) (fun _ s₂=>
     wpAny (model prog w) A (forIn ifs true fun c r=>if r=true then do let ok<-isTrue c env (eval c env);pure (ForInStep.yield ok) else pure (ForInStep.yield r)) (fun ok s₃=>
      if ok=true then wpAny (model prog w) A (eval elt env) (fun x s₄=>
       wpAny (model prog w) A (call (.builtin "list.append") [acc,x]) (fun _ s₅=>∃ m,m < n/\I m s₅) (fun _ _=>False) s₄) (fun _ _=>False) s₃
      else ∃ m,m < n/\I m s₃) (fun _ _=>False) s₂) (fun _ _=>False) s₀) (fun _ _=>False) s₁) (fun _ _=>False) s)
  (n:Nat)(h:I n s):
  codeAny (model prog w) A (.compLoop (.ListComp elt [⟨target,iter,ifs,0⟩] scope pos) 0 it acc env) R s:=by
 refine codeAny_loop rfl I (fun n s hI=>?_) n h
 show wpAny _ A ((compTurn (.ListComp elt [⟨target,iter,ifs,0⟩] scope pos) 0 it acc env).onRaise (fun x=>do noteFrame x env;theTreesLotGoes x)) _ _ s
 refine wpAny_noted ?_
 rw [compTurn_list]
 refine wpAny_bind (wpAny_standAt (wpAny_bind (wpAny_mono (turn n s hI) (fun r s₁ J=>?_) fun _ _ h'=>h'.elim)))
 cases r with
 | none=>exact wpAny_pure J
 | some v=>
  refine wpAny_bind (wpAny_mono J (fun _ s₀ h₀=>?_) fun _ _ h'=>h'.elim)
  refine wpAny_bind (wpAny_mono h₀ (fun _ s₂ aa=>wpAny_bind (wpAny_mono aa (fun ok s₃ U=>?_) fun _ _ h'=>h'.elim)) fun _ _ h'=>h'.elim)
  cases ok with
  | false=>exact wpAny_pure ⟨rfl,U⟩
  | true=>
   exact wpAny_bind (wpAny_bind (wpAny_mono U (fun x s₄ ab=>wpAny_bind (wpAny_mono ab (fun _ s₅ ae=>wpAny_pure (wpAny_pure ⟨rfl,ae⟩)) fun _ _ h'=>h'.elim)) fun _ _ h'=>h'.elim))
end
def iy(X:Cx)(scope:Scope)(N:List Str)(s₀:Shared)(H₀:Hp)(ex:List Addr):Cx:=
 {X with N:=N,s₀:=s₀,H₀:=H₀,env:=compEnvC scope (jZ X.env scope.names []) s₀.heap.objs.size X.env,outer:=X.stack,ex:=ex,fn:=fun _=>false,pn:=[],xe:=fun _ _=>False}
section
variable {X : Cx} {c : Expr} {t : TT}
def fS(X:Cx)(ifs:List Expr)(t:TT):Prop:=∀(pins:List (Addr×Obj)) (s:Shared) (σ:St) (H:Hp) (Q:Bool->Hp->Prop),Inv X pins σ H s->t σ H Q->
 wpAny (model X.prog X.w) X.A (forIn ifs true fun c r=>if r=true then do let ok<-isTrue c X.env (eval c X.env);pure (ForInStep.yield ok) else pure (ForInStep.yield r)) (TP X pins σ Q) X.xe s
def q5:TT:=fun _ H Q=>Q true H
theorem iL:fS X [] q5:=fun _ _ _ H _ I h=>wpAny_tests_nil ⟨H,I,h⟩
theorem qE(h:PT X c t):fS X [c] t:=fun pins s σ H Q I J=>wpAny_tests_one (h pins s σ H Q I J)
end
def oo(own:Nat)(g:TG):Prop:=∀ x σ H Q J,g x σ H Q->(∀ I H',Q I H'->I.length=σ.length->(∀ j v,own<=j->σ[j]? =some (some v)->I[j]? =some (some v))->J I H')->g x σ H J
def sG(own:Nat)(g:ky):Prop:=∀ xs σ H Q J,g xs σ H Q->(∀ I H',Q I H'->I.length=σ.length->(∀ j v,own<=j->σ[j]? =some (some v)->I[j]? =some (some v))->J I H')->g xs σ H J
theorem gY{own i:Nat}(hi:i < own):oo own (jC i):=fun x σ H Q I h k=>k _ H h (by simp) fun j v J e=>by rw [List.getElem?_set_ne (by(clear e;omega))];exact e
theorem rT{own:Nat}:sG own zw:=fun xs σ H Q I ⟨e,h⟩ k=>⟨e,k σ H h rfl fun _ _ _ e=>e⟩
theorem k9{own:Nat}{t:TG}{u:ky}(h1:oo own t)(h2:sG own u):sG own (yY t u):=fun xs σ H Q Q' ⟨v,r,e,h⟩ k=>
 ⟨v,r,e,h1 v σ H _ _ h fun J H' q l1 k1=>h2 r J H' _ _ q fun I U q2 l2 k2=>k I U q2 (l2.trans l1) fun j w hj e=>k2 j w hj (k1 j w hj e)⟩
theorem qR{own n:Nat}{K:W.Frag}{t:ky}(h:sG own t):oo own (zl K n t):=fun x σ H Q I ⟨a,xs,e,J,U,q⟩ k=>⟨a,xs,e,J,U,h xs σ H Q I q k⟩
def lC(own:Nat)(caps:List Nat)(σ:St):St:=List.replicate own none++caps.map fun j=>(σ[j]?).join
def oa(J:It)(g:TG)(tc:TT)(te:TE)(σ0:St)(Q:VK)(H:Hp):Prop:=
  ∃ W:Nat->Nat->List V->Hp->Prop,(∃ m,W 0 m [] H)/\∀ i m ys H,W i m ys H->
   (J.stop i H/\ys.length<=sizeLine/\∀ p,H p=none->Q (.ref p) (upd H p (.lst ys)))\/
   (J.go i H/\ys.length < sizeLine/\∀ x H',J.yld i H x H'->g x σ0 H' fun I H2=>tc I H2 fun b H3=>
    if b=true then te I H3 fun y H4=>∃ U,U < m/\W (i + 1) U (ys++[y]) H4 else ∃ U,U < m/\W (i + 1) U ys H3)
def qd(own:Nat)(caps:List Nat)(wi:TI)(g:TG)(tc:TT)(te:TE):TE:=fun σ H Q=>wi σ H fun J H1=>oa J g tc te (lC own caps σ) Q H1
theorem yp{a:Addr}{o:Obj}:∀ p∈[(a,o)],p.1=a:=fun p I=>by rw [List.mem_singleton.mp I]
section
variable {X : Cx}
theorem Cd{scope:Scope}{N:List Str}{pins:List (Addr×Obj)}{σ σ':St}{H2 He:Hp}{s2 s1:Shared}{hp h':Heap}{fp:List Addr}{ys:List V}{its:List Value}{na:Nat}{lo:Obj}
  (I2:Inv X pins σ H2 s2)(f2:∀ b∈fp,kh X pins H2 b)(ehp:hp=s2.heap.push lo)
  (J:Inv (iy X scope N {s2 with heap:=hp} H2 (s2.heap.objs.size::fp)) [(s2.heap.objs.size,{cls:= .type "list",data:= .seq its.toArray na})] σ' He s1)
  (hsb:Heap.SameBut hp.objs.size s1.heap h')(hv:Vals ys its)(hz:ys.length<=sizeLine):
  Inv X pins σ (upd He s2.heap.objs.size (.lst ys)) {s1 with heap:=h'}:=by
 have hC:hp.objs.size=s2.heap.objs.size + 1:=by rw [ehp,Heap.size_push]
 have below:∀{b:Addr} {o:Obj},s2.heap.get? b=some o->b≠hp.objs.size/\b≠s2.heap.objs.size:=fun{b o} e=>by
  have q:=Heap.lt_size e
  exact⟨by rw [hC];exact Nat.ne_of_lt (Nat.lt_succ_of_lt q),Nat.ne_of_lt q⟩
 have up:∀{b:Addr} {o:Obj},s2.heap.get? b=some o->hp.get? b=some o:=fun e=>by rw [ehp];exact Heap.get?_push_of_some _ e
 have un:Un (gz X.stack) (s2.heap.objs.size::fp) H2 He hp s1.heap:=J.base
 have nD:∀{b:Addr} {o:Obj},s2.heap.get? b=some o->b∉fp->b∉s2.heap.objs.size::fp:=fun e U z=>(List.mem_cons.mp z).elim (below e).2 U
 have I:He hp.objs.size=none:=J.free
 have u2:Un (gz X.stack) fp H2 He s2.heap h':=by
  refine⟨fun b o e n hb U=>?_,fun b o e n hb U=>?_,fun b o e n U=>?_,fun b o e U=>?_,un.tups,un.frzs,un.tbls⟩
  ·exact(hsb.2 b (below e).1).trans (un.keep b o (up e) n hb (nD e U))
  ·obtain⟨sl,q⟩:=un.slot b o (up e) n hb (nD e U)
   exact⟨sl,(hsb.2 b (below e).1).trans q⟩
  ·exact un.free b o (up e) n (nD e U)
  ·obtain⟨o',q⟩:=un.there b o (up e) (nD e U)
   exact⟨o',(hsb.2 b (below e).1).trans q⟩
 have hok:gG X.prog X.w He h':=fun b u e=>by
  refine(J.hok b u e).stay (fun c v hc q=>(hsb.2 c ?_).trans q) (fun _ q=>q) fun _ _ q=>q
  rintro rfl
  rcases hc with z | z
  ·rw [<-z,I] at e;cases e
  ·rw [I] at z;cases z
 have I3:Inv X pins σ He {s1 with heap:=h'}:=I2.call' (s':={s1 with heap:=h'}) (ch:=fp) J.os u2 hok J.bare fun b hb=>by
  obtain⟨f0,f1,f3,f4,f5,f6⟩:=f2 b hb
  exact⟨f4,f1,f5,f6⟩
 obtain⟨pe,pn,_⟩:=J.pin _ (List.mem_append_right _ List.mem_cons_self)
 refine I3.track (.inl (Heap.get?_none_of_le I2.sz)) pn (Nat.ne_of_gt I2.lt) (fun y c' q z=>?_) (fun p aa z=>?_) ?_
 ·obtain⟨v,q'⟩:=I2.cell y c' q
  exact absurd q'.lt (by rw [z];exact Nat.lt_irrefl _)
 ·exact absurd (Heap.lt_size (I2.pin p aa).1) (by rw [z];exact Nat.lt_irrefl _)
 ·exact⟨hz,its,na,hv,(hsb.2 _ (by rw [hC];exact Nat.ne_of_lt (Nat.lt_succ_self _))).trans pe⟩
theorem zN{elt target iter:Expr}{ifs:List Expr}{scope sc0:Scope}{pos:Pos}{N N0:List Str}{own:Nat}{caps:List Nat}{wi:TI}{g:TG}{tc:TT}{te:TE}
  (hcalm:X.calm=true)(hi:PI X target iter wi)
  (hg:∀ s₀ H₀ ex,PG (iy X scope N s₀ H₀ ex) target g)(hc:∀ s₀ H₀ ex,fS (iy X scope N s₀ H₀ ex) ifs tc)(he:∀ s₀ H₀ ex,PE (iy X scope N s₀ H₀ ex) elt te)(hk:oo own g)
  (hX:X.N=N0)(hsc:X.env.scope=sc0)
  (hcell:∀ y∈scope.names,y.2≠ .cell)(hkind:scope.kind= .function)(hnames:∀ y∈scope.names,y.2= .local->scope.names.lookup y.1=some .local)
  (hfree:∀ y∈scope.names,y.2= .free->sc0.names.lookup y.1=some .cell)(hN:N.length=own + caps.length)
  (hcap:∀ p∈caps.zip (N.drop own),N0[p.1]? =some p.2/\scope.names.lookup p.2=some .free)
  (hs:∀ x,foldedSetIterable iter X.env x=pure x)
  {use:Option (Value->Sem Unit)}{Qf:Value->Shared->Prop}{pins:List (Addr×Obj)}{s:Shared}{σ:St}{H:Hp}{Q:VK}{cpos:Pos}(I:Inv X pins σ H s)(h:qd own caps wi g tc te σ H Q)
  (hR:∀(D C:Addr) (s':Shared) (He:Hp) (ys:List V) (m:Str->Option Value) (f:Flow),s'.heap.Ns C m->(∀ h',Heap.SameBut C s'.heap h'->Inv X pins σ (upd He D (.lst ys)) {s' with heap:=h'})->
   kh X pins (upd He D (.lst ys)) C->Q (.ref D) (upd He D (.lst ys))->compPost (model X.prog X.w) X.A X.xe use Qf (.ref D) C (.ok f) s'):
  wpAny (model X.prog X.w) X.A (comprehension (.ListComp elt [⟨target,iter,ifs,0⟩] scope pos) scope X.env cpos (newList []) false (eval iter X.env) use) Qf X.xe s:=by
 have ab:∀ y∈scope.names,y.2= .free->X.env.kindOf y.1=some .cell:=fun y hy e=>by
  show X.env.scope.names.lookup y.1=some .cell
  rw [hsc];exact hfree y hy e
 refine wpAny_comprehension_free (use:=use) rfl hs (Ek fun y hy e=>I.ok.has y.1 (.inl (ab y hy e))) hkind hnames ?_
 refine fK (hi pins s σ H _ I h) fun v s1 h1=>fK h1 fun aY s2 h2=>?_
 obtain⟨it,fp,tn,J,H2,e,I2,T,aC,f2,W,⟨m0,w0⟩,turn⟩:=h2
 subst e
 refine wpAny_newObj_type (wpAny_newFunctionEnv hcell (by intro y hy;simp at hy) (fun ak af ag=>?_) hkind)
 dsimp only at af ag ⊢
 generalize ah:s2.heap.push {cls:= .type "list",dict:=none,data:= .seq ([]:List Value).toArray}=hp at af ag ⊢
 have hC:hp.objs.size=s2.heap.objs.size + 1:=by rw [<-ah,Heap.size_push]
 have ai:s2.heap.objs.size≠hp.objs.size:=by rw [hC];exact Nat.ne_of_lt (Nat.lt_succ_self _)
 have av:hp.get? s2.heap.objs.size=some {cls:= .type "list",data:= .seq ([]:List Value).toArray}:=by rw [<-ah];exact Heap.get?_push_size _ rfl
 have up:∀{b:Addr} {o:Obj},s2.heap.get? b=some o->hp.get? b=some o:=fun e=>by rw [<-ah];exact Heap.get?_push_of_some _ e
 have up1:∀{b:Addr} {o:Obj},hp.get? b=some o->ak.get? b=some o:=fun{b o} e=>ag.extBut b o (Nat.ne_of_lt (Heap.lt_size e)) (Heap.get?_push_of_some _ e)
 have aB:∀{b:Addr} {o:Obj},s2.heap.get? b=some o->b < s2.heap.objs.size:=fun e=>Heap.lt_size e
 have aQ:∀ b∈fp,∃ o,s2.heap.get? b=some o:=fun b hb=>by obtain⟨o,e,_⟩:=T.obj 0 _ aC b hb;exact⟨o,e⟩
 have aw:∀ b∈fp,b≠hp.objs.size/\b≠s2.heap.objs.size:=fun b hb=>by
  obtain⟨o,e⟩:=aQ b hb
  have q:=aB e
  exact⟨by rw [hC];exact Nat.ne_of_lt (Nat.lt_succ_of_lt q),Nat.ne_of_lt q⟩
 have aa:∀{x:Str} {c:Addr},(jZ X.env scope.names []).lookup x=some c->X.env.cells.lookup x=some c/\X.env.kindOf x=some .cell:=fun{x c} q=>by
  rcases zG q with z | ⟨z,e⟩
  ·cases z
  ·have k:=ab _ z rfl
   obtain⟨c',ao⟩:=I2.ok.has x (.inl k)
   rw [ao] at e
   have e':c=c':=e
   subst e'
   exact⟨ao,k⟩
 have aj:∀{x:Str} {c:Addr},(jZ X.env scope.names []).lookup x=some c->c < s2.heap.objs.size:=fun q=>by
  obtain⟨v,z⟩:=I2.cell _ _ (aa q).1
  exact z.lt
 have aq:∀ b∈gz X.stack,b < s2.heap.objs.size:=fun b hb=>by
  obtain⟨_,o,ho,_⟩:=I2.stack.mem hb
  exact Heap.lt_size ho
 have aR:(iy X scope N {s2 with heap:=hp} H2 (s2.heap.objs.size::fp)).Ok:=by
  refine⟨I2.ok.mod,hkind,I2.ok.glob,I2.ok.blt,Nat.le_refl _,fun x y c q1 q2=>I2.ok.inj x y c (aa q1).1 (aa q2).1,fun x hx=>?_,(fun x c z=>by cases z),I2.ok.hd,I2.ok.frames,.inl rfl,fun b hb=>?_,fun b o q=>⟨up (I2.bs b o q).1,(I2.bs b o q).2⟩,?_,fun b o q hb=>?_,fun b hb=>?_,?_,fun b hb=>I2.stkFree b hb⟩
  ·rcases hx with hx | hx
   ·exact q8 (.inl (vH (env:=X.env) hcell (.inl rfl) hx))
   ·exact q8 (.inl (vH (env:=X.env) hcell (.inr rfl) hx))
  ·rcases List.mem_cons.mp hb with rfl | hb
   ·exact⟨by show s2.heap.objs.size≠hp.objs.size;exact ai,fun x c q=>Nat.ne_of_lt (aj q)⟩
   ·exact⟨(aw b hb).1,fun x c q=>(f2 b hb).2.2.2.2.1 x c (aa q).1⟩
  ·show X.base.objs.size<=hp.objs.size
   rw [hC]
   exact Nat.le_succ_of_le (Nat.le_trans I2.ok.bsz I2.sz)
  ·rcases List.mem_cons.mp hb with rfl | hb
   ·exact Nat.lt_irrefl _ (aB (I2.bs _ o q).1)
   ·rcases(f2 b hb).2.2.2.1 with z | z
    ·exact I2.ok.noex b o q z
    ·exact Nat.lt_irrefl _ (Nat.lt_of_lt_of_le (Heap.lt_size (I2.ok.bs b o q).1) z)
  ·intro z
   rcases List.mem_cons.mp hb with rfl | hb
   ·exact Nat.lt_irrefl _ (aq _ z)
   ·rcases List.mem_cons.mp (I2.stkSub b z) with q | q
    ·exact(f2 b hb).2.1 q
    ·exact(f2 b hb).2.2.1 q
  ·show hp.FunFrames X.base X.stack
   exact I2.stack.of_keeps fun b o q _=>⟨o,up q,rfl⟩
 have len0:(lC own caps σ).length=N.length:=by unfold lC;rw [List.length_append,List.length_replicate,List.length_map,hN]
 have I0:Inv (iy X scope N {s2 with heap:=hp} H2 (s2.heap.objs.size::fp)) [] (lC own caps σ) H2 {s2 with heap:=ak,toks:=s2.toks + ([]:List (Str×Value)).length}:=by
  refine⟨aR,rfl,I2.bare,Un.kept fun b o q=>up1 q,⟨_,af,fun i x v e1 e2 e3=>?_⟩,fun x c q=>?_,I2.hok.fresh (by show s2.heap.objs.size<=hp.objs.size;rw [hC];exact Nat.le_succ _),fun x c q=>I2.freeC x c (aa q).1,fun p ae=>absurd (show p∈([]:List (Addr×Obj)) from ae) (by simp),I2.hok.kept fun b o q=>up1 (up q),len0⟩
  ·
   unfold lC at e2
   by_cases aJ:i < own
   ·rw [List.getElem?_append_left (by simpa using aJ),List.getElem?_replicate] at e2
    split at e2<;>cases e2
   ·rw [List.getElem?_append_right (by simpa using aJ),List.length_replicate,List.getElem?_map] at e2
    cases ec:caps[i - own]? with
    | none=>rw [ec] at e2;cases e2
    | some j=>
     rw [ec] at e2
     have ar:(σ[j]?).join=some v:=Option.some.inj e2
     have aK:σ[j]? =some (some v):=by
      cases q:σ[j]? with
      | none=>rw [q] at ar;cases ar
      | some z=>rw [q] at ar;exact congrArg some ar
     have hx:(N.drop own)[i - own]? =some x:=by
      rw [List.getElem?_drop]
      have:own + (i - own)=i:=by(clear aK ar ec e2 e1 len0 av ai hC ah hN hkind hsc hX hcalm;omega)
      rw [this];exact e1
     have hz:(caps.zip (N.drop own))[i - own]? =some (j,x):=by
      rw [List.getElem?_zip_eq_some];exact⟨ec,hx⟩
     obtain⟨hj,hf⟩:=hcap _ (List.mem_of_getElem? hz)
     rw [<-hX] at hj
     have aL:(x,NameKind.free)∈scope.names:=PySem.mem_of_lookup hf
     have aD:=ab _ aL rfl
     obtain⟨m,hn,hl⟩:=I2.loc
     obtain⟨u,ru,lk⟩:=hl j x v hj aK (.inr (.inl aD))
     refine⟨u,ru,.inr ⟨.inl (zB I2.ok.kind hf aD),?_⟩⟩
     obtain⟨c,ao⟩:=q8 (env:=X.env) (cs:=[]) (.inl aL)
     have aS:=(aa ao).1
     rcases lk with ⟨z,_⟩ | ⟨_,c2,aM,ax⟩
     ·rw [aD] at z;cases z
     ·rw [aS] at aM
      cases aM
      obtain⟨oc,aE,aF⟩:=ax
      exact⟨c,ao,oc,up1 (up aE),aF⟩
  ·obtain⟨v,oc,aE,aF⟩:=I2.cell x c (aa q).1
   exact⟨v,oc,up1 (up aE),aF⟩
 have aN:∀{ay:St} {H':Hp} {s':Shared} {U:List Value} {na:Nat},Inv (iy X scope N {s2 with heap:=hp} H2 (s2.heap.objs.size::fp)) [] ay H' s'->H' s2.heap.objs.size=none->
   s'.heap.get? s2.heap.objs.size=some {cls:= .type "list",data:= .seq U.toArray na}->
   Inv (iy X scope N {s2 with heap:=hp} H2 (s2.heap.objs.size::fp)) [(s2.heap.objs.size,{cls:= .type "list",data:= .seq U.toArray na})] ay H' s':=fun{ay H' s' U na} I' hn hd=>I'.pins_of fun p ae=>by
  have e:p=(s2.heap.objs.size,{cls:= .type "list",data:= .seq U.toArray na}):=by simpa using ae
  subst e
  exact⟨hd,hn,ai,fun z=>Nat.lt_irrefl _ (aq _ z),fun v z=>nomatch z⟩
 have aO:∀{H':Hp} {pl:List (Addr×Obj)},(∀ b∈fp,H' b=none)->(∀ p∈pl,p.1=s2.heap.objs.size)->∀ b∈fp,kh (iy X scope N {s2 with heap:=hp} H2 (s2.heap.objs.size::fp)) pl H' b:=fun hn aT b hb=>by
  refine⟨hn b hb,(aw b hb).1,fun z=>?_,.inl (List.mem_cons_of_mem _ hb),fun x c q=>(f2 b hb).2.2.2.2.1 x c (aa q).1,fun p ae z=>?_⟩
  ·rcases List.mem_cons.mp (I2.stkSub b z) with q | q
   ·exact(f2 b hb).2.1 q
   ·exact(f2 b hb).2.2.1 q
  ·exact(aw b hb).2 (z.symm.trans (aT p ae))
 have loop:∀ au:Shared,au={s2 with heap:=ak,toks:=s2.toks + ([]:List (Str×Value)).length}->
   codeAny (model X.prog X.w) X.A (.compLoop (.ListComp elt [⟨target,iter,ifs,0⟩] scope pos) 0 (.ref it) (.ref s2.heap.objs.size) (compEnvC scope (jZ X.env scope.names []) hp.objs.size X.env))
    (compPost (model X.prog X.w) X.A X.xe use Qf (.ref s2.heap.objs.size) hp.objs.size) au:=by
  rintro au rfl
  refine A7 (fun n s'=>∃ i ys U na H',Inv (iy X scope N {s2 with heap:=hp} H2 (s2.heap.objs.size::fp)) [] (lC own caps σ) H' s'/\tn i s'.heap/\(∀ b∈fp,H' b=none)/\H' s2.heap.objs.size=none/\
   Vals ys U/\s'.heap.get? s2.heap.objs.size=some {cls:= .type "list",data:= .seq U.toArray na}/\W i n ys H') ?_ m0
   ⟨0,[],[],0,H2,I0,T.keep _ _ _ aC fun b _ o q=>up1 (up q),fun b hb=>(f2 b hb).1,I2.hok.fresh (Nat.le_refl _),.nil,up1 av,w0⟩
  rintro n s3 ⟨i,ys,U,na,H3,I3,aP,aU,aG,az,aH,w3⟩
  have Ip:=aN I3 aG aH
  have f3:=aO (H':=H3) (pl:=[(s2.heap.objs.size,{cls:= .type "list",data:= .seq U.toArray na})]) aU yp
  rcases turn i n ys H3 w3 with ⟨stop,hz,fin⟩ | ⟨go,hz,step⟩
  ·refine fK (T.done (iy X scope N {s2 with heap:=hp} H2 (s2.heap.objs.size::fp)) rfl rfl rfl hcalm i _ s3 _ H3 _ Ip f3 aP stop) fun r s4 ⟨hr,I4⟩=>?_
   subst hr
   obtain⟨m,hn,_⟩:=I4.loc
   exact hR _ _ _ _ ys m _ hn (fun h' aV=>Cd I2 f2 ah.symm I4 aV az hz) (I2.fpOk (by rw [hC];exact Nat.le_succ _) (by rw [fB (Ne.symm ai)];exact I4.free)) (fin _ (I4.pin _ (List.mem_append_right _ List.mem_cons_self)).2.1)
  ·refine fK (T.item (iy X scope N {s2 with heap:=hp} H2 (s2.heap.objs.size::fp)) rfl rfl rfl hcalm i _ s3 _ H3 _ Ip f3 aP go) fun r s4 ⟨u,hr,h4⟩=>?_
   subst hr
   refine fK h4 fun _ s5 ⟨x,H5,I5,r5,y5,aI,aW⟩=>?_
   have aX:=I5.pinned (aO (H':=H5) (pl:=[(s2.heap.objs.size,{cls:= .type "list",data:= .seq U.toArray na})]) aW yp) (T.obj _ _ aI)
   refine fK (hg _ _ _ _ s5 _ H5 x u _ aX r5 (hk x _ H5 _ _ (step x H5 y5) fun ay H' q l k=>(⟨q,l,k⟩:_/\_/\_))) fun _ s6 ⟨aA,H6,I6,q6,l6,k6⟩=>?_
   refine fK (hc _ _ _ _ s6 aA H6 _ I6 q6) fun ok s7 ⟨H7,I7,q7⟩=>?_
   have weak:∀{H':Hp} {s':Shared} {pl:List (Addr×Obj)},Inv (iy X scope N {s2 with heap:=hp} H2 (s2.heap.objs.size::fp)) pl aA H' s'->Inv (iy X scope N {s2 with heap:=hp} H2 (s2.heap.objs.size::fp)) pl (lC own caps σ) H' s':=fun I'=>
    I'.weak l6.symm fun j v e=>k6 j v (by
     by_cases hj:j < own
     ·unfold lC at e
      rw [List.getElem?_append_left (by simpa using hj),List.getElem?_replicate] at e
      split at e<;>cases e
     ·(clear e l6 hz aH aG len0 av ai hC ah hN hkind hsc hX hcalm;omega)) e
   have after:∀{H':Hp} {s':Shared},Inv (iy X scope N {s2 with heap:=hp} H2 (s2.heap.objs.size::fp)) ([(s2.heap.objs.size,{cls:= .type "list",data:= .seq U.toArray na})]++qb fp s5.heap) aA H' s'->
     tn (i + 1) s'.heap/\(∀ b∈fp,H' b=none)/\H' s2.heap.objs.size=none/\s'.heap.get? s2.heap.objs.size=some {cls:= .type "list",data:= .seq U.toArray na}:=fun I'=>by
    refine⟨T.keep _ _ _ aI fun b hb o e=>(I'.pin (b,o) (List.mem_append_right _ (List.mem_append_right _ (tf hb e)))).1,fun b hb=>?_,?_,?_⟩
    ·obtain⟨o,e,d⟩:=T.obj _ _ aI b hb
     exact(I'.pin (b,o) (List.mem_append_right _ (List.mem_append_right _ (tf hb e)))).2.1
    ·exact(I'.pin _ (List.mem_append_right _ (List.mem_append_left _ List.mem_cons_self))).2.1
    ·exact(I'.pin _ (List.mem_append_right _ (List.mem_append_left _ List.mem_cons_self))).1
   cases ok with
   | false=>
    rw [if_neg Bool.false_ne_true]
    obtain⟨m',hm,w7⟩:=(show ∃ m',m' < n/\W (i + 1) m' ys H7 by rw [if_neg Bool.false_ne_true] at q7;exact q7)
    obtain⟨a1,a2,a3,a4⟩:=after I7
    exact⟨m',hm,i + 1,ys,U,na,H7,(weak I7).pins_of (fun p ae=>absurd ae (by simp)),a1,a2,a3,az,a4,w7⟩
   | true=>
    rw [if_pos rfl]
    rw [if_pos rfl] at q7
    refine fK (he _ _ _ _ s7 aA H7 _ I7 q7) fun yv s8 ⟨y,H8,I8,r8,m',hm,w8⟩=>?_
    obtain⟨a1,a2,a3,a4⟩:=after I8
    have hl:=az.length
    refine call_meets F.slot_list_append ⟨_,a4,rfl⟩ F.entry_list_append (F.args_list_append_2 _ _) (PySem.list_append s2.heap.objs.size U.toArray na yv (by rw [List.size_toArray];(clear a4 a3 hm l6 aH aG len0 av ai hC ah hN hkind hsc hX hcalm;omega))) ⟨a4,?_⟩
    have I9:Inv (iy X scope N {s2 with heap:=hp} H2 (s2.heap.objs.size::fp)) [] (lC own caps σ) H8 s8:=(weak I8).pins_of (fun p ae=>absurd ae (by simp))
    have q:(s8.heap.update s2.heap.objs.size (Obj.mapSeq (·.push yv))).get? s2.heap.objs.size=some {cls:= .type "list",data:= .seq (U++[yv]).toArray (na + 1)}:=by
     have q:=PySem.IsL.update a4 (·.push yv)
     simpa using q
    refine⟨m',hm,i + 1,ys++[y],U++[yv],na + 1,H8,I9.turned (it:=s2.heap.objs.size) (t':=s8.toks) (fun b o hb e=>?_) a3 (ai) (.inl List.mem_cons_self) (fun x c z=>Nat.ne_of_lt (aj z)) (fun p ae=>absurd (show p∈([]:List (Addr×Obj)) from ae) (by simp)),?_,a2,a3,az.append (.cons r8 .nil),q,w8⟩
    ·rw [Heap.get?_update_other _ _ (Ne.symm hb)];exact e
    ·exact T.keep _ _ _ a1 fun b hb o e=>by rw [Heap.get?_update_other _ _ (Ne.symm (aw b hb).2)];exact e
 exact codeAny_compStart_list (loop _ rfl) (T.self _ 0 _ _ _ (T.keep _ _ _ aC fun b _ o q=>up1 (up q)) (loop _ rfl))
theorem il{elt target iter:Expr}{ifs:List Expr}{scope sc0:Scope}{pos:Pos}{N N0:List Str}{own:Nat}{caps:List Nat}{wi:TI}{g:TG}{tc:TT}{te:TE}
  (hcalm:X.calm=true)(hi:PI X target iter wi)
  (hg:∀ s₀ H₀ ex,PG (iy X scope N s₀ H₀ ex) target g)(hc:∀ s₀ H₀ ex,fS (iy X scope N s₀ H₀ ex) ifs tc)(he:∀ s₀ H₀ ex,PE (iy X scope N s₀ H₀ ex) elt te)(hk:oo own g)
  (hX:X.N=N0)(hsc:X.env.scope=sc0)
  (hcell:∀ y∈scope.names,y.2≠ .cell)(hkind:scope.kind= .function)(hnames:∀ y∈scope.names,y.2= .local->scope.names.lookup y.1=some .local)
  (hfree:∀ y∈scope.names,y.2= .free->sc0.names.lookup y.1=some .cell)(hN:N.length=own + caps.length)
  (hcap:∀ p∈caps.zip (N.drop own),N0[p.1]? =some p.2/\scope.names.lookup p.2=some .free)
  (hs:∀ x,foldedSetIterable iter X.env x=pure x:=by intro _;rfl):
  PE X (.ListComp elt [⟨target,iter,ifs,0⟩] scope pos) (qd own caps wi g tc te):=by
 intro pins s σ H Q I h
 rw [eval_ListComp]
 exact zN hcalm hi hg hc he hk hX hsc hcell hkind hnames hfree hN hcap hs I h fun D C s' He ys m f hn U _ q=>⟨m,hn,fun h' J=>⟨.ref D,_,U h' J,rfl,q⟩⟩
end
theorem gI.at {P:Program}{w:World}{H:Hp}{h:Heap}{a:Addr}{o:HO}(x:gI P w H h a o):∃ ob,h.get? a=some ob:=by
 cases o with
 | lst xs=>obtain⟨_,_,_,_,e⟩:=x;exact⟨_,e⟩
 | tup xs=>obtain⟨_,_,_,ob,e,_⟩:=x;exact⟨_,e⟩
 | dK kvs=>obtain⟨_,_,_,_,o,_,_,e,_⟩:=x;exact⟨_,e⟩
 | dT kvs=>obtain⟨_,_,_,_,o,_,_,e,_⟩:=x;exact⟨_,e⟩
 | set S n=>obtain⟨o,_,_,_,e,_⟩:=x;exact⟨_,e⟩
 | ins C dx fs=>obtain⟨_,_,_,e,_⟩:=x;exact⟨_,e⟩
 | own y=>obtain⟨_,e⟩:=x;exact⟨_,e⟩
 | xd fs=>obtain⟨_,⟨_,_,_,e,_⟩,_⟩:=x;exact⟨_,e⟩
 | rng lo hi=>obtain⟨_,_,_,e⟩:=x;exact⟨_,e⟩
 | frz ob u=>obtain⟨e,_⟩:=x;exact⟨_,e⟩
 | tbl ps=>exact⟨_,show h.get? a=some _ from x⟩
 | met f y=>exact⟨_,show h.get? a=some _ from x⟩
 | ext I=>obtain⟨_,⟨_,e⟩,_⟩:=x;exact⟨_,e⟩
def fQ(P:Program)(w:World):jn:=fun outer H s E e s'=>∃(I:Addr) (cls J:Value) (B:Heap) (H':Hp),
 e= .ref I/\s'.os=s.os/\AllBare s'.gens/\Un (gz outer) [] H H' s.heap s'.heap/\gG P w H' s'.heap/\Heap.FlyingW B outer I cls J s'.heap/\
 (∀ b o,s.heap.get? b=some o->H b=none->b∉gz outer->B.get? b=some o)/\(∀ b o,s.heap.get? b=some o->b∉gz outer->∃ o',B.get? b=some o')/\
 (∀ b u,H' b=some u->∃ o,B.get? b=some o)/\E cls none H'
theorem fQ.no {P:Program}{w:World}{outer:List Env}{H:Hp}{s s':Shared}{e:Value}(h:fQ P w outer H s (fun _ _ _=>False) e s'):False:=by
 obtain⟨_,_,_,_,_,_,_,_,_,_,_,_,_,_,z⟩:=h
 exact z
theorem sP{fs:List Addr}{H H':Hp}{h h1 h2 B base:Heap}{outer:List Env}(hfs:fs=gz outer)(u:Un fs [] H H' h h1)(k1:∀ b o,h.get? b=some o->H b=none->b∉fs->B.get? b=some o)
  (k3:∀ b o,h.get? b=some o->b∉fs->∃ o',B.get? b=some o')(ff:h1.FunFrames base outer)(st:B.StaysIn h2)(up:h1.UpToSlots h2):Un fs [] H H' h h2:=by
 have fr:∀ b∈fs,∀ o,h1.get? b=some o->∃ sl,h2.get? b=some {o with slots:=sl}:=fun b hb o e=>by
  rw [hfs] at hb
  obtain⟨_,o',I,nf⟩:=ff.mem hb
  rw [e] at I;cases I
  exact up b o e nf
 refine⟨fun b o e n hb _=>st b o (k1 b o e n hb),fun b o e n hb J=>?_,u.free,fun b o e J=>?_,u.tups,u.frzs,u.tbls⟩
 ·obtain⟨sl,U⟩:=u.slot b o e n hb J
  obtain⟨aa,e2⟩:=fr b hb _ U
  exact⟨aa,e2⟩
 ·by_cases hb:b∈fs
  ·obtain⟨o1,U⟩:=u.there b o e J
   obtain⟨sl,e2⟩:=fr b hb _ U
   exact⟨_,e2⟩
  ·obtain⟨o',I⟩:=k3 b o e hb
   exact⟨o',st b o' I⟩
theorem sf{P:Program}{w:World}{H:Hp}{h1 h2 B:Heap}(x:gG P w H h1)(k2:∀ b u,H b=some u->∃ o,B.get? b=some o)(s1:B.StaysIn h1)(s2:B.StaysIn h2):gG P w H h2:=fun b u e=>by
 refine(x b u e).stay (fun c v J q=>?_) (fun _ q=>q) fun _ _ q=>q
 have ht:∃ z,H c=some z:=by
  rcases J with z | z
  ·subst z;exact⟨u,e⟩
  ·exact⟨_,z⟩
 obtain⟨z,U⟩:=ht
 obtain⟨o,I⟩:=k2 c z U
 have:=s1 c o I
 rw [q] at this;cases this
 exact s2 c v I
section
variable {P : Program} {w : World} {K : PySem.W.Frag} {mg : Str -> Option Value} {base : Heap} {N : List Str} {qual : Str} {scope : Scope} {f : Addr} {cdv : Value} {A : Around} {outer : List Env} {s₀ : Shared} {H₀ : Hp} {E E' : XK}
def Raises(X:Cx)(E:XK):Prop:=∀(pins:List (Addr×Obj)) (σ:St) (H:Hp) (s:Shared) (h':Heap) (I:Addr) (cls:Value) (args:List Value),Inv X pins σ H s->Heap.MadeExcOf s.heap h' I cls args->E cls none H->X.xe (.ref I) {s with heap:=h'}
theorem kg:Raises (ib (fQ P w) P w K mg base N qual scope f cdv A outer s₀ H₀ E) E:=by
 intro pins σ H s h' ea cls args I hx hE
 have stk:=I.stack
 have U:∀ env∈(ib (fQ P w) P w K mg base N qual scope f cdv A outer s₀ H₀ E).stack,∀ b,env.frame=some b->b∈gz (ib (fQ P w) P w K mg base N qual scope f cdv A outer s₀ H₀ E).stack:=fun env he b hb=>List.mem_filterMap.mpr ⟨env,he,hb⟩
 have J:∀{b:Addr} {o:Obj},s.heap.get? b=some o->b∉gz (ib (fQ P w) P w K mg base N qual scope f cdv A outer s₀ H₀ E).stack->(W.hideAll s.heap (gz (ib (fQ P w) P w K mg base N qual scope f cdv A outer s₀ H₀ E).stack)).get? b=some o:=fun e hb=>W.hideAll_get _ e hb
 have hL:∀{b:Addr} {o:Obj},s₀.heap.get? b=some o->b∉gz outer->b∉gz (ib (fQ P w) P w K mg base N qual scope f cdv A outer s₀ H₀ E).stack:=fun{b o} e hb z=>by
  rcases List.mem_cons.mp (I.stkSub b z) with q | q
  ·have h1:=Heap.lt_size e
   have h2:s₀.heap.objs.size<=(ib (fQ P w) P w K mg base N qual scope f cdv A outer s₀ H₀ E).env.locals:=I.ok.above
   rw [q] at h1
   exact Nat.lt_irrefl _ (Nat.lt_of_lt_of_le h1 h2)
  ·exact hb q
 show wpAny (model P w) (A.deeper (envOfC qual scope s₀.heap.objs.size f cdv)) (leaving (envOfC qual scope s₀.heap.objs.size f cdv) (.ref ea)) _ _ _
 refine wpAny_leaves_madeW (s:={s with heap:=h'}) (h:=s.heap) (base:=W.hideAll s.heap (gz (ib (fQ P w) P w K mg base N qual scope f cdv A outer s₀ H₀ E).stack)) I.ok.frames rfl (fun b o q=>W.of_hideAll _ q) (W.funFrames_hide stk U) hx fun aa t fl _ _ up=>?_
 have u0:Un (gz outer) [] H₀ H s₀.heap s.heap:=I.base
 have tr:∀ b u,H b=some u->b∉gz (ib (fQ P w) P w K mg base N qual scope f cdv A outer s₀ H₀ E).stack:=fun b u e z=>by rw [I.stkFree b z] at e;cases e
 have k1:∀ b o,s₀.heap.get? b=some o->H₀ b=none->b∉gz outer->(W.hideAll s.heap (gz (ib (fQ P w) P w K mg base N qual scope f cdv A outer s₀ H₀ E).stack)).get? b=some o:=fun b o e n hb=>J (u0.keep b o e n hb (by simp)) (hL e hb)
 have k3:∀ b o,s₀.heap.get? b=some o->b∉gz outer->∃ o',(W.hideAll s.heap (gz (ib (fQ P w) P w K mg base N qual scope f cdv A outer s₀ H₀ E).stack)).get? b=some o':=fun b o e hb=>by
  obtain⟨o',e'⟩:=u0.there b o e (by simp)
  exact⟨o',J e' (hL e hb)⟩
 have k2:∀ b u,H b=some u->∃ o,(W.hideAll s.heap (gz (ib (fQ P w) P w K mg base N qual scope f cdv A outer s₀ H₀ E).stack)).get? b=some o:=fun b u e=>by
  obtain⟨o,eo⟩:=(I.hok b u e).at
  exact⟨o,J eo (tr b u e)⟩
 exact⟨ea,cls,.ref t,_,H,rfl,I.os,I.bare,sP rfl u0 k1 k3 I.funs fl.1 ((Heap.UpToSlots.of_keeps hx.keeps).trans up),sf I.hok k2 (fun b o q=>W.of_hideAll _ q) fl.1,fl,k1,k3,k2,hE⟩
theorem jm(hE:∀ cls od H',E' cls od H'->E cls od H'):Passes (fQ P w) (ib (fQ P w) P w K mg base N qual scope f cdv A outer s₀ H₀ E) E':=by
 intro pins σ H s e s' I h
 obtain⟨ea,cls,a0,B,H',rfl,os,bare,un,hok,fl,k1,k3,k2,U⟩:=h
 have stk:(ib (fQ P w) P w K mg base N qual scope f cdv A outer s₀ H₀ E).stack=envOfC qual scope s₀.heap.objs.size f cdv::outer:=rfl
 have ae:gz (ib (fQ P w) P w K mg base N qual scope f cdv A outer s₀ H₀ E).stack=s₀.heap.objs.size::gz outer:=rfl
 have J:Un (gz outer) [] H₀ H s₀.heap s.heap:=I.base
 have aa:∀{b:Addr} {o:Obj},s₀.heap.get? b=some o->b∉gz outer->b∉gz (ib (fQ P w) P w K mg base N qual scope f cdv A outer s₀ H₀ E).stack:=fun{b o} e hb z=>by
  rw [ae] at z
  rcases List.mem_cons.mp z with q | q
  ·have h1:=Heap.lt_size e
   rw [q] at h1
   exact Nat.lt_irrefl _ h1
  ·exact hb q
 show wpAny (model P w) (A.deeper (envOfC qual scope s₀.heap.objs.size f cdv)) (leaving (envOfC qual scope s₀.heap.objs.size f cdv) (.ref ea)) _ _ _
 refine wpAny_leaves_onW I.ok.frames rfl fl fun ag ab up=>?_
 have u1:Un (gz outer) [] H₀ H' s₀.heap s'.heap:=by
  refine⟨fun b o e n hb U=>?_,fun b o e n hb U=>?_,fun b o e n U=>?_,fun b o e U=>?_,fun b xs q=>un.tups b xs (J.tups b xs q),fun b ob u q=>un.frzs b ob u (J.frzs b ob u q),fun b ps q=>?_⟩
  ·exact un.keep b o (J.keep b o e n hb U) (J.free b o e n U) (aa e hb) (by simp)
  ·obtain⟨sl,e1⟩:=J.slot b o e n hb U
   obtain⟨af,e2⟩:=un.any e1 (J.free b o e n U) (by simp)
   exact⟨af,e2⟩
  ·obtain⟨o',e1⟩:=J.there b o e U
   exact un.free b o' e1 (J.free b o e n U) (by simp)
  ·obtain⟨o',e1⟩:=J.there b o e U
   exact un.there b o' e1 (by simp)
  ·obtain⟨m1,e1⟩:=J.tbls b ps q
   obtain⟨m2,e2⟩:=un.tbls b _ e1
   exact⟨m1++m2,by rw [e2,Array.append_assoc]⟩
 have K1:∀ b o,s₀.heap.get? b=some o->H₀ b=none->b∉gz outer->B.get? b=some o:=fun b o e n hb=>k1 b o (J.keep b o e n hb (by simp)) (J.free b o e n (by simp)) (aa e hb)
 have K3:∀ b o,s₀.heap.get? b=some o->b∉gz outer->∃ o',B.get? b=some o':=fun b o e hb=>by
  obtain⟨o',e1⟩:=J.there b o e (by simp)
  exact k3 b o' e1 (aa e hb)
 have ff:s'.heap.FunFrames B outer:=by
  obtain⟨_,_,⟨_,_,r⟩,_⟩:=fl
  exact r
 exact⟨ea,cls,a0,B,H',rfl,os.trans I.os,bare,sP rfl u1 K1 K3 ff ab.1 up,sf hok k2 fl.1 ab.1,ab,K1,K3,k2,hE _ _ _ U⟩
end
theorem A5{K:W.Frag}{h:Heap}{C:Addr}{bmB:List Value}{newId:String}(X:K.In h)(q:W.excIn K C bmB newId=true):
  ∃ bm N nm qn bs hdct sn sub ab col dd k0 k1 k2 k3 k5 mN,h.get? C=some (excClassObj nm qn C N bs bm hdct sn sub ab col dd k0 k1 k2 k3 k5 newId)/\h.Ns N mN/\mN "__init__"=none/\OwnTail h bmB bm:=by
 unfold W.excIn at q
 split at q
 ·rename_i dd cd sl ho
  split at q
  ·rename_i C' bm k0 k1 k2 k3 n k5 hm hs
   simp only [Bool.and_eq_true,beq_iff_eq,Bool.not_eq_true'] at q
   obtain⟨⟨⟨⟨⟨rfl,rfl⟩,I⟩,ht⟩,hok⟩,J⟩:=q
   obtain⟨nm,bs,mro,ns,qn,hd,sn,sub,ab,col,del⟩:=cd
   dsimp only at hm I hok J
   subst hm I
   have U:sl=#[k0,k1,k2,k3,some (.builtin n),k5]:=by
    obtain⟨l⟩:=sl
    simp only at hs
    rw [hs]
   subst U
   exact⟨bm,ns,nm,qn,bs,hd,sn,sub,ab,col,dd,k0,k1,k2,k3,k5,_,X _ _ ho,.of_isNs (W.isNs_of_in X hok),W.nsMap_none_of_in X hok J,W.tail_of_in X ht⟩
  ·cases q
 ·cases q
section
variable {X : Cx} {E : XK}
def EF(C:Addr)(E:XK)(t:TA):TS:=fun _ σ H=>t σ H fun vs H1=>vs.length<=sizeLine/\E (.ref C) none H1
theorem ki{x:Str}{C:Addr}{e:Expr}{es:List Expr}{t:TA}{np cpos pos:Pos}{B Bn newId nid initId inN:String}{bmB bmN:List Value}(hcalm:X.calm=true)(hq:W.excIn X.K C bmB newId=true)
  (Fn:ExcBaseFacts Bn newId inN bmN)(hBn:bmB.contains (.type Bn)=true)(FB:ExcBaseFacts B nid initId bmB)(hg:Gl X x)(hm:X.mg x=some (.ref C))(ha:PA X (e::es) t)(hR:Raises X E)
  (hdb:(x == ("__debug__":Str))=false:=by decide)(he:starEach (e::es) X.env=(false,eval e X.env)::starEach es X.env:=by rfl)(hpl:(backTo cpos (starEach es X.env)).any (·.1)=false:=by rfl):
  PS X (.Raise (some (.Call (.Name x np) (e::es) [] cpos)) none pos) (EF C E t):=by
 intro pins s σ H D I h
 obtain⟨tl,N,nm,qn,bs,hdct,sn,sub,ab,col,dd,k0,k1,k2,k3,k5,mN,hC,hN,U,T⟩:=A5 I.ok.mod.kin hq
 refine wpAny_Raise_call_subU (C:=C) (nm:=nm) (q:=qn) (N:=N) (bs:=bs) (bm:=tl) (hdct:=hdct) (sn:=sn) (sub:=sub) (ab:=ab) (col:=col) (dd:=dd) (k0:=k0) (k1:=k1) (k2:=k2) (k3:=k3) (k5:=k5)
  Fn hBn FB (mN:=mN) (T.hasType FB.hasBase) (I.ok.hd hcalm) (by rw [he];show(false || (backTo cpos (starEach es X.env)).any (·.1))=false;rw [hpl];rfl) U (lM I hg hm ⟨rfl,?_⟩ hdb)
 have hA:=ha cpos pins s σ H _ I h
 rw [he] at hA ⊢
 exact Calls.evalArgs_plain (fK hA fun us s2 ⟨vs,H2,J,r,hz,hE⟩=>⟨rfl,by rw [<-r.length];exact hz,J.bk _ _ hC,hN.keeps J.bk,T.keeps J.bk,fun h' ea mk=>hR pins σ H2 s2 h' ea (.ref C) us J mk hE⟩)
end
section
variable {P : Program} {w : World} {K : PySem.W.Frag} {mg : Str -> Option Value} {base : Heap}
theorem fV.ok1 {x qual:Str}{st:Stmt}{f:Addr}{fd:FuncData}{N ps:List Str}{k:Nat}{sp:Sp}(F:fV K x qual st f fd)(S:fU N ps (fD st))(len:∀ vs H Q E,sp vs H Q E->vs.length=ps.length)
  (hbody:∀(cdv:Value) (A:Around) (outer:List Env) (s:Shared) (H:Hp) (vs:List V) (Q:VK) (E:XK),gE k (A.deeper (envOfC qual (fD st) s.heap.objs.size f cdv))->sp vs H Q E->
   ∃ t,fM (ib (fQ P w) P w K mg base N qual (fD st) f cdv A outer s H E) (gH st) t/\t {nx:=fun _ H'=>Q .non H',rt:=Q} (start N vs) H):fx P w K mg base (fQ P w) (k + 1) f fd ps sp:=by
 obtain⟨oc,od,kV,doc,pm,an,cdv,ct,U,rfl,lk,I⟩:=F.ex
 exact rF lk I S len fun A outer s H vs Q E hr J=>hbody cdv A outer s H vs Q E hr J
end
def kY(ea C:Addr):HO:= .ext fun h=>∃ o vs,h.get? ea=some o/\o.cls= .ref C/\o.data= .fields vs
abbrev Cx.tr (X:Cx)(p:List (Addr×Obj))(E:Value->Shared->Prop):Cx:={X with pn:=p,xe:=E}
def kF(X:Cx)(ea:Addr)(p:List (Addr×Obj)):Cx:={X with A:=X.A.mark (some (.ref ea)),calm:=false,xe:=fun _ _=>False,pn:=p}
def my(CX:jn)(X:Cx)(E:St->XK):Prop:=∀(pins:List (Addr×Obj)) (σ:St) (H:Hp) (s:Shared) (e:Value) (s':Shared),Inv X pins σ H s->CX X.stack H s (E σ) e s'->X.xe e s'
def Ir(sp:Sp)(dvs:List V)(E:St->XK)(t:TA):TE:=fun σ H Q=>t σ H fun vs H1=>sp (vs++dvs) H1 Q (E σ)
section
variable {X : Cx} {CX : jn} {k : Nat} {f C : Addr} {fd : FuncData} {ps : List Str} {sp : Sp} {dvs : List V} {ds : List Value} {E : St -> XK} {x m : Str} {p pos apos : Pos} {e o : Expr} {es : List Expr} {ta : TE} {t : TA}
theorem y6{pins:List (Addr×Obj)}{σ:St}{H:Hp}{s:Shared}{Q:VK}{us:List Value}{vs:List V}(F:fx X.prog X.w X.K X.mg X.base CX k f fd ps sp)(hr:gE k X.A)(hb:Binds X.K fd ps ds)(hd:Vals dvs ds)(hx:my CX X E)
  (I:Inv X pins σ H s)(r:Vals vs us)(h:sp (vs++dvs) H Q (E σ)):wpAny (model X.prog X.w) X.A (call (.ref f) us) (EP X pins σ Q) X.xe s:=by
 have U:Vals (vs++dvs) (us++ds):=r.append hd
 have hl:(us++ds).length=ps.length:=by rw [<-U.length];exact F.len _ _ _ _ h
 refine wpAny_call (codeAny_mono (F.run X.A X.stack s H ⟨us,[]⟩ (us++ds) (vs++dvs) Q (E σ) hr I.env0 (hb s us I.kIn hl) U h) fun r s' J=>?_)
 cases r with
 | error e=>exact hx pins σ H s e s' I J
 | ok fl=>
  cases fl with
  | ret u=>exact I.after J
  | next=>exact False.elim J
  | brk=>exact False.elim J
  | cont=>exact False.elim J
theorem FU(F:fx X.prog X.w X.K X.mg X.base CX k f fd ps sp)(hr:gE k X.A)(hg:Gl X x)(hm:X.mg x=some (.ref f))(hk:W.keepIn X.K (.ref f)=true)(hb:Binds X.K fd ps ds)(hd:Vals dvs ds)(hx:my CX X E)
  (ha:PA X (e::es) t)(hdb:(x == ("__debug__":Str))=false:=by decide)(he:starEach (e::es) X.env=(false,eval e X.env)::starEach es X.env:=by rfl)(hpl:(backTo pos (starEach es X.env)).any (·.1)=false:=by rfl):
  PE X (.Call (.Name x p) (e::es) [] pos) (Ir sp dvs E t):=by
 intro pins s σ H Q I h
 refine wpAny_Call_Name_kw (lM I hg hm ?_ hdb)
 refine W.callWith_K (h₀:=X.base) I.ok.mod.kin hk (fK (ha pos pins s σ H _ I h) fun us s1 ⟨vs,H1,J,r,q⟩=>⟨J.kIn,?_⟩) he hpl
 exact y6 F hr hb hd hx J r q
end
section
variable {X : Cx} {pins : List (Addr × Obj)} {σ : St} {H : Hp} {s : Shared}
theorem Inv.unset {n:Str}{i:Nat}{m:Str->Option Value}{u:Option Value}{h':Heap}(I:Inv X pins σ H s)(hN:X.N.Nodup)(hi:X.N[i]? =some n)
  (hl:∀(i:Nat) (x:Str) (v:V),X.N[i]? =some x->σ[i]? =some (some v)->qo X.env.scope x->∃ u,RelV v u/\Look X.env s.heap m x u)
  (hn':h'.Ns X.env.locals (fun x=>if x=n then u else m x))(hs:Heap.SameBut X.env.locals s.heap h'):Inv X pins (σ.set i none) H {s with heap:=h'}:=by
 have cne:=I.cne
 obtain⟨m0,⟨oL,_,_,aa,_⟩,_⟩:=id I.loc
 have tracked:gG X.prog X.w H h':=fun b ob e=>by
  refine(I.hok b ob e).stay (fun c w' hc q=>(hs.2 c ?_).trans q) (fun _ q=>q) fun _ _ q=>q
  rintro rfl
  have hf:=I.free
  rcases hc with hc | hc
  ·rw [<-hc,hf] at e;cases e
  ·rw [hf] at hc;cases hc
 refine⟨I.ok,I.os,I.bare,⟨fun b o e n hb hx=>?_,fun b o e n hb hx=>?_,I.base.free,fun b o e hx=>?_,I.base.tups,I.base.frzs,I.base.tbls⟩,⟨_,hn',fun j y v' J U e3=>?_⟩,fun y c e=>?_,I.free,I.freeC,fun p hp=>?_,tracked,by simpa using I.len⟩
 ·exact(hs.2 b (Nat.ne_of_lt (Nat.lt_of_lt_of_le (Heap.lt_size e) I.ok.above))).trans (I.base.keep b o e n hb hx)
 ·obtain⟨sl,J⟩:=I.base.slot b o e n hb hx
  exact⟨sl,(hs.2 b (Nat.ne_of_lt (Nat.lt_of_lt_of_le (Heap.lt_size e) I.ok.above))).trans J⟩
 ·obtain⟨o',J⟩:=I.base.there b o e hx
  exact⟨o',(hs.2 b (Nat.ne_of_lt (Nat.lt_of_lt_of_le (Heap.lt_size e) I.ok.above))).trans J⟩
 ·by_cases hj:j=i
  ·subst hj
   rw [List.getElem?_set] at U
   rw [if_pos rfl] at U
   split at U<;>cases U
  ·rw [List.getElem?_set_ne (Ne.symm hj)] at U
   obtain⟨u',r',q⟩:=hl j y v' J U e3
   refine⟨u',r',?_⟩
   rcases q with ⟨k,e⟩ | ⟨k,c,e,z⟩
   ·refine .inl ⟨k,?_⟩
    have:y≠n:=fun e=>hj (tM hN J (e ▸ hi))
    simp [this,e]
   ·exact .inr ⟨k,c,e,z.sameBut hs (cne y c e)⟩
 ·obtain⟨w',z⟩:=I.cell y c e
  exact⟨w',z.sameBut hs (cne y c e)⟩
 ·obtain⟨e,n,ne,nf,d⟩:=I.pin p hp
  exact⟨(hs.2 p.1 ne).trans e,n,ne,nf,d⟩
theorem rq{n:Str}{i:Nat}{pos:Pos}{Q:Unit->Shared->Prop}(I:Inv X pins σ H s)(hN:X.N.Nodup)(hi:X.N[i]? =some n)(hk:X.env.scope.names.lookup n=some .local)
  (h:∀ s',Inv X pins (σ.set i none) H s'->Q () s'):wpAny (model X.prog X.w) X.A (do bindName X.env n .none;unbindBehindTheSuite X.env n pos) Q X.xe s:=by
 have J:(X.env.scope.kind == .class || (X.env.scope.kind == .module && X.env.locals != X.env.globals))=false:=by rw [I.ok.kind];rfl
 refine wpAny_bind (wpAny_bindName (pj I hN hi (.inl hk) (show RelV .non .none from rfl) (fun s1 I1=>?_) (.inr hk)))
 obtain⟨m,hn,hl⟩:=id I1.loc
 have U:i < σ.length:=by rw [I.len];exact(List.getElem?_eq_some_iff.mp hi).1
 obtain⟨u,ru,lk⟩:=hl i n .non hi (by rw [List.getElem?_set_self U]) (.inl hk)
 have hm:m n=some u:=by
  rcases lk with ⟨_,e⟩ | ⟨z,_⟩
  ·exact e
  ·have aa:X.env.kindOf n=some .local:=hk
   rw [aa] at z
   rcases z with z | z<;>cases z
 unfold unbindBehindTheSuite
 refine wpAny_onRaise (wpAny_unbindName_local hk hn hm J fun h' u' ab ae=>?_)
 have I2:=I1.unset hN hi hl ab ae
 rw [List.set_set] at I2
 exact h _ I2
end
section
variable {X : Cx}
def HB(K:W.Frag)(CH:Addr)(i:Nat)(E:St->XK)(tb ts:TS):TS:=fun D σ H=>tb D σ H/\∀ J cls H' U,E J cls none H'->H' U=none->
 ∃ C,cls= .ref C/\W.exmOne K (.ref C) (.ref CH)=some true/\
  ts {nx:=fun I H2=>D.nx (I.set i none) H2,rt:=D.rt,bk:=fun I H2=>D.bk (I.set i none) H2,ct:=fun I H2=>D.ct (I.set i none) H2} (J.set i (some (.ref U))) (upd H' U (kY U C))
theorem D7{pins:List (Addr×Obj)}{D:Ends}{CH:Addr}{i:Nat}{E:St->XK}{x n:Str}{np pos:Pos}{b₀:Stmt}{suite:List Stmt}{ts:TS}
  (hstk:X.stack=X.env::X.outer)(hfr:X.env.frame=some X.env.locals)(hN:X.N.Nodup)(hi:X.N[i]? =some n)(hk:X.env.scope.names.lookup n=some .local)(hg:Gl X x)(hm:X.mg x=some (.ref CH))
  (hs:∀ ea p,fM (kF X ea p) (b₀::suite) ts)
  (hc:∀ σ' cls H' ea,E σ' cls none H'->H' ea=none->∃ C,cls= .ref C/\W.exmOne X.K (.ref C) (.ref CH)=some true/\
   ts {nx:=fun σ2 H2=>D.nx (σ2.set i none) H2,rt:=D.rt,bk:=fun σ2 H2=>D.bk (σ2.set i none) H2,ct:=fun σ2 H2=>D.ct (σ2.set i none) H2} (σ'.set i (some (.ref ea))) (upd H' ea (kY ea C)))
  (hdb:(x == ("__debug__":Str))=false:=by decide):
  my (fQ X.prog X.w) (X.tr (X.pn++pins) fun e s₁=>wpAny (model X.prog X.w) X.A (noteFrame e X.env) (fun _ s₂=>wpAny (model X.prog X.w) X.A (setFlight e none) (fun _ s₃=>
   wpAny (model X.prog X.w) X.A (handleBy e X.env [.ExceptHandler (some (.Name x np)) (some n) (b₀::suite) pos]) (SP X pins D) X.xe s₃) X.xe s₂) X.xe s₁) E:=by
 intro aa σ' H1 s1 e s' J hx
 obtain⟨ea,cls,a0,B,H',rfl,os,bare,un,hok,fl,k1,k3,k2,hE⟩:=hx
 have aw:Heap.FlyingW B (X.env::X.outer) ea cls a0 s'.heap:=hstk ▸ fl
 have ag:X.A.frames=some (X.env::X.outer):=hstk ▸ J.ok.frames
 have ah:ea∉gz X.stack:=fun z=>by
  obtain⟨_,o,ho,nf⟩:=fl.2.2.1.mem z
  obtain⟨oe,vs,_,_,_,he,_,hd,_⟩:=fl.2.2.2
  rw [he] at ho;cases ho
  exact nf vs hd
 have nE:∀{b:Addr} {o:Obj},s1.heap.get? b=some o->b≠ea:=fun{b o} q z=>by
  subst z
  obtain⟨o',e'⟩:=k3 b o q ah
  rw [fl.2.1] at e';cases e'
 have nH:H' ea=none:=by
  cases q:H' ea with
  | none=>rfl
  | some u=>
   obtain⟨o,e'⟩:=k2 ea u q
   rw [fl.2.1] at e';cases e'
 have go:∀{h2:Heap},Heap.FlyingW B (X.env::X.outer) ea cls a0 h2->s'.heap.UpToSlots h2->Inv (X.tr (X.pn++pins) fun e s₁=>wpAny (model X.prog X.w) X.A (noteFrame e X.env) (fun _ s₂=>wpAny (model X.prog X.w) X.A (setFlight e none) (fun _ s₃=>
   wpAny (model X.prog X.w) X.A (handleBy e X.env [.ExceptHandler (some (.Name x np)) (some n) (b₀::suite) pos]) (SP X pins D) X.xe s₃) X.xe s₂) X.xe s₁) aa σ' H' {s' with heap:=h2}:=fun{h2} ai up=>
  J.call' (s':={s' with heap:=h2}) (ch:=[]) os (sP rfl un k1 k3 fl.2.2.1 ai.1 up) (sf hok k2 fl.1 ai.1) bare fun b z=>absurd z (by simp)
 have aj:∀{s2:Shared} {H2:Hp},Inv (X.tr (X.pn++pins) fun e s₁=>wpAny (model X.prog X.w) X.A (noteFrame e X.env) (fun _ s₂=>wpAny (model X.prog X.w) X.A (setFlight e none) (fun _ s₃=>
   wpAny (model X.prog X.w) X.A (handleBy e X.env [.ExceptHandler (some (.Name x np)) (some n) (b₀::suite) pos]) (SP X pins D) X.xe s₃) X.xe s₂) X.xe s₁) aa σ' H2 s2->Inv (kF X ea (X.pn++pins)) [] σ' H2 s2:=fun I=>
  ⟨⟨I.ok.mod,I.ok.kind,I.ok.glob,I.ok.blt,I.ok.above,I.ok.inj,I.ok.has,I.ok.cab,(fun z=>by cases z),I.ok.frames,I.ok.stk,I.ok.exf,I.ok.bs,I.ok.bsz,I.ok.noex,I.ok.exfs,I.ok.funs,I.ok.frf⟩,
   I.os,I.bare,I.base,I.loc,I.cell,I.free,I.freeC,fun p hp=>I.pin p (List.mem_append_left _ (by have ab:p∈(X.pn++pins)++[]:=hp;rw [List.append_nil] at ab;exact ab)),I.hok,I.len⟩
 refine wpAny_looks_onW ag hfr aw fun h4 held ak=>?_
 refine wpAny_landsW held fun h5 ae ao=>?_
 obtain⟨C,rfl,aq,ax⟩:=hc σ' cls H' ea hE nH
 have I5:=aj (go ae (ak.trans ao))
 refine wpAny_handleBy_cons (codeAny_handlers_test ?_) (by intro q;cases q)
 refine lM I5 hg hm ?_ hdb
 obtain⟨ob,ay,ar⟩:=ae.there
 have LT:W.Looks (model X.prog X.w) h5 (typeOf (.ref ea)) (.ref C):=by
  rw [<-ar]
  exact(W.Looks.ld ay).andThen .now
 refine W.exm_one I5.kIn LT aq _ _ _ _ (fun _ _ q=>q) ?_
 refine codeAny_handlers_suite_as (lands_againW ae fun h6 au az=>?_)
 have I6:=aj (go au ((ak.trans ao).trans az))
 have I7:Inv (kF X ea (X.pn++pins)) [] σ' (upd H' ea (kY ea C)) {s' with heap:=h6}:=by
  refine I6.track ?_ nH (fun z=>?_) (fun y c q z=>?_) (fun p hp z=>?_) ?_
  ·by_cases hx:ea∈X.ex
   ·exact .inr hx
   ·refine .inl ?_
    cases q:X.s₀.heap.get? ea with
    | none=>exact q
    | some o=>
     obtain⟨o',e'⟩:=J.base.there ea o q hx
     exact absurd rfl (nE e')
  ·exact ah (by rw [hstk];exact List.mem_filterMap.mpr ⟨X.env,List.mem_cons_self,by rw [hfr];exact congrArg some z.symm⟩)
  ·obtain⟨v,oc,aA,_⟩:=J.cell y c q
   exact nE aA z
  ·exact nE (J.pin p (List.mem_append_left _ (by have ab:p∈(X.pn++pins)++[]:=hp;rw [List.append_nil] at ab;exact ab))).1 z
  ·obtain⟨oe,vs,_,_,_,he,⟨aB,_⟩,hd,_⟩:=au.2.2.2
   exact⟨⟨oe,vs,he,aB,hd⟩,⟨oe,he⟩,fun h1 h2 ⟨o,ws,q1,q2,q3⟩ k=>⟨o,ws,k o q1,q2,q3⟩⟩
 refine pj (X:=kF X ea (X.pn++pins)) I7 hN hi (.inl hk) (show RelV (.ref ea) (.ref ea) from rfl) (fun s8 I8=>?_) (.inr hk)
 refine wpAny_mono (hs ea (X.pn++pins) [] s8 _ _ _ I8 ax) (fun av s9 h9=>?_) fun _ _ z=>False.elim z
 have back:∀{σ2:St} {H2:Hp},Inv (kF X ea (X.pn++pins)) [] σ2 H2 s9->Inv X pins σ2 H2 s9:=fun I=>
  ⟨⟨J.ok.mod,J.ok.kind,J.ok.glob,J.ok.blt,J.ok.above,J.ok.inj,J.ok.has,J.ok.cab,J.ok.hd,J.ok.frames,J.ok.stk,J.ok.exf,J.ok.bs,J.ok.bsz,J.ok.noex,J.ok.exfs,J.ok.funs,J.ok.frf⟩,
   I.os,I.bare,I.base,I.loc,I.cell,I.free,I.freeC,fun p hp=>I.pin p (List.mem_append_left _ hp),I.hok,I.len⟩
 show wpAny (model X.prog X.w) X.A (do bindName X.env n .none;unbindBehindTheSuite X.env n pos) (fun _ s₃=>SP X pins D av s₃) X.xe s9
 cases av with
 | next=>
  obtain⟨σ2,H2,I9,q9⟩:=h9
  exact rq (back I9) hN hi hk fun af U=>⟨_,H2,U,q9⟩
 | brk=>
  obtain⟨σ2,H2,I9,q9⟩:=h9
  exact rq (back I9) hN hi hk fun af U=>⟨_,H2,U,q9⟩
 | cont=>
  obtain⟨σ2,H2,I9,q9⟩:=h9
  exact rq (back I9) hN hi hk fun af U=>⟨_,H2,U,q9⟩
 | ret u=>
  obtain⟨v,σ2,H2,I9,rv,q9⟩:=h9
  exact rq (back I9) hN hi hk fun af U=>⟨v,_,H2,U,rv,q9⟩
theorem Dm{CH:Addr}{i:Nat}(E:St->XK){x n:Str}{np hpos pos:Pos}{b₀:Stmt}{suite body:List Stmt}{tb ts:TS}
  (hstk:X.stack=X.env::X.outer)(hfr:X.env.frame=some X.env.locals)(hN:X.N.Nodup)(hi:X.N[i]? =some n)(hk:X.env.scope.names.lookup n=some .local)(hg:Gl X x)(hm:X.mg x=some (.ref CH))
  (hb:∀ p xe,my (fQ X.prog X.w) (X.tr p xe) E->fM (X.tr p xe) body tb)(hs:∀ ea p,fM (kF X ea p) (b₀::suite) ts)
  (hdb:(x == ("__debug__":Str))=false:=by decide):PS X (.Try body [.ExceptHandler (some (.Name x np)) (some n) (b₀::suite) hpos] [] [] pos) (HB X.K CH i E tb ts):=by
 intro pins s σ H D I h
 obtain⟨h1,h2⟩:=h
 refine wpAny_Try_except ?_
 have I':Inv (X.tr (X.pn++pins) fun e aa=>wpAny (model X.prog X.w) X.A (noteFrame e X.env) (fun _ ab=>wpAny (model X.prog X.w) X.A (setFlight e none) (fun _ ae=>
   wpAny (model X.prog X.w) X.A (handleBy e X.env [.ExceptHandler (some (.Name x np)) (some n) (b₀::suite) hpos]) (SP X pins D) X.xe ae) X.xe ab) X.xe aa) [] σ H s:=
  ⟨⟨I.ok.mod,I.ok.kind,I.ok.glob,I.ok.blt,I.ok.above,I.ok.inj,I.ok.has,I.ok.cab,I.ok.hd,I.ok.frames,I.ok.stk,I.ok.exf,I.ok.bs,I.ok.bsz,I.ok.noex,I.ok.exfs,I.ok.funs,I.ok.frf⟩,
   I.os,I.bare,I.base,I.loc,I.cell,I.free,I.freeC,fun p hp=>I.pin p (by simpa using hp),I.hok,I.len⟩
 have back:∀{U:St} {H2:Hp} {s2:Shared},Inv (X.tr (X.pn++pins) fun e aa=>wpAny (model X.prog X.w) X.A (noteFrame e X.env) (fun _ ab=>wpAny (model X.prog X.w) X.A (setFlight e none) (fun _ ae=>
   wpAny (model X.prog X.w) X.A (handleBy e X.env [.ExceptHandler (some (.Name x np)) (some n) (b₀::suite) hpos]) (SP X pins D) X.xe ae) X.xe ab) X.xe aa) [] U H2 s2->Inv X pins U H2 s2:=fun J=>
  ⟨I.ok,J.os,J.bare,J.base,J.loc,J.cell,J.free,J.freeC,fun p hp=>J.pin p (List.mem_append_left _ hp),J.hok,J.len⟩
 refine wpAny_mono (hb _ _ (D7 hstk hfr hN hi hk hg hm hs h2 hdb) [] s σ H D I' h1) (fun f s1 q=>?_) fun e s1 q=>q
 cases f with
 | next=>
  obtain⟨U,H2,J,q⟩:=q
  exact wpAny_execs_nil ⟨U,H2,back J,q⟩
 | brk=>obtain⟨U,H2,J,q⟩:=q;exact⟨U,H2,back J,q⟩
 | cont=>obtain⟨U,H2,J,q⟩:=q;exact⟨U,H2,back J,q⟩
 | ret u=>obtain⟨v,U,H2,J,r,q⟩:=q;exact⟨v,U,H2,back J,r,q⟩
end
structure vC (k : Nat) (A : Around) : Prop where
 dp : A.depth + 3 * k + 5 < recursionLimit
 un : A.units + 16 * k + 200 < cLine
theorem gE.toN {k:Nat}{A:Around}(r:gE k A):vC k A:=⟨r.dp,r.un⟩
theorem vC.units {k:Nat}{A:Around}(r:vC k A):A.units + 100 < cLine:=by have:=r.un;omega
theorem gE.units100 {k:Nat}{A:Around}(r:gE k A):A.units + 100 < cLine:=r.toN.units
section
variable {X : Cx} {k : Nat} {f C : Addr} {fd : FuncData} {ps : List Str} {sp : List V -> Hp -> VK -> Prop} {dvs : List V} {ds : List Value} {x m : Str} {p pos apos : Pos} {e o : Expr} {es : List Expr} {ta : TE} {t : TA}
end
end L2
namespace PySem.W
open PySem PySem.Spec PySem.Calls PyProof.Rows PySem.Builtin.ObjectAttr PySem.Builtin.Getset_descriptor PySem.Builtin
structure ExcCls (K : Frag) (C : Addr) : Prop where
 cl : (clsIn K C).isSome = true
 ga : findIn K (.ref C) "__getattribute__" = some (some (.builtin "BaseException.__getattribute__"))
 hk : findIn K (.ref C) "__getattr__" = some none
 ha : findIn K (.ref C) "__class__" = some (some (.builtin "object.__class__"))
 hn : specialIn K (.builtin "object.__class__") "__get__" = some (some (.builtin "getset_descriptor.__get__"))
 ht : takesIn K (.builtin "object.__class__") = some true
 hm : mroIn K C (.type "object") = some true
 hb : mroIn K C (.type "BaseException") = some true
section
variable {prog : Program} {w : World} {A : Around} {E : Value -> Shared -> Prop} {K : Frag} {x C : Addr} {ox : Obj}
theorem BF{R:Result->Shared->Prop}{h:Heap}{g:Array GenState}{d:Drawn}{t:Nat}{os:OsState}{tp:Value}(X:K.In h)(L0:Looks (model prog w) h (typeOf (.ref x)) (.ref C))(hm:mroIn K C (.type "object")=some true)
  (hq:R (.ok (.ret (.ref C))) ⟨h,g,d,t,os⟩):codeAny (model prog w) A (.call (.builtin "getset_descriptor.__get__") ⟨[.builtin "object.__class__",.ref x,tp],[]⟩) R ⟨h,g,d,t,os⟩:=by
 have I:=looks_mroIn (M:=model prog w) X hm
 refine codeAny_call_builtin KF.slot_gs.plain KF.entry_gs (KF.slot_gs.check _ _ _ _ _ _ _ _ KF.type_class (KF.args_gs _ _ _) ?_)
 unfold Builtin.«getset_descriptor.__get__» descrGet
 rw [dga_obj]
 refine wpAny_bind (wpAny_pure ?_)
 unfold descrGetter descrCheckInstance descrNameAndClass isInstance
 simp only [KF.owner_class]
 repeat lk
 refine⟨Code.quiet_builtin _ (by first | decide +kernel),codeAny_builtin KF.entry_class ?_⟩
 unfold Builtin.«object.__class__» shownTypeOf
 repeat lk
 exact hq
theorem Ed{h:Heap}{g:Array GenState}{d:Drawn}{t:Nat}{os:OsState}{vs:Array Value}{Q:Option Value->Shared->Prop}(X:K.In h)(T:ExcCls K C)(hx:h.get? x=some ox)(hc:ox.cls= .ref C)(hd:ox.data= .fields vs)
  (hq:Q (some (.ref C)) ⟨h,g,d,t + 1,os⟩):wpAny (model prog w) A (getAttr? (.ref x) "__class__") Q E ⟨h,g,d,t,os⟩:=by
 have U:Looks (model prog w) h (typeOf (.ref x)) (.ref C):=hc ▸ (Looks.ld hx).andThen .now
 have L1:=looks_findIn (M:=model prog w) X T.ga
 unfold getAttr? getAttrBy? getAttrBy
 refine wpAny_bind (wpAny_mkText (wpAny_bind (wpAny_attempt (wpAny_holding (wpAny_bind (U.at (wpAny_bind (L1.at ?_))))))))
 show wpAny _ _ (getAttrByItsOwn (.ref x) (.str "__class__" t) (.ref C) (.builtin "BaseException.__getattribute__") false false) _ _ _
 have LH:=looks_findIn (M:=model prog w) X T.hk
 unfold getAttrByItsOwn callGetattribute boundAndCalled hookBefore
 refine wpAny_bind (LH.at (wpAny_bind (wpAny_attempt (wpAny_holding ?_))))
 rw [if_neg (by simp)]
 refine wpAny_bind (wpAny_of_eq (F.excAttr_ValueError.ga.bind _) ?_)
 refine wpAny_call ?_
 refine codeAny_call_builtin F.excAttr_ValueError.ga.plain F.entry_bexc_ga ?_
 have I:Looks (model prog w) h (isSubtype (.ref C) (.type "BaseException")) true:=looks_mroIn X T.hb
 have aa:∀{A':Around} {Q':Unit->Shared->Prop} {E':Value->Shared->Prop} {t':Nat},Q' () ⟨h,g,d,t',os⟩->wpAny (model prog w) A' (checkBuiltinCall "BaseException.__getattribute__" ⟨[.ref x,.str "__class__" t],[]⟩) Q' E' ⟨h,g,d,t',os⟩:=fun J=>by
  have ab:builtinKind "BaseException.__getattribute__"=some .slot:=by kernel_rfl
  have ae:splitId "BaseException.__getattribute__"=some ("BaseException","__getattribute__"):=by kernel_rfl
  simp only [checkBuiltinCall,ab,ae]
  have LI:Looks (model prog w) h (isInstance (.ref x) (.type "BaseException")) true:=U.andThen I
  refine wpAny_bind (LI.at ?_)
  simp only [Bool.not_true,Bool.false_eq_true,if_false]
  have ha:=F.args_bexc_ga (.ref x) (.str "__class__" t)
  cases hsig:Manifest.signature? "BaseException.__getattribute__" with
  | none=>exact wpAny_pure J
  | some sig=>
   simp only [argsOk,hsig] at ha
   have h2:Bind.checkArgs "BaseException.__getattribute__" sig ⟨[.ref x,.str "__class__" t],[]⟩=pure ():=ha
   show wpAny _ _ (Bind.checkArgs "BaseException.__getattribute__" sig ⟨[.ref x,.str "__class__" t],[]⟩) _ _ _
   rw [h2];exact wpAny_pure J
 refine aa ?_
 have LF:Looks (model prog w) h (Builtin.ObjectAttr.find (.ref x) (.ref C) "__class__") (Found.bind (.builtin "getset_descriptor.__get__") (.builtin "object.__class__")):=by
  have L1:=looks_findIn (M:=model prog w) X T.ha
  have L2:Looks (model prog w) h (getOf (some (.builtin "object.__class__"))) (some (.builtin "getset_descriptor.__get__")):=looks_specialIn X T.hn
  have L3:=looks_takesIn (M:=model prog w) X T.ht
  unfold Builtin.ObjectAttr.find
  exact L1.andThen (L2.andThen ((show Looks (model prog w) h (dataDescriptor? (some (.builtin "object.__class__")) (some (.builtin "getset_descriptor.__get__"))) (some (.builtin "getset_descriptor.__get__",.builtin "object.__class__")) from L3.andThen .now).andThen (Looks.tag .now)))
 show wpAny _ _ (Builtin.«object.__getattribute__» ⟨[.ref x,.str "__class__" t],[]⟩) _ _ _
 unfold Builtin.«object.__getattribute__»
 refine wpAny_bind (wpAny_pure (wpAny_bind (wpAny_pure (wpAny_bind (U.at (wpAny_bind (LF.at ?_)))))))
 show wpAny _ _ (bindTo (.builtin "getset_descriptor.__get__") (.builtin "object.__class__") (.ref x) (.ref C)) _ _ _
 show wpAny _ _ (holding [Value.builtin "object.__class__"] (call (.builtin "getset_descriptor.__get__") [.builtin "object.__class__",.ref x,.ref C]) >>= ret) _ _ _
 refine wpAny_bind (wpAny_holding (wpAny_call (BF X U T.hm ?_)))
 refine wpAny_pure ?_
 exact handed_on rfl (wpAny_pure hq)
def ExcAtH(x C:Addr)(h:Heap):Prop:=∃ o vs,h.get? x=some o/\o.cls= .ref C/\o.data= .fields vs
theorem kitx_exc(T:ExcCls K C):KitX K (.ref x) (.ref C) (ExcAtH x C) where
 ty:=fun M h _ ⟨o,vs,e,c,d⟩=>c ▸ (Looks.ld e).andThen .now
 it:=fun _ _ X _=>by
  obtain⟨J,I⟩:=Option.isSome_iff_exists.mp T.cl
  unfold clsIn at I
  split at I
  ·rename_i c' d' U aa ho
   intro A' Q' E' s' k q
   unfold isType loadHead
   exact wpAny_bind (wpAny_loadPart (k _ _ (X _ _ ho)) (wpAny_pure q))
  ·cases I
 ne:=fun h tp dd ae n sl X ab=>by
  obtain⟨J,I⟩:=Option.isSome_iff_exists.mp T.cl
  refine Bool.eq_false_iff.mpr fun q=>?_
  have e:C=tp:=Value.ref.inj (beq_iff_eq.mp q)
  subst e
  unfold clsIn at I
  split at I
  ·rename_i c' d' U aa ho
   have z:=(X _ _ ho).symm.trans ab
   cases z
  ·cases I
 ca:=fun{prog w A E Q s} X ⟨o,vs,e,c,d⟩ k=>by
  obtain⟨hh,g,dd,t,os⟩:=s
  exact Ed X T e c d k
end
end PySem.W
namespace L2
open PySem PySem.Spec PyProof.Rows
theorem wC:∀{Cs:List Addr} {its:List Value},Vals (Cs.map V.ref) its->its=Cs.map Value.ref
 | [],_,.nil=>rfl
 | _::_,_,.cons I J=>by cases I;rw [wC J,List.map_cons]
section
variable {X : Cx}
theorem Du:jc X (.builtin "isinstance") (fun xs H Q=>∃ ea D c b,xs=[.ref ea,c]/\H ea=some (kY ea D)/\W.ExcCls X.K D/\
  ((∃ n,c= .ty n/\W.kitOne X.K (.ref D) (.type n)=some b)\/(∃ C,c= .ref C/\W.kitOne X.K (.ref D) (.ref C)=some b)\/
   (∃(p:Addr) (Cs:List Addr),c= .ref p/\H p=some (.tup (Cs.map V.ref))/\W.kitAny X.K (.ref D) (Cs.map Value.ref)=some b))/\Q (.bl b) H):=by
 intro pins s σ H xs us Q I r h
 obtain⟨ea,D,c,b,rfl,hH,T,hc,q⟩:=h
 obtain⟨u,w',rfl,rx,rc⟩:=vals2 r
 cases rx
 have hE:W.ExcAtH ea D s.heap:=(I.hok ea _ hH).1
 have fin:∀ tk,EP X pins σ Q (.bool b) {s with toks:=tk}:=fun tk=>⟨.bl b,H,I.tok tk,rfl,q⟩
 rcases hc with ⟨n,rfl,e⟩ | ⟨C,rfl,e⟩ | ⟨p,Cs,rfl,hp,e⟩
 ·cases rc
  exact W.kia_one (W.kitx_exc T) I.kIn hE e (fun z=>nomatch z) fin
 ·cases rc
  exact W.kia_one (W.kitx_exc T) I.kIn hE e (fun z=>nomatch z) fin
 ·cases rc
  obtain⟨_,J,rv,o,ho,aa,n,hd⟩:=(show gI X.prog X.w H s.heap p (.tup (Cs.map V.ref)) from I.hok p _ hp)
  have ei:J=Cs.map Value.ref:=wC rv
  obtain⟨cls,dd,data,sl⟩:=o
  have U:cls= .type "tuple":=aa
  have ab:data= .seq J.toArray n:=hd
  subst U ab
  exact W.kia_tup (W.kitx_exc T) I.kIn hE ho (by rw [ei];exact e) (fun z=>nomatch z) fin
end
theorem tT{J:It}{g:TG}{tc:TT}{te:TE}{σ0:St}{H:Hp}{Q:VK}(n:Nat)(Pv:Nat->List V->Hp->Prop)(hz:n < sizeLine)(hgo:∀ i ys H,i < n->Pv i ys H->J.go i H)(hstop:∀ ys H,Pv n ys H->J.stop n H)(h0:Pv 0 [] H)
  (hs:∀ i ys H x H' (N:List V->Hp->Prop),i < n->Pv i ys H->J.yld i H x H'->(∀ ys' H2,Pv (i + 1) ys' H2->N ys' H2)->
   g x σ0 H' fun σ2 H2=>tc σ2 H2 fun b H3=>if b=true then te σ2 H3 fun y H4=>N (ys++[y]) H4 else N ys H3)
  (hd:∀ ys H,Pv n ys H->ys.length<=n->∀ p,H p=none->Q (.ref p) (upd H p (.lst ys))):
  oa J g tc te σ0 Q H:=by
 refine⟨fun i m ys H=>m=n - i/\i<=n/\ys.length<=i/\Pv i ys H,⟨n,by simp,Nat.zero_le _,Nat.le_refl _,h0⟩,?_⟩
 rintro i m ys H ⟨rfl,hi,hl,p⟩
 by_cases U:i < n
 ·refine .inr ⟨hgo i ys H U p,by(clear U;omega),fun x H' y=>?_⟩
  have key:=hs i ys H x H' (fun ys' H2=>(ys'.length<=ys.length + 1->∃ I,I < n - i/\I=n - (i + 1)/\i + 1<=n/\ys'.length<=i + 1/\Pv (i + 1) ys' H2)) U p y (fun ys' H2 q hle=>⟨n - (i + 1),by(clear hle hl hi hz;omega),rfl,U,by(clear U hi hz;omega),q⟩)
  have e:(fun σ2 H2=>tc σ2 H2 fun b H3=>if b=true then te σ2 H3 fun y H4=>((ys++[y]).length<=ys.length + 1->∃ I,I < n - i/\I=n - (i + 1)/\i + 1<=n/\(ys++[y]).length<=i + 1/\Pv (i + 1) (ys++[y]) H4)
    else (ys.length<=ys.length + 1->∃ I,I < n - i/\I=n - (i + 1)/\i + 1<=n/\ys.length<=i + 1/\Pv (i + 1) ys H3))=
   (fun σ2 H2=>tc σ2 H2 fun b H3=>if b=true then te σ2 H3 fun y H4=>∃ I,I < n - i/\I=n - (i + 1)/\i + 1<=n/\(ys++[y]).length<=i + 1/\Pv (i + 1) (ys++[y]) H4
    else ∃ I,I < n - i/\I=n - (i + 1)/\i + 1<=n/\ys.length<=i + 1/\Pv (i + 1) ys H3):=by
   funext σ2 H2
   congr 1
   funext b H3
   have e1:∀(y:V) (H4:Hp),((ys++[y]).length<=ys.length + 1->∃ I,I < n - i/\I=n - (i + 1)/\i + 1<=n/\(ys++[y]).length<=i + 1/\Pv (i + 1) (ys++[y]) H4)=(∃ I,I < n - i/\I=n - (i + 1)/\i + 1<=n/\(ys++[y]).length<=i + 1/\Pv (i + 1) (ys++[y]) H4):=fun y H4=>
    propext ⟨fun q=>q (by simp),fun q _=>q⟩
   have e2:(ys.length<=ys.length + 1->∃ I,I < n - i/\I=n - (i + 1)/\i + 1<=n/\ys.length<=i + 1/\Pv (i + 1) ys H3)=(∃ I,I < n - i/\I=n - (i + 1)/\i + 1<=n/\ys.length<=i + 1/\Pv (i + 1) ys H3):=propext ⟨fun q=>q (by(clear U hl hi hz;omega)),fun q _=>q⟩
   simp only [e1,e2]
  rw [e] at key
  exact key
 ·have e:i=n:=by(clear hl hz;omega)
  subst e
  exact .inl ⟨hstop ys H p,by(clear U hi;omega),hd ys H p hl⟩
theorem Ar{x:Str}{g:TG}{tc:TT}{te:TE}{σ0:St}{H:Hp}{Q:VK}(Pv:Nat->List V->Hp->Prop)(hz:x.cps.size < sizeLine)(h0:Pv 0 [] H)
  (hs:∀ i c ys H (N:List V->Hp->Prop),x.cps[i]? =some c->Pv i ys H->(∀ ys' H2,Pv (i + 1) ys' H2->N ys' H2)->
   g (.str ⟨#[c]⟩) σ0 H fun σ2 H2=>tc σ2 H2 fun b H3=>if b=true then te σ2 H3 fun y H4=>N (ys++[y]) H4 else N ys H3)
  (hd:∀ ys H,Pv x.cps.size ys H->ys.length<=x.cps.size->∀ p,H p=none->Q (.ref p) (upd H p (.lst ys))):oa (tQ x) g tc te σ0 Q H:=tT x.cps.size Pv hz (fun i ys H hi _=>hi) (fun ys H _=>rfl) h0
 (fun i ys H v H' N hi p y I=>by
  obtain⟨e,c,J,U⟩:=y
  subst e U
  exact hs i c ys _ N J p I) hd
theorem qt{lo:Int}{n:Nat}{g:TG}{tc:TT}{te:TE}{σ0:St}{H:Hp}{Q:VK}(Pv:Nat->List V->Hp->Prop)(hz:n < sizeLine)(h0:Pv 0 [] H)
  (hs:∀ i ys H (N:List V->Hp->Prop),i < n->Pv i ys H->(∀ ys' H2,Pv (i + 1) ys' H2->N ys' H2)->
   g (.int (lo + i)) σ0 H fun σ2 H2=>tc σ2 H2 fun b H3=>if b=true then te σ2 H3 fun y H4=>N (ys++[y]) H4 else N ys H3)
  (hd:∀ ys H,Pv n ys H->ys.length<=n->∀ p,H p=none->Q (.ref p) (upd H p (.lst ys))):oa (nA lo n) g tc te σ0 Q H:=tT n Pv hz (fun i ys H hi _=>hi) (fun ys H _=>Nat.le_refl _) h0
 (fun i ys H v H' N hi p y I=>by
  obtain⟨e,J⟩:=y
  subst e J
  exact hs i ys _ N hi p I) hd
theorem jk{K:W.Frag}{a:Addr}{xs:List V}{g:TG}{tc:TT}{te:TE}{σ0:St}{H:Hp}{Q:VK}(Pv:Nat->List V->Hp->Prop)(hz:xs.length < sizeLine)(hl:∀ i ys H,Pv i ys H->fj K H a xs)(h0:Pv 0 [] H)
  (hs:∀ i x ys H (N:List V->Hp->Prop),xs[i]? =some x->Pv i ys H->(∀ ys' H2,Pv (i + 1) ys' H2->N ys' H2)->
   g x σ0 H fun σ2 H2=>tc σ2 H2 fun b H3=>if b=true then te σ2 H3 fun y H4=>N (ys++[y]) H4 else N ys H3)
  (hd:∀ ys H,Pv xs.length ys H->ys.length<=xs.length->∀ p,H p=none->Q (.ref p) (upd H p (.lst ys))):oa (nM K a) g tc te σ0 Q H:=tT xs.length Pv hz
 (fun i ys H hi p=>⟨xs,xs[i],hl i ys H p,by simp [hi]⟩) (fun ys H p=>⟨xs,hl _ ys H p,Nat.le_refl _⟩) h0
 (fun i ys H v H' N hi p y I=>by
  obtain⟨e,y⟩:=y
  subst e
  exact hs i v ys _ N (y xs (hl i ys _ p)) p I) hd
@[elab_as_elim] theorem jY {α:Type}{p:List α->Prop}(h:∀ a,p [a])(us:List α)(hl:us.length=1):p us:=by
 obtain⟨a,rfl⟩:=List.length_eq_one_iff.mp hl
 exact h a
@[elab_as_elim] theorem ix {α:Type}{p:List α->Prop}(h:∀ a b,p [a,b])(us:List α)(hl:us.length=2):p us:=by
 cases us with
 | nil=>cases hl
 | cons a r=>exact @jY _ (fun r=>p (a::r)) (fun b=>h a b) r (Nat.succ.inj hl)
@[elab_as_elim] theorem lg {α:Type}{p:List α->Prop}(h:∀ a b c,p [a,b,c])(us:List α)(hl:us.length=3):p us:=by
 cases us with
 | nil=>cases hl
 | cons a r=>exact @ix _ (fun r=>p (a::r)) (fun b c=>h a b c) r (Nat.succ.inj hl)
@[elab_as_elim] theorem Jc {α:Type}{p:List α->Prop}(h:∀ a b c d,p [a,b,c,d])(us:List α)(hl:us.length=4):p us:=by
 cases us with
 | nil=>cases hl
 | cons a r=>exact @lg _ (fun r=>p (a::r)) (fun b c d=>h a b c d) r (Nat.succ.inj hl)
section
variable {X : Cx}
theorem yu{i:Nat}{x:Str}{pos' spos:Pos}{elt target iter:Expr}{ifs:List Expr}{scope sc0:Scope}{pos:Pos}{N N0:List Str}{own:Nat}{caps:List Nat}{wi:TI}{g:TG}{tc:TT}{te t':TE}
  (hNd:X.N.Nodup)(hxi:X.N[i]? =some x)(hx:Loc X.env.scope x)
  (hcalm:X.calm=true)(hi:PI X target iter wi)
  (hg:∀ s₀ H₀ ex,PG (iy X scope N s₀ H₀ ex) target g)(hc:∀ s₀ H₀ ex,fS (iy X scope N s₀ H₀ ex) ifs tc)(he:∀ s₀ H₀ ex,PE (iy X scope N s₀ H₀ ex) elt te)(hk:oo own g)
  (hX:X.N=N0)(hsc:X.env.scope=sc0)
  (hcell:∀ y∈scope.names,y.2≠ .cell)(hkind:scope.kind= .function)(hnames:∀ y∈scope.names,y.2= .local->scope.names.lookup y.1=some .local)
  (hfree:∀ y∈scope.names,y.2= .free->sc0.names.lookup y.1=some .cell)(hN:N.length=own + caps.length)
  (hcap:∀ p∈caps.zip (N.drop own),N0[p.1]? =some p.2/\scope.names.lookup p.2=some .free)
  (himp:∀ σ H Q,t' σ H Q->qd own caps wi g tc te σ H Q)
  (hs:∀ x,foldedSetIterable iter X.env x=pure x:=by intro _;rfl)
  (hsw:swapsWith (.ListComp elt [⟨target,iter,ifs,0⟩] scope pos) (some (.Name x pos')) spos.line X.env=pure true:=by rfl)
  (hf:X.fn x=true\/X.env.scope.names.lookup x=some .local:=by first | exact .inl rfl | exact .inr rfl | assumption):
  PS X (.Assign [.Name x pos'] (.ListComp elt [⟨target,iter,ifs,0⟩] scope pos) spos) (uS t' (jC i)):=by
 intro pins s σ H D I h
 rw [exec_Assign_Name_used _ _ _ _ hsw]
 refine wpAny_bind (wpAny_standAt (wpAny_bind ?_))
 show wpAny _ X.A (do let _<-comprehension (.ListComp elt [⟨target,iter,ifs,0⟩] scope pos) scope X.env _ (newList []) false (eval iter X.env) (some (assign (.Name x pos') X.env))) _ _ s
 refine wpAny_bind (wpAny_mono (zN (use:=some (assign (.Name x pos') X.env)) (Qf:=fun _ s'=>SP X pins D .next s') hcalm hi hg hc he hk hX hsc hcell hkind hnames hfree hN hcap hs I (himp _ _ _ h) ?_) (fun _ s' hq=>wpAny_pure (wpAny_pure hq)) fun _ _ e=>e)
 intro U C s' He ys m f hn hI J q
 show wpAny _ X.A (assign (.Name x pos') X.env (.ref U)) _ _ s'
 have I1:Inv X pins σ (upd He U (.lst ys)) s':=hI s'.heap ⟨rfl,fun _ _=>rfl⟩
 refine wpAny_assign_Name (zt (v:= .ref U) I1 hNd hxi hx rfl (fun aa I2 ⟨a,ab,ha⟩=>?_) hf)
 have ae:C≠a:=by
  rcases ha with rfl | ha
  ·exact J.2.1
  ·exact fun z=>J.2.2.2.2.1 _ _ ha z.symm
 refine⟨m,hn.sameBut ab ae,fun h' af=>⟨_,_,I2.turnedL (fp:=[C]) (t':=aa.toks) (fun b o hb e=>(af.2 b (fun z=>hb (by rw [z];exact List.mem_singleton.mpr rfl))).trans e) (fun b hb=>?_),q⟩⟩
 rw [List.mem_singleton.mp hb]
 exact J
end
def qh(a:Addr):It:=⟨fun i H=>∃ xs x,H a=some (.lst xs)/\xs[i]? =some x,fun i H v H'=>∃ T x,H T=none/\(∀ xs,H a=some (.lst xs)->xs[i]? =some x)/\v= .ref T/\H'=upd H T (.tup [.int i,x]),fun i H=>∃ xs,H a=some (.lst xs)/\i=xs.length⟩
theorem A4{P:Program}{w:World}{K:PySem.W.Frag}{elts:List Expr}{k:Nat}{pos:Pos}(a e it:Addr)(hei:e≠it):
  Turn P w K (.Tuple elts k pos) (qh a) [e,it] e (fun i h=>(∃ old,IsEnum h e it i old)/\h.IsListIter it a i) where
 mem:=by simp
 obj:=fun i h st b hb=>by
  obtain⟨⟨old,he⟩,o,ho,c,d⟩:=st
  rcases List.mem_cons.mp hb with rfl | hb
  ·exact⟨_,he,fun v z=>nomatch z⟩
  ·have e:b=it:=by simpa using hb
   subst e
   exact⟨o,ho,fun v z=>by rw [d] at z;cases z⟩
 keep:=fun i h h' st kk=>by
  obtain⟨⟨old,he⟩,o,ho,r⟩:=st
  exact⟨⟨old,kk e (by simp) _ he⟩,o,kk it (by simp) o ho,r⟩
 item:=by
  intro X hP hw hK hc i pins s σ H E I hf st hg
  subst hP hw hK
  obtain⟨xs,x,U,hx⟩:=hg
  obtain⟨J,rv,p,hz⟩:=I.list (fj.of U)
  obtain⟨u,hu,ru⟩:=rv.get hx
  have ab:a≠e:=fun z=>by rw [z,(hf e (by simp)).1] at U;cases U
  have ae:a≠it:=fun z=>by rw [z,(hf it (by simp)).1] at U;cases U
  have aj:i < J.toArray.size:=by
   have:=(List.getElem?_eq_some_iff.mp hu).1
   simpa using this
  have W:=WalksT.enumerateD (Draws.list (prog:=X.prog) (w:=X.w) (A:=X.A.in1) (I.ok.hd hc) it a ae J.toArray) e hei (by simp [hei,Ne.symm ab]) (by simp)
  refine W.item i s _ _ aj ⟨st.1,st.2,p.isList⟩ fun T vals h' tk hv hT ht mid kk=>⟨_,rfl,?_⟩
  obtain⟨t',y,hy,rfl⟩:=hv
  have ak:y=u:=by
   have h1:J[i]? =some y:=by simpa using hy
   rw [hu] at h1
   exact(Option.some.inj h1).symm
  subst ak
  refine W.go elts k pos i T _ _ _ mid fun af aa ag=>?_
  have keep:∀ b o,b∉[e,it]->s.heap.get? b=some o->af.get? b=some o:=fun b o hb q=>ag b o hb (kk b o hb q)
  have I1:Inv X pins σ H {s with heap:=af,toks:=tk}:=I.turnedL keep hf
  have hn:H T=none:=I.hok.fresh hT
  have ah:T∉[e,it]:=W.apart i T h' mid
  obtain⟨ot,ao,aq,n,ar⟩:=ht
  have I2:Inv X pins σ (upd H T (.tup [.int i,x])) {s with heap:=af,toks:=tk}:=by
   refine I1.track (.inl (Heap.get?_none_of_le (Nat.le_trans I.sz hT))) hn (Nat.ne_of_gt (Nat.lt_of_lt_of_le I.lt hT)) (fun y c' q z=>?_) (fun p hp z=>?_) ?_
   ·obtain⟨v,q'⟩:=I.cell y c' q
    exact absurd (Nat.lt_of_lt_of_le q'.lt (by rw [z];exact hT)) (Nat.lt_irrefl _)
   ·exact absurd (Nat.lt_of_lt_of_le (Heap.lt_size (I.pin p hp).1) (by rw [z];exact hT)) (Nat.lt_irrefl _)
   ·exact⟨by show 2<=sizeLine;decide,[.int i t',y],.cons ⟨_,rfl⟩ (.cons ru .nil),ot,ag T ot ah ao,aq,n,ar⟩
  refine⟨.ref T,_,I2,rfl,⟨T,x,hn,(fun ys ai=>?_),rfl,rfl⟩,⟨aa.1,aa.2.1⟩,fun b hb=>?_⟩
  ·rw [U] at ai
   cases ai
   exact hx
  ·have au:b≠T:=fun z=>ah (z ▸ hb)
   rw [fB au]
   exact(hf b hb).1
 done:=by
  intro X hP hw hK hc i pins s σ H E I hf st hg
  subst hP hw hK
  obtain⟨xs,U,hx⟩:=hg
  obtain⟨J,rv,p,hz⟩:=I.list (fj.of U)
  have hl:=rv.length
  have ab:a≠e:=fun z=>by rw [z,(hf e (by simp)).1] at U;cases U
  have ae:a≠it:=fun z=>by rw [z,(hf it (by simp)).1] at U;cases U
  have W:=WalksT.enumerateD (Draws.list (prog:=X.prog) (w:=X.w) (A:=X.A.in1) (I.ok.hd hc) it a ae J.toArray) e hei (by simp [hei,Ne.symm ab]) (by simp)
  have hi:i=J.toArray.size:=by rw [hx,hl];simp
  subst hi
  exact W.done s _ _ ⟨st.1,st.2,p.isList⟩ fun h' tk kk=>⟨rfl,I.turnedL kk hf⟩
 self:=fun A i s Q E st h=>by
  obtain⟨⟨old,he⟩,_⟩:=st
  exact wpAny_pyIter_enum he h
def CQ(ta:TA):TI:=fun σ H R=>ta σ H fun vs H1=>∃(a:Addr) (xs:List V),vs=[.ref a]/\H1 a=some (.lst xs)/\R (qh a) H1
section
variable {X : Cx}
theorem oq{elts:List Expr}{k:Nat}{tpos p pos:Pos}{a:Expr}{ta:TA}(hg:Gl X "enumerate")(hm:X.mg "enumerate"=none)(ha:PA X [a] ta)(hs:starEach [a] X.env=[(false,eval a X.env)]:=by rfl):
  PI X (.Tuple elts k tpos) (.Call (.Name "enumerate" p) [a] [] pos) (CQ ta):=by
 intro pins s σ H R I h
 refine Call_ (oB I hg hm boot_enumerate (PyProof.Rows.callWith_type1 (fK (ha pos pins s σ H _ I h) fun us s1 ⟨vs,H1,J,U,q1⟩=>?_) hs rfl))
 obtain⟨l,xs,e,hH,q⟩:=q1
 subst e
 obtain⟨u,rfl,ru⟩:=vals1 U
 cases ru
 obtain⟨aa,rv,pl,hz⟩:=J.list (fj.of hH)
 refine call_enumerate_list pl.isList fun h' he hit hsz hk=>?_
 refine wpAny_pyIter_enum he ?_
 refine⟨s1.heap.objs.size + 1,[s1.heap.objs.size + 1,s1.heap.objs.size],_,_,H1,rfl,J.kept (t':=s1.toks) hk,A4 l _ _ (Nat.succ_ne_self _),⟨⟨_,he⟩,hit⟩,fun b hb=>?_,q⟩
 rcases List.mem_cons.mp hb with rfl | hb
 ·exact J.fpOk (Nat.le_succ _) (J.hok.fresh (Nat.le_succ _))
 ·have e:b=s1.heap.objs.size:=by simpa using hb
  subst e
  exact J.fpOk (Nat.le_refl _) (J.hok.fresh (Nat.le_refl _))
end
theorem oA{a:Addr}{xs:List V}{g:TG}{tb:TS}{D:Ends}{σ:St}{H:Hp}(Pv:Nat->St->Hp->Prop)(h0:Pv 0 σ H)(hl:∀ i σ H,i<=xs.length->Pv i σ H->H a=some (.lst xs))
  (hs:∀ i x σ H T,xs[i]? =some x->Pv i σ H->H T=none->g (.ref T) σ (upd H T (.tup [.int i,x])) fun σ2 H2=>tb {D with nx:=Pv (i + 1),ct:=Pv (i + 1),bk:=D.nx} σ2 H2)(hd:∀ σ H,Pv xs.length σ H->D.nx σ H):
  ∃ W:Nat->Nat->St->Hp->Prop,(∃ m,W 0 m σ H)/\∀ i m σ H,W i m σ H->
   ((qh a).stop i H/\D.nx σ H)\/((qh a).go i H/\∃ N:St->Hp->Prop,(∀ σ' H',N σ' H'->∃ m',m' < m/\W (i + 1) m' σ' H')/\∀ x H',(qh a).yld i H x H'->g x σ H' fun σ2 H2=>tb {D with nx:=N,ct:=N,bk:=D.nx} σ2 H2):=by
 refine⟨fun i m σ H=>m=xs.length - i/\i<=xs.length/\Pv i σ H,⟨xs.length,by simp,Nat.zero_le _,h0⟩,?_⟩
 rintro i m σ H ⟨rfl,hi,p⟩
 have q:=hl i σ H hi p
 by_cases I:i < xs.length
 ·refine .inr ⟨⟨xs,xs[i],q,by simp [I]⟩,Pv (i + 1),fun σ' H' J=>⟨xs.length - (i + 1),by omega,rfl,I,J⟩,fun x H' y=>?_⟩
  obtain⟨T,z,U,hz,rfl,rfl⟩:=y
  exact hs i z σ H T (hz xs q) p U
 ·have e:i=xs.length:=by omega
  subst e
  exact .inl ⟨⟨xs,q,rfl⟩,hd σ H p⟩
section
variable {X : Cx} {CX : jn} {k : Nat} {f C : Addr} {fd : FuncData} {ps : List Str} {ds : List Value} {dvs : List V} {sp : Sp} {m : Str} {pos apos : Pos} {e o : Expr} {es : List Expr} {ta : TE} {t : TA} {E : St -> XK}
def Fl(C:Addr)(m:Str)(sp:Sp)(dvs:List V)(E:St->XK)(ta:TE)(t:TA):TE:=fun σ H Q=>ta σ H fun x H1=>∃ a dx fs,x= .ref a/\H1 a=some (.ins C dx fs)/\fs.lookup m=none/\
 t σ H1 fun vs H2=>sp (x::(vs++dvs)) H2 Q (E σ)
theorem Fy{pl:Sem Bool}(he:PE X o ta)(c:jL X.K C)(hm:Meth X.K C m f)(F:fx X.prog X.w X.K X.mg X.base CX k f fd ps sp)(hr:gE k X.A)(hb:Binds X.K fd ps ds)(hd:Vals dvs ds)(hx:my CX X E)(ha:PA X (e::es) t)
  (hst:starEach (e::es) X.env=(false,eval e X.env)::starEach es X.env:=by rfl)(hpl:(backTo pos (starEach es X.env)).any (·.1)=false:=by rfl)
  (ht:eval (.Call (.Attribute o m apos) (e::es) [] pos) X.env=(do
   let ov<-eval o X.env
   standAt apos.atName
   let (f,first)<-holding [ov] (getMethod ov m pl)
   callWith pos f first (backTo pos (starEach (e::es) X.env)) (backToKw pos (keywordEach [] X.env))):=by rfl):
  PE X (.Call (.Attribute o m apos) (e::es) [] pos) (Fl C m sp dvs E ta t):=by
 intro pins s σ H Q I h
 refine W.methodCall_KW (pl:=pl) (fK (he pins s σ H _ I h) fun u s1 ⟨x,H1,J,rx,a,dx,fs,ex,ea,l,q⟩=>?_) ht
 subst ex
 obtain rfl:u=Value.ref a:=rx
 refine wm J ea c hm l ?_
 refine W.callWith_K (first:=[.ref a]) (h₀:=X.base) I.ok.mod.kin hm.kp (fK (ha pos pins s1 σ H1 _ J q) fun us s2 ⟨vs,H2,U,r,q2⟩=>⟨U.kIn,?_⟩) hst hpl
 exact y6 (us:= .ref a::us) (vs:= .ref a::vs) F hr hb hd hx U (.cons rfl r) q2
end
section
variable {X : Cx} {pins : List (Addr × Obj)} {σ : St} {H : Hp} {s : Shared} {a : Addr}
theorem Inv.freeze {kvs:List (Key×V)}{o:Obj}(I:Inv X pins σ H s)(e:H a=some (.dK kvs))(ho:s.heap.get? a=some o):Inv X pins σ (upd H a (.frz o (.dK kvs))) s:=
 I.write (x:=a) (e:=a) (h':=s.heap) (t':=s.toks) (by rw [e];exact trivial) (.inl rfl) (fun _ _ _ q=>q) ⟨o,ho⟩ ⟨ho,I.hok a _ e⟩
theorem wY{P:Program}{w:World}{k:Key}{u:Value}(h:(iC P w).is k u=true):RelV (kV k) u:=by
 rcases kG (show mz k u=true from h) with ⟨i,t,rfl,rfl⟩ | ⟨x,t,rfl,rfl⟩
 ·exact⟨t,rfl⟩
 ·exact⟨t,rfl⟩
theorem KV.at {κ:Type}{kvs:List (κ×V)}{vs:List (κ×Value)}(r:KV kvs vs){i:Nat}{kv:κ×V}(h:kvs[i]? =some kv):∃ v,vs[i]? =some (kv.1,v):=by
 unfold KV at r
 induction r generalizing i with
 | nil=>cases i<;>cases h
 | @cons p q ps U I t J=>
  cases i with
  | zero=>
   have e:p=kv:=Option.some.inj h
   subst e
   exact⟨q.2,by show some q=some (p.1,q.2);rw [I.1]⟩
  | succ j=>exact J h
end
def oG(d:Addr)(o:Obj)(kvs:List (Key×V)):It:=
 ⟨fun i H=>H d=some (.frz o (.dK kvs))/\i < kvs.length,fun i H x H'=>H'=H/\∃ I,kvs[i]? =some I/\x=kV I.1,fun i H=>H d=some (.frz o (.dK kvs))/\kvs.length<=i⟩
theorem BQ{P:Program}{w:World}{K:W.Frag}{tg:Expr}(d it:Addr)(o:Obj)(kvs:List (Key×V)){es:Array DictEntry}{ep:Nat}(hdat:o.data= .dict es ep):
  Turn P w K tg (oG d o kvs) [it] it (fun i h=>h.IsKeyIter it d i kvs.length ep) where
 mem:=by simp
 obj:=fun i h st b hb=>by
  have e:b=it:=by simpa using hb
  subst e
  obtain⟨o,e,c,d⟩:=st
  exact⟨o,e,fun v z=>by rw [d] at z;cases z⟩
 keep:=fun i h h' st k=>st.at fun o e=>k it (by simp) o e
 item:=by
  intro X hP hw hK hc i pins s σ H E I hf st hg
  subst hP hw hK
  obtain⟨hH,hi⟩:=hg
  obtain⟨ho,z,ae,vs,rel,ob,ah,ai,J,r1,r2,r3⟩:=(show gI X.prog X.w H s.heap d (.frz o (.dK kvs)) from I.hok d _ hH)
  rw [ho] at J
  cases J
  rw [hdat] at r2
  cases r2
  have U:kvs.length=vs.length:=rel.length
  have af:kvs[i]? =some kvs[i]:=List.getElem?_eq_getElem hi
  obtain⟨v,hv⟩:=rel.at af
  obtain⟨f0,f1,f2,f3,f4,f5⟩:=hf it (by simp)
  have aa:s.heap.DictAt (iC X.prog X.w) d vs ep:=⟨o,es,ho,r1,hdat,r3⟩
  rw [U] at st
  refine wpAny_pyNext_dict_item st aa hv fun key h' ag ab sb=>?_
  rw [<-U] at ab
  have I1:Inv X pins σ H {s with heap:=h'}:=I.turned (t':=s.toks) (fun b o hb e=>(sb.2 b hb).trans e) f0 f1 f3 f4 f5
  obtain⟨o',e',c',d'⟩:=id ab
  exact⟨key,rfl,qk (s:={s with heap:=h'}) e' c' d' (by decide) ⟨kV kvs[i].1,H,I1,wY ag,⟨rfl,kvs[i],af,rfl⟩,ab,fun b hb=>(hf b hb).1⟩⟩
 done:=by
  intro X hP hw hK hc i pins s σ H E I hf st hg
  subst hP hw hK
  obtain⟨hH,hi⟩:=hg
  obtain⟨ho,z,ae,vs,rel,ob,ah,ai,J,r1,r2,r3⟩:=(show gI X.prog X.w H s.heap d (.frz o (.dK kvs)) from I.hok d _ hH)
  rw [ho] at J
  cases J
  rw [hdat] at r2
  cases r2
  have U:kvs.length=vs.length:=rel.length
  obtain⟨f0,f1,f2,f3,f4,f5⟩:=hf it (by simp)
  have aa:s.heap.DictAt (iC X.prog X.w) d vs ep:=⟨o,es,ho,r1,hdat,r3⟩
  rw [U] at st
  exact wpAny_pyNext_dict_end (I.ok.hd hc) st aa (List.getElem?_eq_none (by omega)) fun h' eb=>⟨rfl,I.turned (t':=s.toks) (fun b o hb e=>eb b o hb e) f0 f1 f3 f4 f5⟩
 self:=fun _ _ _ _ _ st h=>wpAny_pyIter_keyiter st h
def FY(td:TE):TI:=fun σ H R=>td σ H fun x H1=>∃ a kvs,x= .ref a/\H1 a=some (.dK kvs)/\∀ o,R (oG a o kvs) (upd H1 a (.frz o (.dK kvs)))
theorem vx{X:Cx}{tg l:Expr}{tl:TE}(hl:PE X l tl):PI X tg l (FY tl):=by
 intro pins s σ H R I h
 refine fK (hl pins s σ H _ I h) fun v s1 ⟨x,H1,I1,r1,q1⟩=>?_
 obtain⟨a,kvs,e,hH,q⟩:=q1
 subst e
 cases r1
 obtain⟨z,J,vs,rel,ob,es,ep,U,c1,c2,c3⟩:=wa I1.hok hH
 have aa:s1.heap.DictAt (iC X.prog X.w) a vs ep:=⟨ob,es,U,c1,c2,c3⟩
 have ab:kvs.length=vs.length:=rel.length
 have I2:=I1.freeze hH U
 refine wpAny_pyIter_dict J aa ?_
 refine⟨s1.heap.objs.size,[s1.heap.objs.size],_,oG a ob kvs,_,rfl,I2.kept (t':=s1.toks) fun b o e=>Heap.get?_push_of_some _ e,BQ a _ ob kvs c2,⟨_,Heap.get?_push_size _ rfl,rfl,by rw [ab];rfl⟩,fun b hb=>?_,q ob⟩
 have e:b=s1.heap.objs.size:=by simpa using hb
 subst e
 exact I2.fpOk (Nat.le_refl _) (I2.hok.fresh (Nat.le_refl _))
theorem uV{d:Addr}{o:Obj}{kvs:List (Key×V)}{g:TG}{tb:TS}{D:Ends}{σ:St}{H:Hp}(Pv:Nat->St->Hp->Prop)(h0:Pv 0 σ H)(hl:∀ i σ H,i<=kvs.length->Pv i σ H->H d=some (.frz o (.dK kvs)))
  (hs:∀ i kv σ H,kvs[i]? =some kv->Pv i σ H->g (kV kv.1) σ H fun σ2 H2=>tb {D with nx:=Pv (i + 1),ct:=Pv (i + 1),bk:=D.nx} σ2 H2)(hd:∀ σ H,Pv kvs.length σ H->D.nx σ H):
  ∃ W:Nat->Nat->St->Hp->Prop,(∃ m,W 0 m σ H)/\∀ i m σ H,W i m σ H->
   ((oG d o kvs).stop i H/\D.nx σ H)\/((oG d o kvs).go i H/\∃ N:St->Hp->Prop,(∀ σ' H',N σ' H'->∃ m',m' < m/\W (i + 1) m' σ' H')/\∀ x H',(oG d o kvs).yld i H x H'->g x σ H' fun σ2 H2=>tb {D with nx:=N,ct:=N,bk:=D.nx} σ2 H2):=by
 refine⟨fun i m σ H=>m=kvs.length - i/\i<=kvs.length/\Pv i σ H,⟨kvs.length,by simp,Nat.zero_le _,h0⟩,?_⟩
 rintro i m σ H ⟨rfl,hi,p⟩
 have q:=hl i σ H hi p
 by_cases I:i < kvs.length
 ·refine .inr ⟨⟨q,I⟩,Pv (i + 1),fun σ' H' U=>⟨kvs.length - (i + 1),by omega,rfl,I,U⟩,fun x H' y=>?_⟩
  obtain⟨rfl,kv,J,rfl⟩:=y
  exact hs i kv σ _ J p
 ·have e:i=kvs.length:=by omega
  subst e
  exact .inl ⟨⟨q,Nat.le_refl _⟩,hd σ H p⟩
section
variable {X : Cx}
def zh:V->List V->Hp->VK->Prop:=fun x vs H Q=>∃ d kvs k y,x= .ref d/\vs=[kV k,y]/\H d=some (.dK kvs)/\kvs.length < sizeLine/\(∀ v,gg kvs k=some v->Q v H)/\(gg kvs k=none->Q y (upd H d (.dK (putK kvs k y))))
theorem uY:qy X "dict.setdefault" zh:=by
 intro pins s σ H x vs v us Q I rx rv h
 obtain⟨d,kvs,k,y,rfl,rfl,hH,hz,q1,q2⟩:=h
 cases rx
 obtain⟨u,w',rfl,ru,J⟩:=rv.two
 obtain⟨z,hd,vs,rel,dd⟩:=wa I.hok hH
 refine call_meetsIn F.slot_dict_setdefault dd.typeIs F.entry_dict_setdefault (F.args_dict_setdefault_3 _ _ _) (kt_meets_setdefault (iC X.prog X.w) d (m7 ru) hd w')
  ⟨vs,dd,by rw [<-rel.length];exact z,fun v hv=>?_,fun hn h' U hs=>?_⟩
 ·have r:=rel.val k
  rw [hv] at r
  cases l:gg kvs k with
  | none=>rw [l] at r;exact(show False from r).elim
  | some v'=>
   rw [l] at r
   exact⟨v',H,I.tok _,r,q1 v' l⟩
 ·have l:gg kvs k=none:=by
   have r:=rel.val k
   rw [hn] at r
   cases l:gg kvs k with
   | none=>rfl
   | some v'=>rw [l] at r;exact(show False from r).elim
  have he:∃ q,h'.get? d=some q:=let ⟨q,_,_,hq,_⟩:=U;⟨q,hq⟩
  have hl:(putK kvs k y).length<=sizeLine:=by have:=qB kvs k y;omega
  exact⟨y,_,vO I (by rw [hH];exact True.intro) hs he (z9 hl hd (rel.put k J) U),J,q2 l⟩
def AA:V->List V->Hp->VK->Prop:=fun x vs H Q=>∃ d y z o,x= .ref d/\vs=[y,z]/\iF H d y o/\Q (o.getD z) H
theorem Cg(hu:X.A.units + 1 < cLine):qy X "dict.get" AA:=by
 intro pins s σ H x vs v us Q I U rv h
 obtain⟨d,y,z,o,rfl,rfl,g,q⟩:=h
 cases U
 obtain⟨u,w',rfl,ru,J⟩:=rv.two
 exact BU hu I g ru J fun w2 s3 I3 r3=>⟨_,H,I3,r3,q⟩
theorem xM{K:W.Frag}{H:Hp}{d:Addr}{kvs:List (Key×V)}(h:H d=some (.dK kvs)):rz K "dict" (.ref d) H:= .inr (.inr (.inl ⟨rfl,.inl ⟨kvs,h⟩⟩))
theorem yB:∀{vs:List Value} {ss:List Str},vs.length=ss.length->(∀(j:Nat) (v:Value),vs[j]? =some v->∃ x t,ss[j]? =some x/\v= .str x t)->StrsAre vs ss
 | [],[],_,_=> .nil
 | [],_::_,e,_=>by cases e
 | _::_,[],e,_=>by cases e
 | v::vs,x::ss,e,h=>by
  obtain⟨J,t,h1,rfl⟩:=h 0 v rfl
  cases h1
  exact .cons x t (yB (Nat.succ.inj e) fun j v I=>h (j + 1) v I)
theorem yh:∀{vs:List Value} {ss:List Str},StrsAre vs ss->Vals (ss.map V.str) vs
 | _,_,.nil=> .nil
 | _,_,.cons x t h=> .cons ⟨t,rfl⟩ (yh h)
theorem HA(hc:X.calm=true):jc X (.builtin "sorted") (fun xs H Q=>∃(d:Addr) (kvs:List (Key×V)) (ss:List Str),xs=[.ref d]/\Rd H d (.dK kvs)/\kvs.map (·.1)=ss.map Sum.inr/\ss.length < 64/\
  ∀(l:Addr) (ts:List Str),H l=none->ts.Perm ss->sortedS ts=true->Q (.ref l) (upd H l (.lst (ts.map V.str)))):=by
 intro pins s σ H xs us Q I r h
 obtain⟨d,kvs,ss,rfl,hq,hk,ah,q⟩:=h
 obtain⟨u,rfl,rx⟩:=vals1 r
 cases rx
 obtain⟨z,ae,vs,rel,dd⟩:=lS I.hok hq
 obtain⟨ep,ai⟩:=dd.dictAt
 have af:kvs.length=ss.length:=by
  have:=congrArg List.length hk
  rwa [List.length_map,List.length_map] at this
 refine Calls.call_function_entry kind_sorted plain_sorted entry_sorted (args_sorted1 _) ?_
 unfold Builtin.«sorted»
 refine wpAny_bind (m:=checkCount "sorted" 1 1 _) (wpAny_pure ?_)
 refine wpAny_bind (W.kdu_collect (A:=X.A.in1) (W.kdl_dict (knd:=iC X.prog X.w) (kvs:=vs) (ep:=ep) ae) (I.ok.hd hc) ai (by rw [<-rel.length];exact z) fun h' tk acc aa U=>?_)
 have hl:acc.toList.length=vs.length:=by rw [Array.length_toList];exact U.1
 have hS:StrsAre acc.toList ss:=by
  refine yB (by rw [hl,<-rel.length,af]) fun j v hj=>?_
  obtain⟨k,x,hx,ag⟩:=U.2 j v (by rw [<-Array.getElem?_toList];exact hj)
  have J:(kvs.map (·.1))[j]? =some k:=by rw [rel.keys,List.getElem?_map,hx];rfl
  rw [hk,List.getElem?_map] at J
  cases hs:ss[j]? with
  | none=>rw [hs] at J;cases J
  | some y=>
   rw [hs] at J
   have e:Sum.inr y=k:=Option.some.inj J
   subst e
   obtain⟨t,rfl⟩:=(wY ag:RelV (kV (Sum.inr y)) v)
   exact⟨y,t,rfl,rfl⟩
 have aj:acc.toList.length < 64:=by rw [hl,<-rel.length,af];exact ah
 have hsz:(sizeLine:Nat)=16777216:=sizeLine_eq
 refine wpAny_bind (wpAny_newList ?_ (by omega))
 have ab:(h'.push (seqObj "list" acc.toList.toArray 0)).get? h'.objs.size=some (seqObj "list" acc.toList.toArray 0):=Heap.get?_push_size _ rfl
 show wpAny _ _ _ _ _ {s with heap:=h'.push (seqObj "list" acc.toList.toArray 0),toks:=tk}
 refine wpAny_bind (wpAny_holding (wpAny_call_entry slot_list_sort ⟨_,ab,rfl⟩ entry_list_sort (list_sort_treeK strKind_oneLt ab hS.keysOf (fun ao aq rest e=>keyKind_strs (by rw [<-e];exact hS)) aj fun ak a1 a2=>⟨_,rfl,?_⟩) (args_list_sort _)))
 obtain⟨ts,b1,b2,b3⟩:=sorted_out_str hS a1 a2
 obtain⟨e,he⟩:=sortedHeap_at (out:=(arrOf ak).map (·.2)) ab
 have I1:Inv X pins σ H {s with heap:=h',toks:=tk}:=I.kept (t':=tk) aa
 refine wpAny_pure ⟨_,rfl,.ref h'.objs.size,_,I1.laid (t':=tk) (fun b o hb=>?_) (Nat.le_refl _) (show gI X.prog X.w _ _ _ (.lst (ts.map V.str)) from⟨by rw [List.length_map,b2.length_eq];omega,_,e,yh b1,by rw [he]⟩),rfl,q _ ts (I1.hok.fresh (Nat.le_refl _)) b2 b3⟩
 rw [sortedHeap_old (Nat.ne_of_lt (Heap.lt_size hb)) (by rw [size_push'];exact Nat.lt_succ_of_lt (Heap.lt_size hb))]
 exact Heap.get?_push_of_some _ hb
end
section
variable {X : Cx} {o e : Expr} {es : List Expr} {to : TE} {t : TA} {name : Str} {apos cpos : Pos} {T id : String} {r : V -> List V -> Hp -> VK -> Prop}
theorem xw{K:W.Frag}(hK:X.K=K)(pa:PlainAttrs T)(slot:Slot T name id)(hty:typeOf (.builtin id)=pure (.type "method_descriptor"))(hm:j5 X id r)(ho:PE X o to)(ha:PA X (e::es) t)
  (hbase:attributeBase o name X.env (eval o X.env)=eval o X.env:=by rfl)
  (hfew:((backTo cpos (starEach (e::es) X.env)).all (fun x=> !x.1) && (backToKw cpos (keywordEach [] X.env)).all (fun x=>x.1.isSome)
   && decide ((e::es).length + ([]:List Keyword).length + (if ([]:List Keyword).isEmpty then 0 else 1) < 30))=true:=by rfl)
  (hline:(apos.endLine == cpos.line)=true:=by rfl)(hs:starEach (e::es) X.env=(false,eval e X.env)::starEach es X.env:=by rfl)(hplain:(backTo cpos (starEach es X.env)).any (·.1)=false:=by rfl):
  PE X (.Call (.Attribute o name apos) (e::es) [] cpos) (vQ K T r to t):=by
 subst hK
 exact gQ pa slot hty hm ho ha hbase hfew hline hs hplain
end
end L2
namespace Gn
open PySem L2 PyProof.Rows PySem.Spec
end Gn
namespace L2
open PySem PySem.Spec PyProof.Rows
section
variable {X : Cx}
def Ht(K:W.Frag)(CH:Addr)(E:St->XK)(tb ts:TS):TS:=fun D σ H=>tb D σ H/\∀ I cls H',E I cls none H'->
 ∃ C,cls= .ref C/\W.exmOne K (.ref C) (.ref CH)=some true/\ts D I H'
theorem Iw{pins:List (Addr×Obj)}{D:Ends}{CH:Addr}{E:St->XK}{x:Str}{np pos:Pos}{b₀:Stmt}{suite:List Stmt}{ts:TS}
  (hstk:X.stack=X.env::X.outer)(hfr:X.env.frame=some X.env.locals)(hg:Gl X x)(hm:X.mg x=some (.ref CH))
  (hs:∀ ea p,fM (kF X ea p) (b₀::suite) ts)
  (hc:∀ σ' cls H',E σ' cls none H'->∃ C,cls= .ref C/\W.exmOne X.K (.ref C) (.ref CH)=some true/\ts D σ' H')
  (hdb:(x == ("__debug__":Str))=false:=by decide):
  my (fQ X.prog X.w) (X.tr (X.pn++pins) fun e s₁=>wpAny (model X.prog X.w) X.A (noteFrame e X.env) (fun _ s₂=>wpAny (model X.prog X.w) X.A (setFlight e none) (fun _ s₃=>
   wpAny (model X.prog X.w) X.A (handleBy e X.env [.ExceptHandler (some (.Name x np)) none (b₀::suite) pos]) (SP X pins D) X.xe s₃) X.xe s₂) X.xe s₁) E:=by
 intro aa σ' H1 s1 e s' U hx
 obtain⟨ea,cls,a0,B,H',rfl,os,bare,un,hok,fl,k1,k3,k2,hE⟩:=hx
 have ar:Heap.FlyingW B (X.env::X.outer) ea cls a0 s'.heap:=hstk ▸ fl
 have ae:X.A.frames=some (X.env::X.outer):=hstk ▸ U.ok.frames
 have au:ea∉gz X.stack:=fun z=>by
  obtain⟨_,o,ho,nf⟩:=fl.2.2.1.mem z
  obtain⟨oe,vs,_,_,_,he,_,hd,_⟩:=fl.2.2.2
  rw [he] at ho;cases ho
  exact nf vs hd
 have nE:∀{b:Addr} {o:Obj},s1.heap.get? b=some o->b≠ea:=fun{b o} q z=>by
  subst z
  obtain⟨o',e'⟩:=k3 b o q au
  rw [fl.2.1] at e';cases e'
 have nH:H' ea=none:=by
  cases q:H' ea with
  | none=>rfl
  | some u=>
   obtain⟨o,e'⟩:=k2 ea u q
   rw [fl.2.1] at e';cases e'
 have go:∀{h2:Heap},Heap.FlyingW B (X.env::X.outer) ea cls a0 h2->s'.heap.UpToSlots h2->Inv (X.tr (X.pn++pins) fun e s₁=>wpAny (model X.prog X.w) X.A (noteFrame e X.env) (fun _ s₂=>wpAny (model X.prog X.w) X.A (setFlight e none) (fun _ s₃=>
   wpAny (model X.prog X.w) X.A (handleBy e X.env [.ExceptHandler (some (.Name x np)) none (b₀::suite) pos]) (SP X pins D) X.xe s₃) X.xe s₂) X.xe s₁) aa σ' H' {s' with heap:=h2}:=fun{h2} af up=>
  U.call' (s':={s' with heap:=h2}) (ch:=[]) os (sP rfl un k1 k3 fl.2.2.1 af.1 up) (sf hok k2 fl.1 af.1) bare fun b z=>absurd z (by simp)
 have ag:∀{s2:Shared} {H2:Hp},Inv (X.tr (X.pn++pins) fun e s₁=>wpAny (model X.prog X.w) X.A (noteFrame e X.env) (fun _ s₂=>wpAny (model X.prog X.w) X.A (setFlight e none) (fun _ s₃=>
   wpAny (model X.prog X.w) X.A (handleBy e X.env [.ExceptHandler (some (.Name x np)) none (b₀::suite) pos]) (SP X pins D) X.xe s₃) X.xe s₂) X.xe s₁) aa σ' H2 s2->Inv (kF X ea (X.pn++pins)) [] σ' H2 s2:=fun I=>
  ⟨⟨I.ok.mod,I.ok.kind,I.ok.glob,I.ok.blt,I.ok.above,I.ok.inj,I.ok.has,I.ok.cab,(fun z=>by cases z),I.ok.frames,I.ok.stk,I.ok.exf,I.ok.bs,I.ok.bsz,I.ok.noex,I.ok.exfs,I.ok.funs,I.ok.frf⟩,
   I.os,I.bare,I.base,I.loc,I.cell,I.free,I.freeC,fun p hp=>I.pin p (List.mem_append_left _ (by have ah:p∈(X.pn++pins)++[]:=hp;rw [List.append_nil] at ah;exact ah)),I.hok,I.len⟩
 refine wpAny_looks_onW ae hfr ar fun h4 held ai=>?_
 refine wpAny_landsW held fun h5 ab aj=>?_
 obtain⟨C,rfl,ak,av⟩:=hc σ' cls H' hE
 have I5:=ag (go ab (ai.trans aj))
 refine wpAny_handleBy_cons (codeAny_handlers_test ?_) (by intro q;cases q)
 refine lM I5 hg hm ?_ hdb
 obtain⟨ob,aw,ao⟩:=ab.there
 have LT:W.Looks (model X.prog X.w) h5 (typeOf (.ref ea)) (.ref C):=by
  rw [<-ao]
  exact(W.Looks.ld aw).andThen .now
 refine W.exm_one I5.kIn LT ak _ _ _ _ (fun _ _ q=>q) ?_
 refine codeAny_handlers_suite (lands_againW ab fun h6 ax ay=>?_)
 have I6:=ag (go ax ((ai.trans aj).trans ay))
 refine wpAny_mono (hs ea (X.pn++pins) [] _ _ _ _ I6 av) (fun aq s9 h9=>?_) fun _ _ z=>False.elim z
 have back:∀{J:St} {H2:Hp},Inv (kF X ea (X.pn++pins)) [] J H2 s9->Inv X pins J H2 s9:=fun I=>
  ⟨⟨U.ok.mod,U.ok.kind,U.ok.glob,U.ok.blt,U.ok.above,U.ok.inj,U.ok.has,U.ok.cab,U.ok.hd,U.ok.frames,U.ok.stk,U.ok.exf,U.ok.bs,U.ok.bsz,U.ok.noex,U.ok.exfs,U.ok.funs,U.ok.frf⟩,
   I.os,I.bare,I.base,I.loc,I.cell,I.free,I.freeC,fun p hp=>I.pin p (List.mem_append_left _ hp),I.hok,I.len⟩
 show SP X pins D aq s9
 cases aq with
 | next=>obtain⟨J,H2,I9,q9⟩:=h9;exact⟨J,H2,back I9,q9⟩
 | brk=>obtain⟨J,H2,I9,q9⟩:=h9;exact⟨J,H2,back I9,q9⟩
 | cont=>obtain⟨J,H2,I9,q9⟩:=h9;exact⟨J,H2,back I9,q9⟩
 | ret u=>obtain⟨v,J,H2,I9,rv,q9⟩:=h9;exact⟨v,J,H2,back I9,rv,q9⟩
theorem EO{CH:Addr}(E:St->XK){x:Str}{np hpos pos:Pos}{b₀:Stmt}{suite body:List Stmt}{tb ts:TS}
  (hstk:X.stack=X.env::X.outer)(hfr:X.env.frame=some X.env.locals)(hg:Gl X x)(hm:X.mg x=some (.ref CH))
  (hb:∀ p xe,my (fQ X.prog X.w) (X.tr p xe) E->fM (X.tr p xe) body tb)(hs:∀ ea p,fM (kF X ea p) (b₀::suite) ts)
  (hdb:(x == ("__debug__":Str))=false:=by decide):PS X (.Try body [.ExceptHandler (some (.Name x np)) none (b₀::suite) hpos] [] [] pos) (Ht X.K CH E tb ts):=by
 intro pins s σ H D I h
 obtain⟨h1,h2⟩:=h
 refine wpAny_Try_except ?_
 have I':Inv (X.tr (X.pn++pins) fun e aa=>wpAny (model X.prog X.w) X.A (noteFrame e X.env) (fun _ ab=>wpAny (model X.prog X.w) X.A (setFlight e none) (fun _ ae=>
   wpAny (model X.prog X.w) X.A (handleBy e X.env [.ExceptHandler (some (.Name x np)) none (b₀::suite) hpos]) (SP X pins D) X.xe ae) X.xe ab) X.xe aa) [] σ H s:=
  ⟨⟨I.ok.mod,I.ok.kind,I.ok.glob,I.ok.blt,I.ok.above,I.ok.inj,I.ok.has,I.ok.cab,I.ok.hd,I.ok.frames,I.ok.stk,I.ok.exf,I.ok.bs,I.ok.bsz,I.ok.noex,I.ok.exfs,I.ok.funs,I.ok.frf⟩,
   I.os,I.bare,I.base,I.loc,I.cell,I.free,I.freeC,fun p hp=>I.pin p (by simpa using hp),I.hok,I.len⟩
 have back:∀{U:St} {H2:Hp} {s2:Shared},Inv (X.tr (X.pn++pins) fun e aa=>wpAny (model X.prog X.w) X.A (noteFrame e X.env) (fun _ ab=>wpAny (model X.prog X.w) X.A (setFlight e none) (fun _ ae=>
   wpAny (model X.prog X.w) X.A (handleBy e X.env [.ExceptHandler (some (.Name x np)) none (b₀::suite) hpos]) (SP X pins D) X.xe ae) X.xe ab) X.xe aa) [] U H2 s2->Inv X pins U H2 s2:=fun J=>
  ⟨I.ok,J.os,J.bare,J.base,J.loc,J.cell,J.free,J.freeC,fun p hp=>J.pin p (List.mem_append_left _ hp),J.hok,J.len⟩
 refine wpAny_mono (hb _ _ (Iw hstk hfr hg hm hs h2 hdb) [] s σ H D I' h1) (fun f s1 q=>?_) fun e s1 q=>q
 cases f with
 | next=>
  obtain⟨U,H2,J,q⟩:=q
  exact wpAny_execs_nil ⟨U,H2,back J,q⟩
 | brk=>obtain⟨U,H2,J,q⟩:=q;exact⟨U,H2,back J,q⟩
 | cont=>obtain⟨U,H2,J,q⟩:=q;exact⟨U,H2,back J,q⟩
 | ret u=>obtain⟨v,U,H2,J,r,q⟩:=q;exact⟨v,U,H2,back J,r,q⟩
end
end L2
namespace Gn
open PySem L2 PyProof.Rows PySem.Spec
section
variable {P : Program} {w : World} {K : PySem.W.Frag} {mg : Str -> Option Value} {base h : Heap}
def oP:V->Bool
 | .str _=>true
 | _=>false
def qX:V->Bool
 | .int _=>true
 | .bl _=>true
 | _=>false
def vj:V->Bool
 | .bl _=>true
 | _=>false
def Known(K:W.Frag)(H:Hp)(x:V):Prop:=∃ n,ir K H x (.type n)
theorem Aj{K:W.Frag}{H:Hp}{x:V}{n:String}(h:ir K H x (.type n)):W.kitOne K (.type n) (.type "str")=some (oP x):=by
 cases h<;>kernel_rfl
theorem B1{K:W.Frag}{H:Hp}{x:V}{n:String}(h:ir K H x (.type n)):W.kitOne K (.type n) (.type "int")=some (qX x):=by
 cases h<;>kernel_rfl
theorem ye{K:W.Frag}{H:Hp}{x:V}{n:String}(h:ir K H x (.type n)):W.kitOne K (.type n) (.type "bool")=some (vj x):=by
 cases h<;>kernel_rfl
theorem Known.same {K:W.Frag}{H H':Hp}{x:V}(h:Known K H x)(e:eZ H H'):Known K H' x:=by
 obtain⟨n,h⟩:=h
 cases h with
 | non=>exact⟨_,.non⟩
 | bl b=>exact⟨_,.bl b⟩
 | int i=>exact⟨_,.int i⟩
 | str z=>exact⟨_,.str z⟩
 | flt z=>exact⟨_,.flt z⟩
 | lst q=>exact⟨_,.lst (e _ _ q)⟩
 | frz q=>exact⟨_,.frz (e _ _ q)⟩
 | tup q=>exact⟨_,.tup (e _ _ q)⟩
 | dK q=>exact⟨_,.dK (e _ _ q)⟩
 | dT q=>exact⟨_,.dT (e _ _ q)⟩
theorem fC{H:Hp}{a:Addr}{o:HO}(h:H a=none):eZ H (upd H a o):=fun b u e=>by rw [fB (fW e h)];exact e
theorem eZ.upd {H H':Hp}{a:Addr}{o:HO}(s:eZ H H')(h:H' a=none):eZ H (upd H' a o):=s.trans (fC h)
structure Df (K : W.Frag) (mg : Str -> Option Value) (x : Str) (st : Stmt) (f : Addr) (fd : FuncData) : Prop where
 F : fV K x x st f fd
 m : mg x = some (.ref f)
theorem i9:bootBuiltins "isinstance"=some (.builtin "isinstance"):=dk
theorem zc:bootBuiltins "int"=some (.type "int"):=dk
theorem zR:bootBuiltins "bool"=some (.type "bool"):=dk
theorem xn:bootBuiltins "str"=some (.type "str"):=dk
theorem kZ:bootBuiltins "list"=some (.type "list"):=dk
theorem px:bootBuiltins "tuple"=some (.type "tuple"):=dk
theorem g9:bootBuiltins "len"=some (.builtin "len"):=dk
theorem vD:bootBuiltins "all"=some (.builtin "all"):=dk
theorem Fx:bootBuiltins "ValueError"=some (.type "ValueError"):=dk
theorem gu{x p:Str}{st:Stmt}{f:Addr}{fd:FuncData}(F:fV K x x st f fd)
  (h:∀(kV doc pm:Value) (an:Option Addr) (cdv ct:Value) (u:Value),bindArgs (W.fnOf x x (gX st) (gH st) (fD st) .none kV doc pm an cdv ct) ⟨[u],[]⟩=pure ([p].zip [u])):Binds K fd [p] []:=
 F.binds fun kV doc pm an cdv ct us I=>match us,I with | [u],_=>h kV doc pm an cdv ct u
theorem g1{i:Nat}{v:V}{σ:L2.St}{H:Hp}{te:TE}{M:V->Hp->Prop}{N0:Hp->Prop}(h:te (σ.set i (some v)) H M):jC i v σ H fun σ2 H2=>q5 σ2 H2 fun b H3=>if b=true then te σ2 H3 M else N0 H3:=by
 show if true=true then te (σ.set i (some v)) H M else N0 H
 exact fY h
structure Ex (K : W.Frag) (mg : Str -> Option Value) (x : Str) (C : Addr) : Prop where
 m : mg x = some (.ref C)
 q : W.excIn K C [.type "ValueError", .type "Exception", .type "BaseException", .type "object"] "ValueError.__new__" = true
structure iR (K : W.Frag) (mg : Str -> Option Value) (x : Str) (st : Stmt) (f : Addr) (fd : FuncData) (items : Array Value) : Prop where
 ex : ∃ (oc : Value) (od : Option Addr) (kV doc pm : Value) (an : Option Addr) (cdv ct : Value) (osl : Array (Option Value)) (T : Addr) (o : Obj) (n : Nat),
  fd = W.fnOf x x (gX st) (gH st) (fD st) (.ref T) kV doc pm an cdv ct /\ K.lookup f = some ⟨oc, od, .func fd, osl⟩ /\ W.codeIn K cdv x = true /\ K.lookup T = some o /\ o.data = .seq items n
 kp : W.keepIn K (.ref f) = true
 m : mg x = some (.ref f)
theorem iR.ok1 {x:Str}{st:Stmt}{f:Addr}{fd:FuncData}{items:Array Value}{N ps:List Str}{k:Nat}{sp:Sp}(F:iR K mg x st f fd items)(S:fU N ps (fD st))(len:∀ vs H Q E,sp vs H Q E->vs.length=ps.length)
  (hbody:∀(cdv:Value) (A:Around) (outer:List Env) (s:Shared) (H:Hp) (vs:List V) (Q:VK) (E:XK),gE k (A.deeper (envOfC x (fD st) s.heap.objs.size f cdv))->sp vs H Q E->
   ∃ t,fM (ib (fQ P w) P w K mg base N x (fD st) f cdv A outer s H E) (gH st) t/\t {nx:=fun _ H'=>Q .non H',rt:=Q} (L2.start N vs) H):fx P w K mg base (fQ P w) (k + 1) f fd ps sp:=by
 obtain⟨oc,od,kV,doc,pm,an,cdv,ct,U,T,o,n,rfl,lk,I,_⟩:=F.ex
 exact rF lk I S len fun A outer s H vs Q E hr J=>hbody cdv A outer s H vs Q E hr J
theorem iR.binds {x:Str}{st:Stmt}{f:Addr}{fd:FuncData}{items:Array Value}{ps:List Str}{ds:List Value}(F:iR K mg x st f fd items)
  (h:∀(T:Addr) (kV doc pm:Value) (an:Option Addr) (cdv ct:Value) (us:List Value),(us++ds).length=ps.length->∃ k:Option (Array Value)->Sem (List (Str×Value)),
   bindArgs (W.fnOf x x (gX st) (gH st) (fD st) (.ref T) kV doc pm an cdv ct) ⟨us,[]⟩=seqItems? (.ref T) >>= k/\k (some items)=pure (ps.zip (us++ds))):Binds K fd ps ds:=by
 obtain⟨oc,od,kV,doc,pm,an,cdv,ct,I,T,o,n,rfl,lk,J,U,hd⟩:=F.ex
 intro s us X hl
 obtain⟨k,h1,h2⟩:=h T kV doc pm an cdv ct us hl
 exact BindsTo.of_defaults (T:=T) rfl (X _ _ U) hd h1 h2
def jd(x:V)(least:Int)(most:Option Int):Bool:=match x with
 | .int i=>decide (least<=i) && (match most with | none=>true | some m=>decide (i<=m))
 | _=>false
def EZ:Option Int->V
 | none=> .non
 | some m=> .int m
def uR(K:W.Frag)(C:Addr):Sp:=fun vs H Q E=>∃(x:V) (l:Int) (m:Option Int),vs=[x,.int l,EZ m]/\Known K H x/\(jd x l m=true->Q x H)/\(jd x l m=false->E (.ref C) none H)
theorem xy{K:W.Frag}{H:Hp}:∀(ns:List Int),i8 K H (ns.map V.int) (ns.map PyData.int)
 | []=> .nil
 | n::ns=> .cons (.int n) (xy ns)
theorem lay_ints:∀(ns:List Int),(PyData.list (ns.map PyData.int)).canLay0=true:=by
 intro ns
 induction ns with
 | nil=>rfl
 | cons n ns I=>exact I
theorem Paired.imp2 {α β:Type}{F G:α->β->Prop}:∀{l:List α} {m:List β},Paired F l m->(∀ a b,F a b->G a b)->Paired G l m
 | _,_,.nil,_=> .nil
 | _,_,.cons r t,f=> .cons (f _ _ r) (Paired.imp2 t f)
theorem Paired.app {α β:Type}{F:α->β->Prop}{a:α}{b:β}:∀{l:List α} {m:List β},Paired F l m->F a b->Paired F (l++[a]) (m++[b])
 | _,_,.nil,h=> .cons h .nil
 | _,_,.cons r t,h=> .cons r (Paired.app t h)
theorem Paired.len {α β:Type}{F:α->β->Prop}:∀{l:List α} {m:List β},Paired F l m->l.length=m.length
 | _,_,.nil=>rfl
 | _,_,.cons _ t=>by simp [Paired.len t]
theorem Hr{H0 H:Hp}{a t:Addr}{o o':HO}(s:eZ H0 H)(ha:H0 a=none)(ht:H t=none):eZ H0 (upd (upd H t o) a o'):=fun b u e=>by
 rw [fB (fW e ha),fB (fW (s b u e) ht)]
 exact s b u e
theorem PS.nox {X:Cx}{st:Stmt}{t:TS}(h:PS X.nox st t):PS X st t:=fun pins s σ H D I hw=>
 wpAny_mono (h pins s σ H D (I.wish _) hw) (fun _ _ q=>q.unwish) fun _ _ z=>False.elim z
theorem sW{te:TE}{σ2:L2.St}{H2:Hp}{M:VK}{N0:Hp->Prop}(h:te σ2 H2 M):q5 σ2 H2 (fun b H3=>if b=true then te σ2 H3 M else N0 H3):=by
 show if true=true then te σ2 H2 M else N0 H2
 exact fY h
theorem gW{α β:Type}{F:α->β->Prop}:∀{l:List α} {m:List β},Paired F l m->∀{i:Nat} {a:α},l[i]? =some a->∃ b,m[i]? =some b/\F a b
 | _,_,.nil,i,a,h=>by simp at h
 | _,_,.cons r t,0,a,h=>by simp at h;subst h;exact⟨_,rfl,r⟩
 | _,_,.cons r t,i + 1,a,h=>by
  obtain⟨b,h1,h2⟩:=gW t (i:=i) (a:=a) (by simpa using h)
  exact⟨b,by simpa using h1,h2⟩
theorem jo{r n:Int}(hn:0 < n):∃ j:Nat,(j:Int)=r % n/\(j:Int) < n:=by
 have h1:=Int.emod_nonneg r (show n≠0 by omega)
 have h2:=Int.emod_lt_of_pos r hn
 exact⟨(r % n).toNat,by omega,by omega⟩
def B4(c:TT)(t u:TS):TS:=fun D σ H=>∃ J:L2.St->Hp->Prop,(c σ H fun b H1=>if b=true then t {D with nx:=J} σ H1 else u {D with nx:=J} σ H1)/\∀ I H',J I H'->D.nx I H'
theorem qa{X:Cx}{c:Expr}{a b:List Stmt}{tc:TT}{t u:TS}{pos:Pos}(hc:PT X c tc)(ha:fM X a t)(hb:fM X b u):PS X (.If c a b pos) (B4 tc t u):=by
 intro pins s σ H D I h
 obtain⟨J,h1,h2⟩:=h
 refine fK (gj hc ha hb pins s σ H {D with nx:=J} I h1) fun f s1 q=>?_
 cases f with
 | next=>obtain⟨U,H',I',q⟩:=q;exact⟨U,H',I',h2 _ _ q⟩
 | brk=>exact q
 | cont=>exact q
 | ret u=>exact q
theorem Hk{xs:List V}{n L:Int}(h0:0 < xs.length)(hL:L=(xs.length:Nat)):∃ v∈xs,jv xs (n % L)=some v:=by
 obtain⟨j,J,U⟩:=jo (r:=n) (n:=L) (by omega)
 have I:j < xs.length:=by omega
 refine⟨xs[j],List.getElem_mem I,?_⟩
 rw [<-J]
 exact gR (List.getElem?_eq_getElem I)
theorem A8{a b:Int}(h:a=b):decide (V.int a=V.int b)=true:=by subst h;exact decide_eq_true rfl
theorem xR{a b:Int}(h:a≠b):decide (V.int a=V.int b)=false:=decide_eq_false fun z=>h (by injection z)
theorem PE.imp {X:Cx}{e:Expr}{t t':TE}(h:PE X e t)(i:∀ σ H Q,t' σ H Q->t σ H Q):PE X e t':=fun pins s σ H Q I q=>h pins s σ H Q I (i σ H Q q)
theorem rE{d:PyData}(h:d.canLay0=true):PyData.eqv d d=true:=SeqAt.eqv_refl d h
def D6(K:W.Frag):List V->Hp->VK->Prop:=fun xs H Q=>∃ x c t b,xs=[x,c]/\ir K H x t/\
  ((∃ n,c= .ty n/\W.kitOne K t (.type n)=some b)\/(∃ C,c= .ref C/\W.kitOne K t (.ref C)=some b))/\Q (.bl b) H
theorem u9{X:Cx}{K:W.Frag}(h:X.K=K):jc X (.builtin "isinstance") (D6 K):=by subst h;exact kx
theorem zm{X:Cx}{K:W.Frag}(h:X.K=K):qp X (xN K):=by subst h;exact kR
theorem rZ{K:W.Frag}:W.kitOne K (.type "tuple") (.type "tuple")=some true:=by kernel_rfl
theorem qW{K:W.Frag}:W.kitOne K (.type "list") (.type "list")=some true:=by kernel_rfl
theorem ja{P:Program}{w:World}{X:Cx}:Passes (fQ P w) X E0:=fun _ _ _ _ _ _ _ h=>(fQ.no h).elim
theorem gr{x:Str}{st:Stmt}{f:Addr}{oc kV doc pm cd ct:Value}{od an:Option Addr}{sl:Array (Option Value)}(X:K.In h)(G:h.Ns mainGlobals mg)(a:W.nsIn K mainGlobals x=some (some (.ref f)))
  (l:K.lookup f=some ⟨oc,od,.func (W.fnOf x x (gX st) (gH st) (fD st) .none kV doc pm an cd ct),sl⟩)(c:W.codeIn K cd x=true)(k:W.keepIn K (.ref f)=true):∃ f fd,Df K mg x st f fd:=
 ⟨f,_,iX l c k,W.mg_of X G a⟩
theorem wF{x:Str}{st:Stmt}{f T:Addr}{oc kV doc pm cd ct tc:Value}{od an td:Option Addr}{sl tsl:Array (Option Value)}{items:Array Value}{tn:Nat}(X:K.In h)(G:h.Ns mainGlobals mg)(a:W.nsIn K mainGlobals x=some (some (.ref f)))
  (l:K.lookup f=some ⟨oc,od,.func (W.fnOf x x (gX st) (gH st) (fD st) (.ref T) kV doc pm an cd ct),sl⟩)(c:W.codeIn K cd x=true)(k:W.keepIn K (.ref f)=true)
  (t:K.lookup T=some ⟨tc,td,.seq items tn,tsl⟩):∃ f fd,iR K mg x st f fd items:=
 ⟨f,_,⟨oc,od,kV,doc,pm,an,cd,ct,sl,T,_,tn,rfl,l,c,t,rfl⟩,k,W.mg_of X G a⟩
end
open PySem PySem.W PySem.Calls PyProof.Rows
theorem wN:∀(ns:List Int) (m:Nat),WData.weightAll (ns.map WData.int)<=m->∀ n∈ns,Builtin.Int.intBits n<=m
 | [],_,_,_,h=>nomatch h
 | i::ns,m,hw,n,h=>by
  have I:Builtin.Int.intBits i + 1 + WData.weightAll (ns.map WData.int)<=m:=hw
  rcases List.mem_cons.mp h with rfl | h
  ·omega
  ·exact wN ns m (by omega) n h
theorem IV{ns:List Int}(h:WData.layableAll [WData.list (ns.map WData.int)]=true):∀ n∈ns,Builtin.Int.intBits n<=2 ^ 20:=by
 have h1:(WData.layable (WData.list (ns.map WData.int)) && true)=true:=h
 rw [Bool.and_true] at h1
 have h2:=(Bool.and_eq_true_iff.mp h1).2
 exact wN ns _ (of_decide_eq_true h2)
theorem Cu{l:OpenLaw}{n:Nat}{q:Program}{loose:List Str}{XP:(Str->Option Value)->Heap->Prop}{YP:World->Heap->Prop}{d:DefRec}
  (hn:l.most=some n)(hdf:d.params.defaults=[])
  (call:∀(w:World) (s₀ s₁:Shared) (mg mb:Str->Option Value) (fa:Addr) (a:Addr) (vs:List Value) (ns:List Int),
   Ground q loose [] XP w s₀ mg mb s₁.heap->YP w s₁.heap->mg d.name=some (.ref fa)->
   s₁.heap.get? a=some {cls:= .type "list",data:= .seq vs.toArray}->IntsAre vs ns->ns.length<=n->(∀ i∈ns,Builtin.Int.intBits i<=2 ^ 20)->s₁.gens=#[]->
   codeAny (model l.prog w) callerA (.call (.ref fa) ⟨[.ref a],[]⟩) (fun r s'=>r= .ok (.ret (.bool true))/\OldK s₁.heap s'.heap/\s'.os=s₁.os/\AllBare s'.gens) s₁):
  WalkO q loose XP YP l.row.toRowW d [] (fun f vs=>PySem.call f vs):=by
 intro w s₀ s₁ mg mb G Y fa o pm cd doc dV kV ho hd ae hD aa hg args vals as I J af ab ag
 obtain rfl:dV= .none:=Dflts.none hD hdf
 obtain rfl:kV= .none:=Dflts.noKw hD
 obtain⟨a,vs,ns,rfl,rfl,U,hints,hlen⟩:=Att.CO hn I ab
 refine enter_call (codeAny_mono (call w s₀ s₁ mg mb fa a vs ns G Y aa U hints hlen (IV J) hg) fun r s' hq=>?_)
 obtain⟨rfl,h2,h3,h4⟩:=hq
 exact⟨.inl ⟨.bool true,.bool true,[],rfl,fun _=>rfl,.bool true,Att.Ck l _,fun _=>⟨List.Pairwise.nil,fun _ hm=>(nomatch hm)⟩⟩,h2,h3,h4⟩
theorem GZ{l:W.OpenLaw}{n k:Nat}{q:Program}{loose:List Str}{XP:(Str->Option Value)->Heap->Prop}{YP:World->Heap->Prop}{d:DefRec}{K:Params->W.Frag}{sp:W.Frag->Sp}{x:Str}
  (hn:l.most=some n)(hn2:n<=sizeLine)(hdf:d.params.defaults=[])(hr:gE k callerA)
  (hY:∀(w:World) (h:Heap),YP w h->(K w.params).In h)
  (F:∀(w:World) (mg:Str->Option Value) (fa:Addr) (h:Heap),(K w.params).In h->h.Ns mainGlobals mg->mg d.name=some (.ref fa)->
   ∃ fd:FuncData,(∀(s:Shared) (u:Value),BindsTo s fd ⟨[u],[]⟩ [(x,u)])/\
    ∀ base:Heap,(K w.params).In base->base.Ns mainGlobals mg->fx l.prog w (K w.params) mg base fE k fa fd [x] (sp (K w.params)))
  (hsp:∀(K:W.Frag) (H:Hp) (a:Addr) (ns:List Int),ns.length<=n->(∀ i∈ns,Builtin.Int.intBits i<=2 ^ 20)->fj K H a (ns.map V.int)->sp K [.ref a] H (fun v _=>v= .bl true) fun _ _ _=>False):
  W.WalkO q loose XP YP l.row.toRowW d [] (fun f vs=>PySem.call f vs):=by
 refine Cu hn hdf fun w s₀ aa mg mb fa a vs ns G Y U J hints hlen I hg=>?_
 have KX:=hY w _ Y
 obtain⟨fd,hb,hF⟩:=F w mg fa _ KX G.T.g U
 exact C8 KX G.T.g G.T.b G.T.builtins G.T.nolimit hg J hints (Nat.le_trans hlen hn2) hr hF hb (fun H hO hS=>hsp _ H a ns hlen I hS) fun H e s' z=>z
section
variable {X : Cx}
end
def Ew(K:W.Frag):List V->Hp->VK->Prop:=fun xs H Q=>∃ I D c b,xs=[.ref I,c]/\H I=some (kY I D)/\W.ExcCls K D/\
  ((∃ n,c= .ty n/\W.kitOne K (.ref D) (.type n)=some b)\/(∃ C,c= .ref C/\W.kitOne K (.ref D) (.ref C)=some b)\/
   (∃(p:Addr) (J:List Addr),c= .ref p/\H p=some (.tup (J.map V.ref))/\W.kitAny K (.ref D) (J.map Value.ref)=some b))/\Q (.bl b) H
theorem pK{X:Cx}{K:W.Frag}(h:X.K=K):jc X (.builtin "isinstance") (Ew K):=by subst h;exact Du
def dN(ns:List Nat):List PyData:=ns.map fun(n:Nat)=>PyData.int (n:Int)
theorem p6{K:W.Frag}{H:Hp}:∀(ns:List Nat),i8 K H (ns.map fun(n:Nat)=>V.int (n:Int)) (dN ns)
 | []=> .nil
 | n::ns=> .cons (.int n) (p6 ns)
theorem yM:∀(ns:List Nat),(PyData.list (dN ns)).canLay0=true
 | []=>rfl
 | n::ns=>yM ns
theorem wQ:∀ ns:List Nat,(PyData.list (dN ns)).depth<=2
 | []=>by decide
 | s::ss=>by
  show max 0 (PyData.depthAll (dN ss)) + 1<=2
  have I:PyData.depthAll (dN ss) + 1<=2:=wQ ss
  omega
theorem oI(xs:List V)(k:Nat):jb xs none (some (k:Int))=xs.take k:=by
 unfold jb
 rw [HT.rN,HT.tX,List.drop_zero,Nat.sub_zero]
 by_cases h:k<=xs.length
 ·rw [Nat.min_eq_left h]
 ·rw [Nat.min_eq_right (by omega),List.take_of_length_le (Nat.le_refl _),List.take_of_length_le (by omega)]
theorem rj(xs:List V)(k:Nat):jb xs (some (k:Int)) none=xs.drop k:=by
 unfold jb
 rw [HT.rN,HT.tX]
 by_cases h:k<=xs.length
 ·rw [Nat.min_eq_left h,List.take_of_length_le (by rw [List.length_drop];omega)]
 ·rw [Nat.min_eq_right (by omega),List.drop_of_length_le (Nat.le_refl _),List.drop_of_length_le (by omega)]
  exact List.take_nil
theorem Paired.cat {α β:Type}{F:α->β->Prop}:∀{l:List α} {m:List β} {l':List α} {m':List β},Paired F l m->Paired F l' m'->Paired F (l++l') (m++m')
 | _,_,_,_,.nil,h=>h
 | _,_,_,_,.cons r t,h=> .cons r (Paired.cat t h)
theorem Paired.at {α β:Type}{F:α->β->Prop}:∀{l:List α} {m:List β},Paired F l m->∀{i:Nat} {b:β},m[i]? =some b->∃ a,l[i]? =some a/\F a b
 | _,_,.nil,i,b,h=>by cases i<;>cases h
 | _,_,.cons r t,0,b,h=>by
  have e:=Option.some.inj h
  subst e
  exact⟨_,rfl,r⟩
 | _,_,.cons r t,i + 1,b,h=>Paired.at t h
end Gn
namespace K04
def iM(n:Nat):List Nat:=if h:n < 128 then [n] else (128 + n % 128)::iM (n / 128)
termination_by n
decreasing_by omega
def pk(ns:List Nat):List Nat:=ns.flatMap iM
theorem mV{n:Nat}(h:n < 128):iM n=[n]:=by rw [iM,dif_pos h]
theorem oi{n:Nat}(h:¬ n < 128):iM n=(128 + n % 128)::iM (n / 128):=by rw [iM,dif_neg h]
theorem y8:∀(k n:Nat),n < 128 ^ (k + 1)->(iM n).length<=k + 1
 | 0,n,h=>by rw [mV (by simpa using h)];exact Nat.le_refl _
 | k + 1,n,h=>by
  by_cases h1:n < 128
  ·rw [mV h1];simp
  ·rw [oi h1,List.length_cons]
   have:=y8 k (n / 128) (by rw [Nat.div_lt_iff_lt_mul (by decide)];rw [Nat.pow_succ] at h;exact h)
   omega
theorem x8(a b:List Nat):pk (a++b)=pk a++pk b:=by simp [pk]
theorem HG(n:Nat):pk [n]=iM n:=by simp [pk]
theorem IG:∀(n:Nat),∀ p∈iM n,p<=255:=by
 intro n
 induction n using iM.induct with
 | case1 n h=>
  intro p hp
  rw [mV h] at hp
  have:=List.mem_singleton.mp hp
  omega
 | case2 n h I=>
  intro p hp
  rw [oi h] at hp
  rcases List.mem_cons.mp hp with e | hp
  ·omega
  ·exact I p hp
theorem Fj(ns:List Nat):∀ p∈pk ns,p<=255:=fun p I=>by
 obtain⟨n,_,h⟩:=List.mem_flatMap.mp I
 exact IG n p h
def Rd(ns R done:List Nat)(num wt:Nat):Prop:=
 (R=[]/\num=0/\wt=1/\done=ns)\/∃ r rest,R=iM r++pk rest/\ns=done++(num + r * wt)::rest/\((wt=1/\num=0)\/(1 < wt/\0 < r))
theorem Rd.next (done rest:List Nat):Rd (done++rest) (pk rest) done 0 1:=by
 cases rest with
 | nil=>exact .inl ⟨rfl,rfl,rfl,by simp⟩
 | cons r rest=>exact .inr ⟨r,rest,rfl,by simp,.inl ⟨rfl,rfl⟩⟩
theorem Rd.start (ns:List Nat):Rd ns (pk ns) [] 0 1:=Rd.next [] ns
theorem Rd.more {ns R done:List Nat}{num wt c:Nat}(h:Rd ns (c::R) done num wt)(hc:128<=c):Rd ns R done (num + c % 128 * wt) (wt * 128):=by
 rcases h with ⟨e,_⟩ | ⟨r,rest,e,hn,hw⟩
 ·cases e
 ·by_cases I:r < 128
  ·rw [mV I] at e
   have:c=r:=(List.cons.inj e).1
   omega
  ·rw [oi I] at e
   obtain⟨J,U⟩:=List.cons.inj e
   refine .inr ⟨r / 128,rest,U,?_,.inr ⟨?_,by omega⟩⟩
   ·rw [hn,J]
    congr 2
    have h1:(128 + r % 128) % 128=r % 128:=by omega
    rw [h1]
    have h2:r=128 * (r / 128) + r % 128:=(Nat.div_add_mod r 128).symm
    generalize r / 128=q at *
    generalize r % 128=m at *
    subst h2
    rw [Nat.add_mul,Nat.mul_comm wt 128,<-Nat.mul_assoc,Nat.mul_comm q 128]
    omega
   ·rcases hw with ⟨h1,_⟩ | ⟨h1,_⟩<;>omega
theorem Rd.last {ns R done:List Nat}{num wt c:Nat}(h:Rd ns (c::R) done num wt)(hc:c < 128):¬ (c=0/\1 < wt)/\Rd ns R (done++[num + c % 128 * wt]) 0 1:=by
 rcases h with ⟨e,_⟩ | ⟨r,rest,e,hn,hw⟩
 ·cases e
 ·by_cases I:r < 128
  ·rw [mV I] at e
   obtain⟨J,U⟩:=List.cons.inj e
   subst J
   refine⟨?_,?_⟩
   ·rintro⟨h1,h2⟩
    rcases hw with ⟨h3,_⟩ | ⟨_,h3⟩<;>omega
   ·have e3:R=pk rest:=by simpa using U
    rw [e3,hn,Nat.mod_eq_of_lt I]
    have:=Rd.next (done++[num + c * wt]) rest
    simpa using this
  ·rw [oi I] at e
   have:c=128 + r % 128:=(List.cons.inj e).1
   omega
theorem Rd.len {ns R done:List Nat}{num wt:Nat}(h:Rd ns R done num wt):done.length<=ns.length:=by
 rcases h with ⟨_,_,_,e⟩ | ⟨r,rest,_,e,_⟩
 ·rw [e];exact Nat.le_refl _
 ·rw [e,List.length_append];omega
theorem Rd.done {ns done:List Nat}{num wt:Nat}(h:Rd ns [] done num wt):wt=1/\done=ns:=by
 rcases h with ⟨_,_,J,U⟩ | ⟨r,rest,e,_⟩
 ·exact⟨J,U⟩
 ·exfalso
  by_cases I:r < 128
  ·rw [mV I] at e;cases e
  ·rw [oi I] at e;cases e
abbrev Pr:=Nat×List Nat
def jw:Nat->List Nat->Prop
 | _,[]=>True
 | l,n::r=>l<=n/\jw (n + 1) r
def g4:Nat->List Nat->List Nat
 | _,[]=>[]
 | l,n::r=>(n - l)::g4 (n + 1) r
def nums:Nat->List Nat->List Nat
 | _,[]=>[]
 | l,g::r=>(l + g)::nums (l + g + 1) r
theorem zE:∀(l:Nat) (xs:List Nat),jw l xs->nums l (g4 l xs)=xs
 | _,[],_=>rfl
 | l,n::r,h=>by
  have e:l + (n - l)=n:=by have:=h.1;omega
  show(l + (n - l))::nums (l + (n - l) + 1) (g4 (n + 1) r)=n::r
  rw [e,zE (n + 1) r h.2]
theorem lX:∀(l:Nat) (xs:List Nat),(g4 l xs).length=xs.length
 | _,[]=>rfl
 | l,n::r=>by show(g4 (n + 1) r).length + 1=r.length + 1;rw [lX]
theorem z7{b:Nat}:∀(l:Nat) (xs:List Nat),(∀ x∈xs,x < b)->∀ g∈g4 l xs,g < b
 | _,[],_,_,h=>nomatch h
 | l,n::r,hb,g,h=>by
  rcases List.mem_cons.mp h with e | h
  ·have:=hb n List.mem_cons_self
   omega
  ·exact z7 (n + 1) r (fun x I=>hb x (List.mem_cons_of_mem _ I)) g h
def rn:Nat->List Pr->List Nat
 | _,[]=>[]
 | l,(n,pl)::r=>(n - l)::(pl.length - 1)::(g4 0 pl++rn (n + 1) r)
structure jz (l : Nat) (row : List Pr) : Prop where
 n : jw l (row.map (·.1))
 p : ∀ x ∈ row, x.2 ≠ [] /\ jw 0 x.2
theorem jz.tail {l n:Nat}{pl:List Nat}{r:List Pr}(h:jz l ((n,pl)::r)):jz (n + 1) r:=⟨h.n.2,fun x I=>h.p x (List.mem_cons_of_mem _ I)⟩
theorem jz.head {l n:Nat}{pl:List Nat}{r:List Pr}(h:jz l ((n,pl)::r)):l<=n/\pl≠[]/\jw 0 pl:=⟨h.n.1,h.p _ List.mem_cons_self⟩
end K04
namespace BK
open K04
section
variable {α : Type} [DecidableEq α]
def gp(w:α):List α->Nat->List Nat
 | [],_=>[]
 | x::r,i=>if x=w then i::gp w r (i + 1) else gp w r (i + 1)
theorem uT(w x:α):∀(ws:List α) (i:Nat),gp w (ws++[x]) i=gp w ws i++(if x=w then [i + ws.length] else [])
 | [],i=>by
  show(if x=w then [i] else [])=[]++_
  rw [List.nil_append]
  rfl
 | y::r,i=>by
  show(if y=w then i::gp w (r++[x]) (i + 1) else gp w (r++[x]) (i + 1))=(if y=w then i::gp w r (i + 1) else gp w r (i + 1))++_
  rw [uT w x r (i + 1)]
  have e:i + 1 + r.length=i + (y::r).length:=by rw [List.length_cons];omega
  rw [e]
  by_cases h:y=w
  ·rw [if_pos h,if_pos h]
   rfl
  ·rw [if_neg h,if_neg h]
theorem wg(w:α):∀(ws:List α) (i l:Nat),l<=i->jw l (gp w ws i)
 | [],_,_,_=>trivial
 | x::r,i,l,h=>by
  unfold gp
  by_cases e:x=w
  ·rw [if_pos e]
   exact⟨h,wg w r (i + 1) (i + 1) (Nat.le_refl _)⟩
  ·rw [if_neg e]
   exact wg w r (i + 1) l (Nat.le_succ_of_le h)
theorem tN(w:α):∀(ws:List α) (i:Nat),gp w ws i=[]↔w∉ws
 | [],i=>by simp [gp]
 | x::r,i=>by
  unfold gp
  by_cases e:x=w
  ·rw [if_pos e]
   simp [e]
  ·rw [if_neg e,tN w r (i + 1)]
   simp [Ne.symm e]
theorem sY(w:α):∀(ws:List α) (i:Nat),(gp w ws i).length<=ws.length
 | [],_=>Nat.le_refl _
 | x::r,i=>by
  unfold gp
  have:=sY w r (i + 1)
  by_cases e:x=w
  ·rw [if_pos e,List.length_cons,List.length_cons]
   omega
  ·rw [if_neg e,List.length_cons]
   omega
theorem ze(w:α):∀(ws:List α) (i:Nat),∀ p∈gp w ws i,p < i + ws.length
 | [],_,_,h=>nomatch h
 | x::r,i,p,h=>by
  unfold gp at h
  have I:=ze w r (i + 1) p
  rw [List.length_cons]
  by_cases e:x=w
  ·rw [if_pos e] at h
   rcases List.mem_cons.mp h with h | h
   ·omega
   ·have:=I h
    omega
  ·rw [if_neg e] at h
   have:=I h
   omega
def rowOf(w:α):List (List α)->Nat->List Pr
 | [],_=>[]
 | ws::r,n=>if w∈ws then (n,gp w ws 0)::rowOf w r (n + 1) else rowOf w r (n + 1)
theorem uC(w:α)(ws:List α):∀(fz:List (List α)) (n:Nat),rowOf w (fz++[ws]) n=rowOf w fz n++(if w∈ws then [(n + fz.length,gp w ws 0)] else [])
 | [],n=>by
  show(if w∈ws then [(n,gp w ws 0)] else [])=[]++_
  rw [List.nil_append]
  rfl
 | vs::r,n=>by
  show(if w∈vs then (n,gp w vs 0)::rowOf w (r++[ws]) (n + 1) else rowOf w (r++[ws]) (n + 1))=(if w∈vs then (n,gp w vs 0)::rowOf w r (n + 1) else rowOf w r (n + 1))++_
  rw [uC w ws r (n + 1)]
  have e:n + 1 + r.length=n + (vs::r).length:=by rw [List.length_cons];omega
  rw [e]
  by_cases h:w∈vs
  ·rw [if_pos h,if_pos h]
   rfl
  ·rw [if_neg h,if_neg h]
theorem uH(w:α):∀(fz:List (List α)) (n l:Nat),l<=n->jw l ((rowOf w fz n).map (·.1))
 | [],_,_,_=>trivial
 | ws::r,n,l,h=>by
  unfold rowOf
  by_cases e:w∈ws
  ·rw [if_pos e]
   exact⟨h,uH w r (n + 1) (n + 1) (Nat.le_refl _)⟩
  ·rw [if_neg e]
   exact uH w r (n + 1) l (Nat.le_succ_of_le h)
theorem Ad(w:α):∀(fz:List (List α)) (n:Nat) (x:Pr),x∈rowOf w fz n->∃ j ws,fz[j]? =some ws/\w∈ws/\x=(n + j,gp w ws 0)
 | [],_,_,h=>nomatch h
 | ws::r,n,x,h=>by
  unfold rowOf at h
  have J:=Ad w r (n + 1) x
  by_cases e:w∈ws
  ·rw [if_pos e] at h
   rcases List.mem_cons.mp h with h | h
   ·exact⟨0,ws,rfl,e,h⟩
   ·obtain⟨j,vs,h1,h2,I⟩:=J h
    exact⟨j + 1,vs,h1,h2,by rw [I];congr 1;omega⟩
  ·rw [if_neg e] at h
   obtain⟨j,vs,h1,h2,I⟩:=J h
   exact⟨j + 1,vs,h1,h2,by rw [I];congr 1;omega⟩
theorem Hw(w:α)(fz:List (List α))(n l:Nat)(h:l<=n):jz l (rowOf w fz n):=⟨uH w fz n l h,fun x I=>by
 obtain⟨j,ws,_,h2,J⟩:=Ad w fz n x I
 rw [J]
 exact⟨fun z=>(tN w ws 0).mp z h2,wg w ws 0 0 (Nat.le_refl _)⟩⟩
theorem nX(w:α):∀(fz:List (List α)) (n:Nat),rowOf w fz n=[]↔∀ ws∈fz,w∉ws
 | [],n=>by simp [rowOf]
 | ws::r,n=>by
  unfold rowOf
  by_cases e:w∈ws
  ·rw [if_pos e]
   simp [e]
  ·rw [if_neg e,nX w r (n + 1)]
   simp [e]
def gx(fz:List (List α)):Nat:=(fz.map List.length).sum
theorem pQ(w:α):∀(fz:List (List α)) (n:Nat),(rowOf w fz n).length<=fz.length/\(rowOf w fz n).length<=gx fz
 | [],_=>⟨Nat.le_refl _,Nat.le_refl _⟩
 | ws::r,n=>by
  have I:=pQ w r (n + 1)
  have e:gx (ws::r)=ws.length + gx r:=rfl
  unfold rowOf
  by_cases h:w∈ws
  ·rw [if_pos h,List.length_cons,List.length_cons,e]
   have:=List.length_pos_of_mem h
   omega
  ·rw [if_neg h,List.length_cons,e]
   omega
theorem wk(w:α):∀(fz:List (List α)) (n l:Nat),(rn l (rowOf w fz n)).length<=3 * gx fz
 | [],_,_=>Nat.le_refl _
 | ws::r,n,l=>by
  have e:gx (ws::r)=ws.length + gx r:=rfl
  unfold rowOf
  by_cases h:w∈ws
  ·rw [if_pos h]
   show(g4 0 (gp w ws 0)++rn (n + 1) (rowOf w r (n + 1))).length + 1 + 1<=_
   rw [List.length_append,lX,e]
   have:=wk w r (n + 1) (n + 1)
   have:=List.length_pos_of_mem h
   have:=sY w ws 0
   omega
  ·rw [if_neg h,e]
   have:=wk w r (n + 1) l
   omega
theorem y4(w:α)(B:Nat):∀(fz:List (List α)) (n l:Nat),n + fz.length<=B->(∀ ws∈fz,ws.length<=B)->∀ x∈rn l (rowOf w fz n),x < B
 | [],_,_,_,_,_,h=>nomatch h
 | ws::r,n,l,hB,hw,x,h=>by
  have I:n + 1 + r.length<=B:=by rw [List.length_cons] at hB;omega
  have U:=y4 w B r (n + 1)
  unfold rowOf at h
  have ab:=hw ws List.mem_cons_self
  by_cases e:w∈ws
  ·rw [if_pos e] at h
   have h':x∈(n - l)::((gp w ws 0).length - 1)::(g4 0 (gp w ws 0)++rn (n + 1) (rowOf w r (n + 1))):=h
   have ae:=sY w ws 0
   have aa:=List.length_pos_of_mem e
   rcases List.mem_cons.mp h' with h | h
   ·omega
   ·rcases List.mem_cons.mp h with h | h
    ·omega
    ·rcases List.mem_append.mp h with h | h
     ·refine z7 0 (gp w ws 0) (fun y hy=>?_) x h
      have:=ze w ws 0 y hy
      omega
     ·exact U (n + 1) I (fun v J=>hw v (List.mem_cons_of_mem _ J)) x h
  ·rw [if_neg e] at h
   exact U l I (fun v J=>hw v (List.mem_cons_of_mem _ J)) x h
theorem yk:∀(k:Nat) (ns:List Nat),(∀ n∈ns,n < 128 ^ (k + 1))->(pk ns).length<=(k + 1) * ns.length
 | k,[],_=>by simp [pk]
 | k,n::ns,h=>by
  have h1:=y8 k n (h n List.mem_cons_self)
  have h2:=yk k ns fun m hm=>h m (List.mem_cons_of_mem _ hm)
  show(iM n++pk ns).length<=_
  rw [List.length_append,List.length_cons,Nat.mul_add,Nat.mul_one]
  omega
def gk{β:Type}:List Bool->List β->List β
 | true::ks,x::xs=>x::gk ks xs
 | false::ks,_::xs=>gk ks xs
 | _,_=>[]
def cnt(ks:List Bool)(n:Nat):Nat:=(gk (ks.take n) (ks.take n)).length
def gM(ks:List Bool)(A:Nat):List Pr->List Pr
 | []=>[]
 | (n,pl)::r=>if ks[n]? =some true then (A + cnt ks n,pl)::gM ks A r else gM ks A r
theorem vP(ks:List Bool)(A:Nat):∀(a b:List Pr),gM ks A (a++b)=gM ks A a++gM ks A b
 | [],_=>rfl
 | (n,pl)::r,b=>by
  show(if ks[n]? =some true then (A + cnt ks n,pl)::gM ks A (r++b) else gM ks A (r++b))=(if ks[n]? =some true then (A + cnt ks n,pl)::gM ks A r else gM ks A r)++gM ks A b
  rw [vP ks A r b]
  by_cases h:ks[n]? =some true
  ·rw [if_pos h,if_pos h]
   rfl
  ·rw [if_neg h,if_neg h]
theorem uG{β:Type}:∀(ks:List Bool) (xs:List β) (k:Bool) (x:β),ks.length=xs.length->gk (ks++[k]) (xs++[x])=gk ks xs++(if k=true then [x] else [])
 | [],[],k,x,_=>by cases k<;>rfl
 | [],_::_,_,_,h=>by cases h
 | _::_,[],_,_,h=>by cases h
 | a::ks,y::xs,k,x,h=>by
  have I:=uG ks xs k x (Nat.succ.inj h)
  cases a
  ·exact I
  ·show y::gk (ks++[k]) (xs++[x])=y::gk ks xs++_
   rw [I]
   rfl
theorem wj{β γ:Type}(f:β->γ):∀(ks:List Bool) (xs:List β),gk ks (xs.map f)=(gk ks xs).map f
 | [],_=>rfl
 | true::ks,[]=>rfl
 | false::ks,[]=>rfl
 | true::ks,x::xs=>by show f x::gk ks (xs.map f)=_;rw [wj f ks xs];rfl
 | false::ks,x::xs=>by show gk ks (xs.map f)=_;rw [wj f ks xs];rfl
theorem sy{β:Type}:∀(ks:List Bool) (xs:List β),(gk ks xs).Sublist xs
 | [],xs=>List.nil_sublist _
 | true::ks,[]=>List.nil_sublist _
 | false::ks,[]=>List.nil_sublist _
 | true::ks,y::xs=>(sy ks xs).cons_cons y
 | false::ks,y::xs=>(sy ks xs).cons y
theorem HU{β:Type}(ks:List Bool)(xs:List β):(gk ks xs).length<=xs.length:=(sy ks xs).length_le
theorem sQ{β γ:Type}:∀(ks:List Bool) (xs:List β) (ys:List γ),xs.length=ys.length->(gk ks xs).length=(gk ks ys).length
 | [],_,_,_=>rfl
 | true::_,[],[],_=>rfl
 | false::_,[],[],_=>rfl
 | _::_,[],_::_,h=>by cases h
 | _::_,_::_,[],h=>by cases h
 | true::ks,x::xs,y::ys,h=>by show(gk ks xs).length + 1=(gk ks ys).length + 1;rw [sQ ks xs ys (Nat.succ.inj h)]
 | false::ks,x::xs,y::ys,h=>sQ ks xs ys (Nat.succ.inj h)
theorem Hc{β:Type}{ks:List Bool}{xs:List β}{n:Nat}(h:ks.length=xs.length):(gk (ks.take n) (xs.take n)).length=cnt ks n:=
 sQ _ _ _ (by rw [List.length_take,List.length_take,h])
theorem zX(w:α):∀(a b:List (List α)) (n:Nat),rowOf w (a++b) n=rowOf w a n++rowOf w b (n + a.length)
 | [],b,n=>rfl
 | x::a,b,n=>by
  show(if w∈x then (n,gp w x 0)::rowOf w (a++b) (n + 1) else rowOf w (a++b) (n + 1))=(if w∈x then (n,gp w x 0)::rowOf w a (n + 1) else rowOf w a (n + 1))++rowOf w b (n + (a.length + 1))
  rw [zX w a b (n + 1)]
  have e:n + 1 + a.length=n + (a.length + 1):=by omega
  rw [e]
  by_cases h:w∈x
  ·rw [if_pos h,if_pos h]
   rfl
  ·rw [if_neg h,if_neg h]
theorem xV(w:α)(A:Nat):∀(ds ks:List Bool) (dt ts:List (List α)),ds.length=dt.length->ks.length=ts.length->gM (ds++ks) A (rowOf w ts ds.length)=rowOf w (gk ks ts) (A + (gk ds dt).length)
 | ds,[],dt,[],_,_=>rfl
 | ds,[],dt,_::_,_,h=>by cases h
 | ds,_::_,dt,[],_,h=>by cases h
 | ds,k::ks,dt,x::ts,hd,hk=>by
  have J:=xV w A (ds++[k]) ks (dt++[x]) ts (by simp [hd]) (Nat.succ.inj hk)
  have U:ds++[k]++ks=ds++k::ks:=by simp
  have e2:(ds++[k]).length=ds.length + 1:=by simp
  rw [U,e2,uG ds dt k x hd] at J
  have I:(ds++k::ks)[ds.length]? =some k:=by simp
  have hc:cnt (ds++k::ks) ds.length=(gk ds dt).length:=by
   unfold cnt
   rw [List.take_left]
   exact sQ ds ds dt hd
  have step:gM (ds++k::ks) A (rowOf w (x::ts) ds.length)=(if w∈x then (if k=true then [(A + (gk ds dt).length,gp w x 0)] else []) else [])++gM (ds++k::ks) A (rowOf w ts (ds.length + 1)):=by
   show gM _ A (if w∈x then (ds.length,gp w x 0)::rowOf w ts (ds.length + 1) else rowOf w ts (ds.length + 1))=_
   by_cases hw:w∈x
   ·rw [if_pos hw,if_pos hw]
    show(if (ds++k::ks)[ds.length]? =some true then (A + cnt _ ds.length,gp w x 0)::gM _ A _ else gM _ A _)=_
    rw [I,hc]
    cases k
    ·rw [if_neg (by simp),if_neg (by simp)]
     rfl
    ·rw [if_pos rfl,if_pos rfl]
     rfl
   ·rw [if_neg hw,if_neg hw]
    rfl
  rw [step,J]
  cases k
  ·show _=rowOf w (gk ks ts) _
   simp
  ·show _=rowOf w (x::gk ks ts) _
   rw [if_pos rfl,if_pos rfl]
   show _=(if w∈x then (A + (gk ds dt).length,gp w x 0)::rowOf w (gk ks ts) _ else rowOf w (gk ks ts) _)
   have e3:A + (gk ds dt++[x]).length=A + (gk ds dt).length + 1:=by rw [List.length_append];rfl
   rw [e3]
   by_cases hw:w∈x
   ·rw [if_pos hw,if_pos hw]
    rfl
   ·rw [if_neg hw,if_neg hw]
    rfl
theorem CG(w:α)(A:Nat)(ks:List Bool)(ts:List (List α))(h:ks.length=ts.length):gM ks A (rowOf w ts 0)=rowOf w (gk ks ts) A:=xV w A [] ks [] ts rfl h
end
open PySem L2 PyProof.Rows PySem.Spec Gn K04
abbrev En:=List (Str×Addr)
def gw(es:En):List (Key×V):=es.map fun e=>((Sum.inr e.1:Key),V.ref e.2)
theorem oF(es:En):(gw es).length=es.length:=List.length_map _
theorem xK(es:En):(gw es).map (·.1)=(es.map (·.1)).map Sum.inr:=by
 unfold gw
 rw [List.map_map,List.map_map]
 rfl
theorem qQ:∀{es:En} {w:Str},w∉es.map (·.1)->gg (gw es) (Sum.inr w)=none
 | [],_,_=>rfl
 | e::es,w,h=>by
  have h1:¬ e.1=w:=fun z=>h (by rw [<-z];exact List.mem_map.mpr ⟨e,List.mem_cons_self,rfl⟩)
  have h2:w∉es.map (·.1):=fun z=>h (List.mem_cons_of_mem _ z)
  show gg (((Sum.inr e.1:Key),V.ref e.2)::gw es) (Sum.inr w)=none
  rw [jt (fun z=>h1 (Sum.inr.inj z)),qQ h2]
theorem uF:∀{es:En} {w:Str} {v:V},gg (gw es) (Sum.inr w)=some v->∃ a,v= .ref a/\(w,a)∈es
 | [],_,_,h=>nomatch h
 | e::es,w,v,h=>by
  have h':gg (((Sum.inr e.1:Key),V.ref e.2)::gw es) (Sum.inr w)=some v:=h
  by_cases h1:e.1=w
  ·rw [jJ (p:=((Sum.inr e.1:Key),V.ref e.2)) (by rw [h1])] at h'
   subst h1
   exact⟨e.2,(Option.some.inj h').symm,List.mem_cons_self⟩
  ·rw [jt (fun z=>h1 (Sum.inr.inj z))] at h'
   obtain⟨a,I,J⟩:=uF h'
   exact⟨a,I,List.mem_cons_of_mem _ J⟩
theorem tL{es:En}{w:Str}(h:w∈es.map (·.1)):∃ a,gg (gw es) (Sum.inr w)=some (.ref a)/\(w,a)∈es:=by
 cases q:gg (gw es) (Sum.inr w) with
 | none=>
  have:=zr q
  rw [xK] at this
  exact absurd (List.mem_map.mpr ⟨w,h,rfl⟩) this
 | some v=>
  obtain⟨a,rfl,ha⟩:=uF q
  exact⟨a,rfl,ha⟩
theorem FG{es:En}{w:Str}(h:gg (gw es) (Sum.inr w)=none):w∉es.map (·.1):=fun z=>by
 obtain⟨a,e,_⟩:=tL z
 rw [h] at e
 cases e
theorem ve{es:En}{w:Str}{a:Addr}(h:gg (gw es) (Sum.inr w)=none):putK (gw es) (Sum.inr w) (.ref a)=gw (es++[(w,a)]):=by
 rw [xr _ h]
 unfold gw
 rw [List.map_append]
 rfl
theorem we{α β:Type}:∀{es:List (α×β)},(es.map (·.1)).Nodup->∀{w:α} {a b:β},(w,a)∈es->(w,b)∈es->a=b
 | [],_,_,_,_,h,_=>nomatch h
 | e::es,hn,w,a,b,h1,h2=>by
  have I:(e.1::es.map (·.1)).Nodup:=hn
  obtain⟨J,U⟩:=List.nodup_cons.mp I
  rcases List.mem_cons.mp h1 with h1 | h1
  ·rcases List.mem_cons.mp h2 with h2 | h2
   ·have:=h1.trans h2.symm
    exact(Prod.mk.inj this).2
   ·exact absurd (List.mem_map.mpr ⟨_,h2,by rw [<-h1]⟩) J
  ·rcases List.mem_cons.mp h2 with h2 | h2
   ·exact absurd (List.mem_map.mpr ⟨_,h1,by rw [<-h2]⟩) J
   ·exact we U h1 h2
theorem xQ{α β:Type}:∀{es:List (α×β)},(es.map (·.2)).Nodup->∀{w v:α} {a:β},(w,a)∈es->(v,a)∈es->w=v
 | [],_,_,_,_,h,_=>nomatch h
 | e::es,hn,w,v,a,h1,h2=>by
  have I:(e.2::es.map (·.2)).Nodup:=hn
  obtain⟨J,U⟩:=List.nodup_cons.mp I
  rcases List.mem_cons.mp h1 with h1 | h1
  ·rcases List.mem_cons.mp h2 with h2 | h2
   ·have:=h1.trans h2.symm
    exact(Prod.mk.inj this).1
   ·exact absurd (List.mem_map.mpr ⟨_,h2,by rw [<-h1]⟩) J
  ·rcases List.mem_cons.mp h2 with h2 | h2
   ·exact absurd (List.mem_map.mpr ⟨_,h1,by rw [<-h2]⟩) J
   ·exact xQ U h1 h2
theorem vv{α:Type}:∀{l:List α} {a:α},l.Nodup->a∉l->(l++[a]).Nodup
 | [],a,_,_=>List.nodup_cons.mpr ⟨(fun h=>nomatch h),List.nodup_nil⟩
 | x::l,a,hn,h=>by
  obtain⟨I,J⟩:=List.nodup_cons.mp hn
  show(x::(l++[a])).Nodup
  refine List.nodup_cons.mpr ⟨fun z=>?_,vv J fun z=>h (List.mem_cons_of_mem _ z)⟩
  rcases List.mem_append.mp z with z | z
  ·exact I z
  ·rw [List.mem_singleton.mp z] at h
   exact h List.mem_cons_self
structure DL (B H : Hp) (d : Addr) (es : En) (F : Hp -> Addr -> Str -> Prop) : Prop where
 d : H d = some (.dK (gw es))
 k : (es.map (·.1)).Nodup
 a : (es.map (·.2)).Nodup
 n : ∀ e ∈ es, B e.2 = none
 f : ∀ e ∈ es, F H e.2 e.1
theorem DL.put {B H H':Hp}{d a:Addr}{es:En}{w:Str}{F F':Hp->Addr->Str->Prop}(h:DL B H d es F)(ha:(w,a)∈es)(hd:H' d=some (.dK (gw es)))
  (hf:∀ e∈es,e.1≠w->e.2≠a->F H e.2 e.1->F' H' e.2 e.1)(hw:F' H' a w):DL B H' d es F':=⟨hd,h.k,h.a,h.n,fun e he=>by
 by_cases I:e.1=w
 ·have:e.2=a:=we h.k (w:=w) (by rw [<-I];exact he) ha
  rw [this,I]
  exact hw
 ·exact hf e he I (fun z=>I (xQ h.a (a:=a) (by rw [<-z];exact he) ha)) (h.f e he)⟩
theorem DL.new {B H H':Hp}{d z:Addr}{es:En}{w:Str}{F F':Hp->Addr->Str->Prop}(h:DL B H d es F)(hw:w∉es.map (·.1))(hz:B z=none)(hz2:z∉es.map (·.2))(hd:H' d=some (.dK (gw (es++[(w,z)]))))
  (hf:∀ e∈es,e.1≠w->e.2≠z->F H e.2 e.1->F' H' e.2 e.1)(hF:F' H' z w):DL B H' d (es++[(w,z)]) F':=by
 refine⟨hd,?_,?_,fun e he=>?_,fun e he=>?_⟩
 ·rw [List.map_append]
  exact vv h.k hw
 ·rw [List.map_append]
  exact vv h.a hz2
 ·rcases List.mem_append.mp he with he | he
  ·exact h.n e he
  ·rw [List.mem_singleton.mp he]
   exact hz
 ·rcases List.mem_append.mp he with he | he
  ·exact hf e he (fun q=>hw (by rw [<-q];exact List.mem_map.mpr ⟨e,he,rfl⟩)) (fun q=>hz2 (by rw [<-q];exact List.mem_map.mpr ⟨e,he,rfl⟩)) (h.f e he)
  ·rw [List.mem_singleton.mp he]
   exact hF
abbrev sl(ws:List Str):List V:=ws.map V.str
theorem xq{ws:List Str}{i:Nat}{x:V}(h:(sl ws)[i]? =some x):∃ w,ws[i]? =some w/\x= .str w:=by
 rw [List.getElem?_map] at h
 cases hp:ws[i]? with
 | none=>rw [hp] at h;cases h
 | some c=>rw [hp] at h;exact⟨c,rfl,(Option.some.inj h).symm⟩
theorem take_snoc{α:Type}{xs:List α}{i:Nat}{x:α}(h:xs[i]? =some x):xs.take (i + 1)=xs.take i++[x]:=by rw [List.take_add_one,h];rfl
theorem sC{α:Type}{xs:List α}{i:Nat}{x:α}(h:xs[i]? =some x):(xs.take i).length=i:=by
 have:=(List.getElem?_eq_some_iff.mp h).1
 rw [List.length_take]
 omega
def SameBut(x:Addr)(H H':Hp):Prop:=∀ b o,H b=some o->b≠x->H' b=some o
theorem SameBut.of {x:Addr}{H G:Hp}(s:eZ H G):SameBut x H G:=fun b u e _=>s b u e
theorem SameBut.free {x a:Addr}{o:HO}{H G:Hp}(s:SameBut x H G)(hx:G x=some o)(h:G a=none):H a=none:=by
 cases q:H a with
 | none=>rfl
 | some u=>
  by_cases e:a=x
  ·rw [e,hx] at h
   cases h
  ·rw [s a u q e] at h
   cases h
theorem SameBut.tr {x:Addr}{H G F:Hp}(s:SameBut x H G)(t:eZ G F):SameBut x H F:=fun b u e n=>t _ _ (s b u e n)
theorem p5{α:Type}:∀{l:List α} {i:Nat} {x:α},l.Nodup->l[i]? =some x->x∉l.take i
 | [],i,_,_,h=>by cases i<;>cases h
 | y::l,0,x,_,_=>(fun h=>nomatch h)
 | y::l,i + 1,x,hn,h=>by
  obtain⟨I,J⟩:=List.nodup_cons.mp hn
  intro z
  rcases List.mem_cons.mp z with z | z
  ·subst z
   exact I (List.mem_of_getElem? (show l[i]? =some x from h))
  ·exact p5 J h z
theorem uf{es:En}{i:Nat}{kv:Key×V}(h:(gw es)[i]? =some kv):∃ e,es[i]? =some e/\kv=(Sum.inr e.1,.ref e.2):=by
 unfold gw at h
 rw [List.getElem?_map] at h
 cases hp:es[i]? with
 | none=>rw [hp] at h;cases h
 | some c=>rw [hp] at h;exact⟨c,rfl,(Option.some.inj h).symm⟩
theorem vz{es:En}{e:Str×Addr}(hn:(es.map (·.1)).Nodup)(h:e∈es):gg (gw es) (Sum.inr e.1)=some (.ref e.2):=by
 obtain⟨a,h1,h2⟩:=tL (List.mem_map.mpr ⟨e,h,rfl⟩)
 rw [h1,we hn h2 h]
theorem o9{es:En}{i:Nat}{e:Str×Addr}(h:es[i]? =some e):(es.map (·.1))[i]? =some e.1:=by rw [List.getElem?_map,h];rfl
theorem Hl{α:Type}(a:List (List α))(b:List α):gx (a++[b])=gx a + b.length:=by
 unfold gx
 rw [List.map_append,List.sum_append]
 simp
theorem Av{α:Type}:∀(t:List (List α)) (i:Nat),gx (t.take i)<=gx t
 | [],i=>by rw [List.take_nil];exact Nat.le_refl _
 | x::t,0=>Nat.zero_le _
 | x::t,i + 1=>by
  have:=Av t i
  show x.length + gx (t.take i)<=x.length + gx t
  omega
theorem uh{α:Type}:∀{t:List (List α)} {ws:List α},ws∈t->ws.length<=gx t
 | [],_,h=>nomatch h
 | x::t,ws,h=>by
  have e:gx (x::t)=x.length + gx t:=rfl
  rcases List.mem_cons.mp h with h | h
  ·rw [h,e]
   omega
  ·have:=uh h
   omega
theorem SameBut.trb {x:Addr}{H G F:Hp}(s:SameBut x H G)(t:SameBut x G F):SameBut x H F:=fun b u e n=>t _ _ (s b u e n) n
theorem SameBut.new {x:Addr}{B H G:Hp}(s:SameBut x H G)(t:eZ B H)(h:B x=none):eZ B G:=fun b u e=>s _ _ (t _ _ e) (fW e h)
def sO(i j:Nat):TE:=fun σ H Q=>∃(B:Hp) (d:Addr) (es:En) (x:Str) (F:Hp->Addr->Str->Prop),σ[i]? =some (some (.ref d))/\σ[j]? =some (some (.str x))/\DL B H d es F/\es.length<=10000/\(∀ z,H z=none->B z=none)/\
 (∀ e∈es,∃ l,H e.2=some (.lst l))/\(∀ G a y l,SameBut d H G->H a=some (.lst l)->F H a y->F G a y)/\(∀ G z,x∉es.map (·.1)->G z=some (.lst [])->F G z x)/\
 ∀ p I H',SameBut d H H'->DL B H' d I F->(x,p)∈I->(I=es\/(x∉es.map (·.1)/\I=es++[(x,p)]/\H p=none))->(∃ l,H' p=some (.lst l))->Q (.ref p) H'
theorem getL{K:W.Frag}{i j:Nat}{σ:L2.St}{H:Hp}{Q:VK}(h:sO i j σ H Q):vQ K "dict" zh (jQ i) (mI (jQ j) (mI (rP k8) k8)) σ H Q:=by
 obtain⟨B,d,es,x,F,hi,hj,hD,hlen,hB,J,ae,ah,q⟩:=h
 have hl:(sizeLine:Nat)=16777216:=sizeLine_eq
 refine⟨_,hi,xM hD.d,_,hj,(by show 0<=sizeLine;decide),fun z hz=>?_⟩
 have sz:eZ H (upd H z (.lst [])):=fC hz
 have U:(upd H z (.lst [])) z=some (.lst []):=fv
 generalize upd H z (.lst [])=H2 at sz U ⊢
 have aa:=sz _ _ hD.d
 have af:∀ e∈es,e.2≠d/\e.2≠z:=fun e he=>by
  obtain⟨l,h1⟩:=J e he
  exact⟨(fun q=>by rw [q,hD.d] at h1;cases h1),(fun q=>by rw [q,hz] at h1;cases h1)⟩
 refine⟨d,gw es,Sum.inr x,.ref z,rfl,rfl,aa,(by rw [oF];omega),fun v hv=>?_,fun hv=>?_⟩
 ·obtain⟨p,rfl,hp⟩:=uF hv
  obtain⟨l,h1⟩:=J _ hp
  refine q p es H2 (SameBut.of sz) ⟨aa,hD.k,hD.a,hD.n,fun e he=>?_⟩ hp (.inl rfl) ⟨l,sz _ _ h1⟩
  obtain⟨l',h2⟩:=J e he
  exact ae H2 e.2 e.1 l' (SameBut.of sz) h2 (hD.f e he)
 ·have ab:=FG hv
  have ai:z≠d:=fun q=>by rw [q,aa] at U;cases U
  have I:upd H2 d (.dK (putK (gw es) (Sum.inr x) (.ref z))) z=some (.lst []):=by rw [fB ai];exact U
  have ag:upd H2 d (.dK (putK (gw es) (Sum.inr x) (.ref z))) d=some (.dK (gw (es++[(x,z)]))):=by rw [fv,ve hv]
  have sb:SameBut d H (upd H2 d (.dK (putK (gw es) (Sum.inr x) (.ref z)))):=fun b u e hb=>by rw [fB hb];exact sz _ _ e
  generalize upd H2 d (.dK (putK (gw es) (Sum.inr x) (.ref z)))=H3 at I ag sb ⊢
  refine q z _ H3 sb (hD.new ab (hB z hz) (fun q=>?_) ag (fun e he _ _ hf=>?_) (ah H3 z ab I)) (List.mem_append_right _ (List.mem_singleton.mpr rfl)) (.inr ⟨ab,rfl,hz⟩) ⟨_,I⟩
  ·obtain⟨e,he,q⟩:=List.mem_map.mp q
   exact(af e he).2 q
  ·obtain⟨l',h2⟩:=J e he
   exact ae H3 e.2 e.1 l' sb h2 hf
end BK
namespace K01
def lo(c:Nat):Nat:=if 65<=c/\c<=90 then c + 32 else c
def gc(c:Nat):Bool:=(decide (97<=c) && decide (c<=122)) || (decide (48<=c) && decide (c<=57))
def gZ(c:Nat):Bool:=decide (c=10) || (decide (32<=c) && decide (c<=126) && !decide (c=37))
abbrev Wd:=List Nat×Nat×Nat
def flush(i:Nat)(w:List Nat):List Wd:=if w=[] then [] else [(w,i - w.length,i)]
def ie:List Nat->Nat->List Nat->List Wd
 | [],i,w=>flush i w
 | c::r,i,w=>if gc c then ie r (i + 1) (w++[c]) else flush i w++ie r (i + 1) []
def words(cs:List Nat):List Wd:=ie (cs.map lo) 0 []
theorem mU{c:Nat}{r:List Nat}{i:Nat}{w:List Nat}(h:gc c=true):ie (c::r) i w=ie r (i + 1) (w++[c]):=by
 rw [ie,if_pos h]
theorem mh{c:Nat}{r:List Nat}{i:Nat}{w:List Nat}(h:gc c=false):ie (c::r) i w=flush i w++ie r (i + 1) []:=by
 rw [ie,if_neg (by rw [h];exact Bool.false_ne_true)]
theorem um:∀(r:List Nat) (i:Nat) (w:List Nat),ie (r++[32]) i w=ie r i w
 | [],i,w=>by
  show ie [32] i w=ie [] i w
  rw [mh (by decide)]
  simp [ie,flush]
 | c::r,i,w=>by
  show ie (c::(r++[32])) i w=_
  cases h:gc c with
  | true=>rw [mU h,mU h,um]
  | false=>rw [mh h,mh h,um]
theorem rR{c:Nat}(h:gZ c=true):c < 128:=by
 unfold gZ at h
 simp only [Bool.or_eq_true,Bool.and_eq_true,decide_eq_true_eq,Bool.not_eq_true',decide_eq_false_iff_not] at h
 omega
theorem xI{c:Nat}(h:gc c=true):gZ c=true:=by
 unfold gc at h
 unfold gZ
 simp only [Bool.or_eq_true,Bool.and_eq_true,decide_eq_true_eq,Bool.not_eq_true',decide_eq_false_iff_not] at *
 omega
theorem ko{c:Nat}(h:gc c=true):c < 128:=rR (xI h)
def vh(n:Nat)(x:Wd):Prop:=x.1≠[]/\x.1.all gc=true/\x.2.1 + x.1.length=x.2.2/\x.2.2<=n
theorem yO{n i:Nat}{w:List Nat}(hw:w.all gc=true)(hi:w.length<=i)(hn:i<=n):∀ x∈flush i w,vh n x:=by
 intro x I
 unfold flush at I
 split at I
 ·cases I
 ·rename_i h
  have e:x=(w,i - w.length,i):=by simpa using I
  subst e
  exact⟨h,hw,by show i - w.length + w.length=i;(clear h hn hw;omega),hn⟩
theorem vk:∀(r:List Nat) (i:Nat) (w:List Nat) (n:Nat),w.all gc=true->w.length<=i->i + r.length<=n->∀ x∈ie r i w,vh n x
 | [],i,w,n,hw,hi,hn,x,J=>yO hw hi (by simpa using hn) x J
 | c::r,i,w,n,hw,hi,hn,x,J=>by
  have I:i + 1 + r.length<=n:=by simp at hn;(clear hi hw;omega)
  cases h:gc c with
  | true=>
   rw [mU h] at J
   exact vk r (i + 1) (w++[c]) n (by simp [List.all_append,hw,h]) (by simp;(clear h I hn hw;omega)) I x J
  | false=>
   rw [mh h] at J
   rcases List.mem_append.mp J with q | q
   ·exact yO hw hi (by(clear h I hi hw;omega)) x q
   ·exact vk r (i + 1) [] n rfl (Nat.zero_le _) I x q
theorem ET(cs:List Nat):∀ x∈words cs,vh cs.length x:=vk _ 0 [] _ rfl (Nat.le_refl _) (by simp)
theorem zC(i:Nat)(w:List Nat):(flush i w).length<=1:=by unfold flush;split<;>simp
theorem uw:∀(r:List Nat) (i:Nat) (w:List Nat),(ie r i w).length<=r.length + 1
 | [],i,w=>by simpa [ie] using zC i w
 | c::r,i,w=>by
  cases h:gc c with
  | true=>rw [mU h];have:=uw r (i + 1) (w++[c]);simp;(clear h;omega)
  | false=>
   rw [mh h,List.length_append]
   have:=uw r (i + 1) []
   have:=zC i w
   simp;(clear h;omega)
theorem Bz(cs:List Nat):(words cs).length<=cs.length + 1:=by simpa [words] using uw (cs.map lo) 0 []
open PySem L2
def gq:V->Bool
 | .str z=>decide (z.length<=2000) && z.cps.toList.all gZ
 | _=>false
def fZ(most:Nat):V->Bool
 | .str z=>decide (1<=z.length) && decide (z.length<=most) && z.cps.toList.all gc
 | _=>false
def jq(x:V):Prop:=∀ z,x= .str z->z.length<=5000
end K01
namespace BK
open PySem PySem.Spec PyProof.Rows
end BK
namespace K28
open PySem L2 PyProof.Rows PySem.Spec Gn K04 K01
def top(i:Nat):Stmt:=PySem.Challenge.pw_findhall_k28_books_by_the_rule.main.body.getD i (.Pass ⟨0,0,0,0⟩)
abbrev kN:Stmt:=top 16
abbrev qK:Stmt:=top 17
abbrev ow:Stmt:=top 18
abbrev nk:Stmt:=top 19
abbrev mX:Stmt:=top 20
abbrev ni:Stmt:=top 21
abbrev nU:Stmt:=top 22
abbrev lO:Stmt:=top 23
abbrev pZ:Stmt:=top 27
abbrev pE:Stmt:=top 28
abbrev qc:Stmt:=top 29
abbrev qC:Stmt:=top 30
abbrev nF:Stmt:=top 32
abbrev pO:Stmt:=top 33
abbrev mY:Stmt:=top 34
abbrev nO:Stmt:=top 35
abbrev pM:Stmt:=top 36
abbrev oC:Stmt:=top 37
abbrev pJ:Stmt:=top 38
abbrev p8:Stmt:=top 41
abbrev oX:Stmt:=top 42
abbrev ql:Stmt:=top 43
abbrev nZ:Stmt:=top 44
abbrev og:Stmt:=top 46
abbrev qJ:Stmt:=top 47
abbrev oR:Stmt:=top 48
abbrev p1:Stmt:=top 49
abbrev pT:Stmt:=top 50
abbrev pP:Stmt:=top 64
abbrev qm:Stmt:=top 65
abbrev m9:Stmt:=top 66
abbrev lT:Stmt:=top 72
abbrev ny:Stmt:=top 73
abbrev m3:Stmt:=top 74
abbrev om:Stmt:=top 75
abbrev qq:Stmt:=top 77
abbrev qj:Stmt:=top 68
abbrev nB:Stmt:=top 70
abbrev lE:Stmt:=top 76
abbrev pH:Stmt:=top 78
abbrev oh:Stmt:=top 79
abbrev kL:Stmt:=top 80
abbrev nQ:Stmt:=top 81
abbrev qx:Stmt:=top 82
abbrev lH:Stmt:=top 83
abbrev qg:Stmt:=top 84
abbrev pf:Stmt:=top 85
abbrev lY:Stmt:=inClass (top 69) 0
abbrev mq:Stmt:=inClass (top 69) 1
abbrev nc:Stmt:=inClass (top 69) 2
abbrev lF:Stmt:=inClass (top 69) 3
abbrev mi:Stmt:=inClass (top 69) 4
abbrev kK:Stmt:=inClass (top 69) 9
abbrev lD:Stmt:=inClass (top 69) 10
abbrev m6:Stmt:=inClass (top 69) 11
abbrev km:Stmt:=top 86
abbrev j8:Stmt:=inClass (top 51) 0
abbrev jT:Stmt:=inClass (top 51) 1
abbrev mx:Stmt:=inClass (top 51) 3
abbrev nL:Stmt:=inClass (top 51) 4
abbrev lW:Stmt:=inClass (top 51) 5
abbrev mD:Stmt:=inClass (top 51) 7
abbrev mJ:Stmt:=inClass (top 51) 8
abbrev mF:Stmt:=inClass (top 51) 10
abbrev m5:Stmt:=inClass (top 51) 11
structure Txt (mg : Str -> Option Value) : Prop where
 isi : mg "isinstance" = none
 int : mg "int" = none
 bool : mg "bool" = none
 str : mg "str" = none
 list : mg "list" = none
 tuple : mg "tuple" = none
 len : mg "len" = none
 all : mg "all" = none
 ord : mg "ord" = none
 range : mg "range" = none
 enum : mg "enumerate" = none
 sorted : mg "sorted" = none
 val : mg "ValueError" = none
 cText : ∃ t, mg "MOST_TEXT_SIGNS" = some (.int 2000 t)
 cKey : ∃ t, mg "MOST_KEY_SIGNS" = some (.int 12 t)
 cWord : ∃ t, mg "MOST_WORD_SIGNS" = some (.int 2000 t)
 cSmall : ∃ t, mg "SMALL_SIGNS" = some (.str "abcdefghijklmnopqrstuvwxyz0123456789" t)
 cPer : ∃ t, mg "PERCENT_NUMBER" = some (.int 37 t)
 cGreat : ∃ t, mg "GREATEST_PART" = some (.int 255 t)
 cMore : ∃ t, mg "MORE_COMES" = some (.int 128 t)
section
variable {P : Program} {w : World} {K : PySem.W.Frag} {mg : Str -> Option Value} {base : Heap}
theorem tK{t u:TS}{D:Ends}{σ:L2.St}{H:Hp}(h:∀ R:TS,R=u->pF t R D σ H):pF t u D σ H:=h u rfl
theorem ic{t u R:TS}{D:Ends}{σ:L2.St}{H:Hp}(hR:R=pF t u)(h:∀ R':TS,R'=u->pF t R' D σ H):R D σ H:=by subst hR;exact h u rfl
theorem uB{t R:TS}{D:Ends}{σ:L2.St}{H:Hp}(hR:R=t)(h:t D σ H):R D σ H:=by subst hR;exact h
theorem yC{g:TG}{x:V}{tb:TS}{D:Ends}{σ:L2.St}{H:Hp}(h:∀(B:TS) (D':Ends),B=tb->(∀ σ H,D.nx σ H->D'.nx σ H)->g x σ H fun σ2 H2=>B D' σ2 H2):g x σ H fun σ2 H2=>tb D σ2 H2:=h tb D rfl fun _ _ z=>z
theorem Fi:bootBuiltins "ord"=some (.builtin "ord"):=dk
def ou(K:W.Frag):Sp:=fun vs H Q _=>∃ x,vs=[x]/\Known K H x/\Q (.bl (qX x && !vj x)) H
theorem Fe:fU ["thing"] ["thing"] (fD kN):=⟨rfl,rfl,rfl,dk,rfl,dk,dk⟩
seal fM PS PE PT PA PG PI fT fS in
theorem ph{f:Addr}{fd:FuncData}(D:Df K mg "is_whole" kN f fd)(T:Txt mg):fx P w K mg base fE 1 f fd ["thing"] (ou K):=by
 refine D.F.ok Fe (fun vs H Q E h=>?_) (fun cdv A outer s H vs Q E J h=>?_)
 ·obtain⟨x,rfl,_⟩:=h
  rfl
 ·obtain⟨x,rfl,⟨n,I⟩,k⟩:=h
  refine⟨_,fA (fP (nW (gn kx rfl T.isi i9 (eY (pv 0) (eY (jN (v:= .ty "int") rfl T.int zc rfl) fe)))
   (oV (HE (gn kx rfl T.isi i9 (eY (pv 0) (eY (jN (v:= .ty "bool") rfl T.bool zR rfl) fe))))))),?_⟩
  refine⟨_,rfl,x,.ty "int",_,_,rfl,I,.inl ⟨_,rfl,B1 I⟩,_,rfl,?_⟩
  cases hi:qX x with
  | false=>
   rw [hi] at k
   exact fO k
  | true=>
   rw [hi] at k
   refine fY ?_
   exact⟨_,rfl,x,.ty "bool",_,_,rfl,I,.inl ⟨_,rfl,ye I⟩,_,rfl,k⟩
def zW:Sp:=fun vs H Q _=>∃ c:Nat,vs=[.str ⟨#[c]⟩]/\Q (.bl (gZ c)) H
theorem Ia:fU ["sign"] ["sign"] (fD qK):=⟨rfl,rfl,rfl,dk,rfl,dk,dk⟩
theorem IQ(c d:Nat):decide (V.str ⟨#[c]⟩=V.str ⟨#[d]⟩)=decide (c=d):=by
 by_cases h:c=d
 ·subst h;simp
 ·rw [decide_eq_false h]
  exact decide_eq_false fun z=>h (by injection z with z;injection z with z;simpa using z)
theorem zK(c d:Nat):decide (([c]:List Nat) < [d])=decide (c < d):=by
 by_cases h:c < d
 ·rw [decide_eq_true h];exact decide_eq_true (List.Lex.rel h)
 ·rw [decide_eq_false h]
  exact decide_eq_false fun z=>by
   cases z with
   | rel q=>exact h q
   | cons q=>cases q
seal fM PS PE PT PA PG PI fT fS in
theorem Ef{f:Addr}{fd:FuncData}(D:Df K mg "is_text_sign" qK f fd)(T:Txt mg):fx P w K mg base fE 1 f fd ["sign"] zW:=by
 obtain⟨tp,cp⟩:=T.cPer
 refine D.F.ok Ia (fun vs H Q E h=>?_) (fun cdv A outer s H vs Q E hr h=>?_)
 ·obtain⟨c,rfl,_⟩:=h
  rfl
 ·obtain⟨c,rfl,k⟩:=h
  refine⟨_,fA (fP (DI (j1 je (pv 0) gd (f9 _)) (oV (nW (HI yS yS gd (pv 0) gd)
   (oV (j1 qL (gn DA rfl T.ord Fi (eY (pv 0) fe)) (iY (v:= .int 37) rfl cp ⟨_,rfl⟩) (f9 _))))))),?_⟩
  refine⟨_,rfl,rfl,_,rfl,?_⟩
  have J:decide (V.str ⟨#[c]⟩=V.str (Str.ofString "\n"))=decide (c=10):=IQ c 10
  rw [J]
  unfold gZ at k
  by_cases I:c=10
  ·rw [decide_eq_true I] at k ⊢
   exact fY k
  ·rw [decide_eq_false I] at k ⊢
   refine fO ?_
   refine⟨_,rfl,_,_,rfl,rfl,_,rfl,?_⟩
   have ab:(!decide ((⟨#[c]⟩:Str).cps.toList < (Str.ofString " ").cps.toList))=decide (32<=c):=by
    show(!decide (([c]:List Nat) < [32]))=_
    rw [zK]
    by_cases h:c < 32
    ·rw [decide_eq_true h,decide_eq_false (by(clear I J cp;omega))];rfl
    ·rw [decide_eq_false h,decide_eq_true (by(clear I J cp;omega))];rfl
   rw [ab]
   by_cases U:32<=c
   ·rw [decide_eq_true U] at k ⊢
    refine fY ⟨_,_,rfl,rfl,_,rfl,?_⟩
    have ae:(!decide ((Str.ofString "~").cps.toList < (⟨#[c]⟩:Str).cps.toList))=decide (c<=126):=by
     show(!decide (([126]:List Nat) < [c]))=_
     rw [zK]
     by_cases h:126 < c
     ·rw [decide_eq_true h,decide_eq_false (by(clear U ab I J cp;omega))];rfl
     ·rw [decide_eq_false h,decide_eq_true (by(clear U ab I J cp;omega))];rfl
    rw [ae]
    by_cases aa:c<=126
    ·rw [decide_eq_true aa] at k ⊢
     refine fY ⟨_,rfl,_,rfl,rfl,rfl,?_⟩
     have af:decide (V.int (((⟨#[c]⟩:Str).cps.getD 0 0:Nat):Int)=V.int 37)=decide (c=37):=by
      rw [vE]
      by_cases h:c=37
      ·subst h;rfl
      ·rw [decide_eq_false h]
       exact beq_eq_false_iff_ne.mpr fun z=>h (by have z':((c:Nat):Int)=37:=z;(clear z h aa ae U ab I J cp;omega))
     rw [af]
     exact k
    ·rw [decide_eq_false aa] at k ⊢
     exact fO k
   ·rw [decide_eq_false U] at k ⊢
    exact fO ⟨_,rfl,fO k⟩
theorem str_len(z:Str):z.cps.toList.length=z.length:=by simp [Str.length]
theorem xB{z:Str}{i c:Nat}(h:z.cps[i]? =some c):z.cps.toList[i]? =some c:=by simpa using h
theorem yI:(["sign"]:List Str).Nodup:=dk
def wU(K:W.Frag):Sp:=fun vs H Q _=>∃ x,vs=[x]/\Known K H x/\jq x/\∀ H',eZ H H'->Q (.bl (gq x)) H'
theorem Co:fU ["thing"] ["thing"] (fD ow):=⟨rfl,rfl,rfl,dk,rfl,dk,dk⟩
theorem Ey{x:V}(h:oP x=false):gq x=false:=by cases x<;>first | rfl | cases h
theorem HM{x:V}{m:Nat}(h:oP x=false):fZ m x=false:=by cases x<;>first | rfl | cases h
theorem isStr{x:V}(h:oP x=true):∃ z,x= .str z:=by cases x<;>first | exact⟨_,rfl⟩ | cases h
seal fM PS PE PT PA PG PI fT fS in
theorem E2{f fs:Addr}{fd fds:FuncData}(D:Df K mg "is_text" ow f fd)(DS:Df K mg "is_text_sign" qK fs fds)(T:Txt mg):fx P w K mg base fE 2 f fd ["thing"] (wU K):=by
 obtain⟨tc,I⟩:=T.cText
 have GS:fx P w K mg base fE 1 fs fds ["sign"] zW:=Ef DS T
 have bS:=gu (p:="sign") DS.F fun _ _ _ _ _ _ _=>rfl
 refine D.F.ok Co (fun vs H Q E h=>?_) (fun cdv A outer s H vs Q E hr h=>?_)
 ·obtain⟨x,rfl,_⟩:=h
  rfl
 ·obtain⟨x,rfl,⟨n,J⟩,U,k⟩:=h
  refine⟨_,fq (gj (PW.pt (jr (hJ (gT (gn kx rfl T.isi i9 (eY (pv 0) (eY (jN (v:= .ty "str") rfl T.str xn rfl) fe)))))
    (kf (gi ju (gn vb rfl T.len g9 (eY (pv 0) fe)) (iY (v:= .int 2000) rfl I ⟨_,rfl⟩) (f9 _))))) (fA (fP iG)) gh)
   (fA (fP (gn (vn rfl) rfl T.all vD (eY (il (own:=1) (caps:=[]) (N:=["sign"]) (N0:=["thing"]) (sc0:=fD ow) rfl (zP (pv 0))
    (fun _ _ _=>fR (i:=0) yI rfl (Or.inl rfl)) (fun _ _ _=>iL)
    (fun _ _ _=>fN GS hr rfl DS.m DS.F.kp bS .nil fL (eY (pv 0) fe)) (gY (by decide)) rfl rfl
    dk rfl dk dk rfl dk) fe)))),?_⟩
  refine⟨_,rfl,x,.ty "str",_,_,rfl,J,.inl ⟨_,rfl,Aj J⟩,_,rfl,?_⟩
  cases hx:oP x with
  | false=>
   refine fY (fY ?_)
   have:=k H (eZ.refl H)
   rw [Ey hx] at this
   exact this
  | true=>
   obtain⟨z,rfl⟩:=isStr hx
   have hz:=U z rfl
   have hl:(sizeLine:Nat)=16777216:=sizeLine_eq
   refine fO ?_
   refine⟨_,rfl,z,rfl,by(clear hx I;omega),_,_,rfl,rfl,_,rfl,?_⟩
   by_cases hlen:(2000:Int) < (z.length:Int)
   ·rw [decide_eq_true hlen]
    refine fY ?_
    have:=k H (eZ.refl H)
    have e:gq (.str z)=false:=by
     show(decide (z.length<=2000) && _)=false
     rw [decide_eq_false (by(clear hl hz hx I;omega)),Bool.false_and]
    rw [e] at this
    exact this
   ·rw [decide_eq_false hlen]
    refine fO ?_
    have sz:z.cps.size=z.length:=rfl
    refine⟨_,rfl,z,rfl,Ar (x:=z) (fun i ys H'=>eZ H H'/\ys=((z.cps.toList.take i).map fun c=>V.bl (gZ c))) (by(clear hlen hx I;omega)) ⟨eZ.refl H,rfl⟩ ?_ ?_⟩
    ·rintro i c ys H' N hc ⟨sm,rfl⟩ hN
     refine g1 ?_
     refine⟨_,rfl,c,rfl,hN _ _ ⟨sm,?_⟩⟩
     rw [List.take_add_one,xB hc,List.map_append]
     rfl
    ·rintro ys H' ⟨sm,rfl⟩ _ p hp
     refine⟨p,z.cps.toList.map gZ,rfl,fj.of (by rw [fv,List.take_of_length_le (by simp)];simp),?_⟩
     have:=k (upd H' p (.lst ((z.cps.toList.take z.cps.size).map fun c=>V.bl (gZ c)))) (eZ.upd sm hp)
     have e:gq (.str z)=(z.cps.toList.map gZ).all id:=by
      show(decide (z.length<=2000) && _)=_
      rw [decide_eq_true (by(clear hp sz hl hz hx I;omega)),Bool.true_and,List.all_map]
      rfl
     rw [e] at this
     exact this
def wx(K:W.Frag):Sp:=fun vs H Q _=>∃(x:V) (m:Nat),vs=[x,.int m]/\Known K H x/\jq x/\∀ H',eZ H H'->Q (.bl (fZ m x)) H'
theorem Dv:fU ["thing","most"] ["thing","most"] (fD nk):=⟨rfl,rfl,rfl,dk,rfl,dk,dk⟩
theorem IK{f g:Nat->Bool}(h:∀ c,c < 128->f c=g c)(hf:∀ c,f c=true->c < 128)(hg:∀ c,g c=true->c < 128)(c:Nat):f c=g c:=by
 by_cases I:c < 128
 ·exact h c I
 ·cases ef:f c with
  | true=>exact absurd (hf c ef) I
  | false=>
   cases eg:g c with
   | true=>exact absurd (hg c eg) I
   | false=>rfl
theorem IC{l:List Nat}(h:l.all (fun x=>decide (x < 128))=true)(c:Nat)(e:decide (c∈l)=true):c < 128:=of_decide_eq_true (List.all_eq_true.mp h c (of_decide_eq_true e))
abbrev iq:Str:=Str.ofString "abcdefghijklmnopqrstuvwxyz0123456789"
theorem DX:∀ c:Nat,decide (c∈iq.cps.toList)=gc c:=IK dk (IC dk) fun c h=>ko h
theorem yQ(c:Nat):(!(Builtin.Str.occurrences (Str.ofString "abcdefghijklmnopqrstuvwxyz0123456789") ⟨#[c]⟩ 0 (Str.ofString "abcdefghijklmnopqrstuvwxyz0123456789").length 1).isEmpty)=gc c:=by
 rw [PySem.StrLaws.found_one]
 exact DX c
seal fM PS PE PT PA PG PI fT fS in
theorem xH{f:Addr}{fd:FuncData}(D:Df K mg "is_small_row" nk f fd)(T:Txt mg):fx P w K mg base fE 1 f fd ["thing","most"] (wx K):=by
 obtain⟨tc,J⟩:=T.cSmall
 refine D.F.ok Dv (fun vs H Q E h=>?_) (fun cdv A outer s H vs Q E hr h=>?_)
 ·obtain⟨x,m,rfl,_⟩:=h
  rfl
 ·obtain⟨x,m,rfl,⟨n,aa⟩,ab,k⟩:=h
  refine⟨_,fq (gj (PW.pt (jr (hJ (gT (gn kx rfl T.isi i9 (eY (pv 0) (eY (jN (v:= .ty "str") rfl T.str xn rfl) fe)))))
    (jr (gi lB (gn vb rfl T.len g9 (eY (pv 0) fe)) fy (f9 _))
    (kf (gi ju (gn vb rfl T.len g9 (eY (pv 0) fe)) (pv 1) (f9 _)))))) (fA (fP iG)) gh)
   (fA (fP (gn (vn rfl) rfl T.all vD (eY (il (own:=1) (caps:=[]) (N:=["sign"]) (N0:=["thing","most"]) (sc0:=fD nk) rfl (zP (pv 0))
    (fun _ _ _=>fR (i:=0) yI rfl (Or.inl rfl)) (fun _ _ _=>iL)
    (fun _ _ _=>j1 AD (pv 0) (iY (v:= .str (Str.ofString "abcdefghijklmnopqrstuvwxyz0123456789")) rfl J ⟨_,rfl⟩) rfl) (gY (by decide)) rfl rfl
    dk rfl dk dk rfl dk) fe)))),?_⟩
  refine⟨_,rfl,x,.ty "str",_,_,rfl,aa,.inl ⟨_,rfl,Aj aa⟩,_,rfl,?_⟩
  have U:=k H (eZ.refl H)
  cases hx:oP x with
  | false=>
   rw [HM hx] at U
   exact fY (fY U)
  | true=>
   obtain⟨z,rfl⟩:=isStr hx
   have hz:=ab z rfl
   have hl:(sizeLine:Nat)=16777216:=sizeLine_eq
   have I:fZ m (.str z)=(decide (1<=z.length) && decide (z.length<=m) && z.cps.toList.all gc):=rfl
   refine fO ?_
   refine⟨_,rfl,z,rfl,by(clear I hx J;omega),_,_,rfl,rfl,_,rfl,?_⟩
   by_cases h1:(z.length:Int) < 1
   ·rw [decide_eq_true h1]
    rw [I,decide_eq_false (by(clear I hl hz hx J;omega)),Bool.false_and,Bool.false_and] at U
    exact fY (fY U)
   ·rw [decide_eq_false h1]
    refine fO ⟨_,rfl,z,rfl,by(clear h1 I hx J;omega),_,rfl,_,_,rfl,rfl,_,rfl,?_⟩
    by_cases hlen:(m:Int) < (z.length:Int)
    ·rw [decide_eq_true hlen]
     rw [I,decide_eq_false (show ¬ z.length<=m by(clear h1 I hl hz hx J;omega)),Bool.and_false,Bool.false_and] at U
     exact fY U
    ·rw [decide_eq_false hlen]
     refine fO ?_
     have sz:z.cps.size=z.length:=rfl
     refine⟨_,rfl,z,rfl,Ar (x:=z) (fun i ys H'=>eZ H H'/\ys=((z.cps.toList.take i).map fun c=>V.bl (gc c))) (by(clear hlen h1 I hx J;omega)) ⟨eZ.refl H,rfl⟩ ?_ ?_⟩
     ·rintro i c ys H' N hc ⟨sm,rfl⟩ hN
      refine g1 ?_
      refine⟨_,rfl,_,_,rfl,rfl,hN _ _ ⟨sm,?_⟩⟩
      rw [yQ,List.take_add_one,xB hc,List.map_append]
      rfl
     ·rintro ys H' ⟨sm,rfl⟩ _ p hp
      refine⟨p,z.cps.toList.map gc,rfl,fj.of (by rw [fv,List.take_of_length_le (by simp)];simp),?_⟩
      have:=k (upd H' p (.lst ((z.cps.toList.take z.cps.size).map fun c=>V.bl (gc c)))) (eZ.upd sm hp)
      have e:fZ m (.str z)=(z.cps.toList.map gc).all id:=by
       rw [I,decide_eq_true (by(clear hp sz hlen I hl hz hx J;omega)),decide_eq_true (by(clear hp sz h1 I hl hz hx J;omega)),Bool.true_and,Bool.true_and,List.all_map]
       rfl
      rw [e] at this
      exact this
def oW(K:W.Frag)(m:Nat):Sp:=fun vs H Q _=>∃ x,vs=[x]/\Known K H x/\jq x/\∀ H',eZ H H'->Q (.bl (fZ m x)) H'
theorem Gz:fU ["thing"] ["thing"] (fD mX):=⟨rfl,rfl,rfl,dk,rfl,dk,dk⟩
theorem Cf:fU ["thing"] ["thing"] (fD p8):=⟨rfl,rfl,rfl,dk,rfl,dk,dk⟩
seal fM PS PE PT PA PG PI fT fS in
theorem CL{f fr:Addr}{fd fdr:FuncData}(D:Df K mg "is_key" mX f fd)(DR:Df K mg "is_small_row" nk fr fdr)(T:Txt mg):fx P w K mg base fE 2 f fd ["thing"] (oW K 12):=by
 obtain⟨tc,J⟩:=T.cKey
 have U:fx P w K mg base fE 1 fr fdr ["thing","most"] (wx K):=xH DR T
 have bR:=DR.F.binds (ps:=["thing","most"]) fun _ _ _ _ _ _ us hl=>ix (fun _ _=>rfl) us hl
 refine D.F.ok Gz (fun vs H Q E h=>?_) (fun cdv A outer s H vs Q E hr h=>?_)
 ·obtain⟨x,rfl,_⟩:=h
  rfl
 ·obtain⟨x,rfl,hk,I,k⟩:=h
  refine⟨_,fA (fP (fN U hr rfl DR.m DR.F.kp bR .nil fL (eY (pv 0) (eY (iY (v:= .int 12) rfl J ⟨_,rfl⟩) fe)))),?_⟩
  exact⟨_,rfl,x,12,rfl,hk,I,k⟩
seal fM PS PE PT PA PG PI fT fS in
theorem D8{f fr:Addr}{fd fdr:FuncData}(D:Df K mg "is_word" p8 f fd)(DR:Df K mg "is_small_row" nk fr fdr)(T:Txt mg):fx P w K mg base fE 2 f fd ["thing"] (oW K 2000):=by
 obtain⟨tc,J⟩:=T.cWord
 have U:fx P w K mg base fE 1 fr fdr ["thing","most"] (wx K):=xH DR T
 have bR:=DR.F.binds (ps:=["thing","most"]) fun _ _ _ _ _ _ us hl=>ix (fun _ _=>rfl) us hl
 refine D.F.ok Cf (fun vs H Q E h=>?_) (fun cdv A outer s H vs Q E hr h=>?_)
 ·obtain⟨x,rfl,_⟩:=h
  rfl
 ·obtain⟨x,rfl,hk,I,k⟩:=h
  refine⟨_,fA (fP (fN U hr rfl DR.m DR.F.kp bR .nil fL (eY (pv 0) (eY (iY (v:= .int 2000) rfl J ⟨_,rfl⟩) fe)))),?_⟩
  exact⟨_,rfl,x,2000,rfl,hk,I,k⟩
def kM(K:W.Frag)(p:V->Bool)(C:Addr):Sp:=fun vs H Q E=>∃ x,vs=[x]/\Known K H x/\jq x/\(p x=true->∀ H',eZ H H'->Q x H')/\(p x=false->∀ H',eZ H H'->E (.ref C) none H')
theorem Fq:fU ["thing"] ["thing"] (fD ni):=⟨rfl,rfl,rfl,dk,rfl,dk,dk⟩
theorem Gs:fU ["thing"] ["thing"] (fD nU):=⟨rfl,rfl,rfl,dk,rfl,dk,dk⟩
theorem Gr:fU ["thing"] ["thing"] (fD oX):=⟨rfl,rfl,rfl,dk,rfl,dk,dk⟩
seal fM PS PE PT PA PG PI fT fS in
theorem Ay{f ft C:Addr}{fd fdt:FuncData}(D:Df K mg "need_text" ni f fd)(DT:Df K mg "is_text" ow ft fdt)(X:Ex K mg "BadText" C)(GT:fx P w K mg base fE 2 ft fdt ["thing"] (wU K)):fx P w K mg base (fQ P w) 3 f fd ["thing"] (kM K gq C):=by
 have U:=gu (p:="thing") DT.F fun _ _ _ _ _ _ _=>rfl
 refine D.F.ok1 Fq (fun vs H Q E h=>?_) (fun cdv A outer s H vs Q E hr h=>?_)
 ·obtain⟨x,rfl,_⟩:=h
  rfl
 ·obtain⟨x,rfl,hk,I,k1,k2⟩:=h
  refine⟨_,fq (gj (hJ (gT (fN GT hr rfl DT.m DT.F.kp U .nil fL (eY (pv 0) fe)))) (fA (ki rfl X.q F.excBase_ValueError dk F.excBase_ValueError rfl X.m (eY gd fe) kg)) gh)
   (fA (fP (pv 0))),?_⟩
  refine⟨_,rfl,x,rfl,hk,I,fun H' J=>⟨_,rfl,?_⟩⟩
  cases hx:gq x with
  | false=>exact fY ⟨by show 1<=sizeLine;decide,k2 hx H' J⟩
  | true=>exact fO ⟨_,rfl,k1 hx H' J⟩
seal fM PS PE PT PA PG PI fT fS in
theorem Hq{f ft C:Addr}{fd fdt:FuncData}(D:Df K mg "need_key" nU f fd)(DT:Df K mg "is_key" mX ft fdt)(X:Ex K mg "BadKey" C)(GT:fx P w K mg base fE 2 ft fdt ["thing"] (oW K 12)):fx P w K mg base (fQ P w) 3 f fd ["thing"] (kM K (fZ 12) C):=by
 have U:=gu (p:="thing") DT.F fun _ _ _ _ _ _ _=>rfl
 refine D.F.ok1 Gs (fun vs H Q E h=>?_) (fun cdv A outer s H vs Q E hr h=>?_)
 ·obtain⟨x,rfl,_⟩:=h
  rfl
 ·obtain⟨x,rfl,hk,I,k1,k2⟩:=h
  refine⟨_,fq (gj (hJ (gT (fN GT hr rfl DT.m DT.F.kp U .nil fL (eY (pv 0) fe)))) (fA (ki rfl X.q F.excBase_ValueError dk F.excBase_ValueError rfl X.m (eY gd fe) kg)) gh)
   (fA (fP (pv 0))),?_⟩
  refine⟨_,rfl,x,rfl,hk,I,fun H' J=>⟨_,rfl,?_⟩⟩
  cases hx:fZ 12 x with
  | false=>exact fY ⟨by show 1<=sizeLine;decide,k2 hx H' J⟩
  | true=>exact fO ⟨_,rfl,k1 hx H' J⟩
seal fM PS PE PT PA PG PI fT fS in
theorem C6{f ft C:Addr}{fd fdt:FuncData}(D:Df K mg "need_word" oX f fd)(DT:Df K mg "is_word" p8 ft fdt)(X:Ex K mg "BadWord" C)(GT:fx P w K mg base fE 2 ft fdt ["thing"] (oW K 2000)):fx P w K mg base (fQ P w) 3 f fd ["thing"] (kM K (fZ 2000) C):=by
 have U:=gu (p:="thing") DT.F fun _ _ _ _ _ _ _=>rfl
 refine D.F.ok1 Gr (fun vs H Q E h=>?_) (fun cdv A outer s H vs Q E hr h=>?_)
 ·obtain⟨x,rfl,_⟩:=h
  rfl
 ·obtain⟨x,rfl,hk,I,k1,k2⟩:=h
  refine⟨_,fq (gj (hJ (gT (fN GT hr rfl DT.m DT.F.kp U .nil fL (eY (pv 0) fe)))) (fA (ki rfl X.q F.excBase_ValueError dk F.excBase_ValueError rfl X.m (eY gd fe) kg)) gh)
   (fA (fP (pv 0))),?_⟩
  refine⟨_,rfl,x,rfl,hk,I,fun H' J=>⟨_,rfl,?_⟩⟩
  cases hx:fZ 2000 x with
  | false=>exact fY ⟨by show 1<=sizeLine;decide,k2 hx H' J⟩
  | true=>exact fO ⟨_,rfl,k1 hx H' J⟩
theorem xi:fU ["thing","least","most"] ["thing","least","most"] (fD lO):=⟨rfl,rfl,rfl,dk,rfl,dk,dk⟩
seal fM PS PE PT PA PG PI fT fS in
theorem Iu{f fw C:Addr}{fd fdw:FuncData}(D:iR K mg "need_number" lO f fd #[.none])(DW:Df K mg "is_whole" kN fw fdw)(X:Ex K mg "BadNumber" C)(T:Txt mg):fx P w K mg base (fQ P w) 2 f fd ["thing","least","most"] (uR K C):=by
 have J:fx P w K mg base fE 1 fw fdw ["thing"] (ou K):=ph DW T
 have U:=gu (p:="thing") DW.F fun _ _ _ _ _ _ _=>rfl
 refine D.ok1 xi (fun vs H Q E h=>?_) (fun cdv A outer s H vs Q E hr h=>?_)
 ·obtain⟨x,l,m,rfl,_⟩:=h
  rfl
 ·obtain⟨x,l,m,rfl,hk,k1,k2⟩:=h
  refine⟨_,fq (gj (hJ (gT (fN J hr rfl DW.m DW.F.kp U .nil fL (eY (pv 0) fe)))) (fA (ki rfl X.q F.excBase_ValueError dk F.excBase_ValueError rfl X.m (eY gd fe) kg)) gh)
   (fq (gj (gi lB (pv 0) (pv 1) (f9 _)) (fA (ki rfl X.q F.excBase_ValueError dk F.excBase_ValueError rfl X.m (eY gd fe) kg)) gh)
   (fq (gj (PW.pt (jW (kI (yJ (pv 2))) (kj (gi ju (pv 0) (pv 2) (f9 _))))) (fA (ki rfl X.q F.excBase_ValueError dk F.excBase_ValueError rfl X.m (eY gd fe) kg)) gh)
   (fA (fP (pv 0))))),?_⟩
  refine⟨_,rfl,x,rfl,hk,_,rfl,?_⟩
  cases hx:qX x && !vj x with
  | false=>
   refine fY ⟨by show 1<=sizeLine;decide,k2 ?_⟩
   cases x<;>first | rfl | cases hx
  | true=>
   obtain⟨i,rfl⟩:∃ i,x= .int i:=by cases x<;>first | exact⟨_,rfl⟩ | cases hx
   refine fO ?_
   refine⟨_,rfl,_,rfl,_,_,rfl,rfl,_,rfl,?_⟩
   by_cases I:i < l
   ·rw [decide_eq_true I]
    refine fY ⟨by show 1<=sizeLine;decide,k2 ?_⟩
    show(decide (l<=i) && _)=false
    rw [decide_eq_false (by(clear hx;omega)),Bool.false_and]
   ·rw [decide_eq_false I]
    refine fO ⟨_,rfl,_,rfl,?_⟩
    cases m with
    | none=>
     refine fO (fO ⟨_,rfl,k1 ?_⟩)
     show(decide (l<=i) && true)=true
     rw [decide_eq_true (by(clear hx;omega))];rfl
    | some m=>
     refine fY ⟨_,rfl,_,rfl,_,_,rfl,rfl,_,rfl,?_⟩
     by_cases hm:m < i
     ·rw [decide_eq_true hm]
      refine fY ⟨by show 1<=sizeLine;decide,k2 ?_⟩
      show(decide (l<=i) && decide (i<=m))=false
      rw [decide_eq_false (show ¬ i<=m by(clear I hx;omega)),Bool.and_false]
     ·rw [decide_eq_false hm]
      refine fO ⟨_,rfl,k1 ?_⟩
      show(decide (l<=i) && decide (i<=m))=true
      rw [decide_eq_true (by(clear hm hx;omega)),decide_eq_true (by(clear I hx;omega))];rfl
def pq:Sp:=fun vs H Q _=>∃ n k:Int,vs=[.int n,.int k]/\0<=k/\k<=1000000/\∀ r:Int,0<=r->r < 2147483629->Q (.int r) H
theorem wI:fU ["_law_number_here","_law_k"] ["_law_number_here","_law_k"] (fD lT):=⟨rfl,rfl,rfl,dk,rfl,dk,dk⟩
seal fM PS PE PT PA PG PI fT fS in
theorem sF{f:Addr}{fd:FuncData}(D:Df K mg "_law_mixed" lT f fd):fx P w K mg base fE 1 f fd ["_law_number_here","_law_k"] pq:=by
 refine D.F.ok wI (fun vs H Q E h=>?_) (fun cdv A outer s H vs Q E hr h=>?_)
 ·obtain⟨n,k,rfl,_⟩:=h
  rfl
 ·obtain⟨n,k,rfl,h0,h1,U⟩:=h
  refine⟨_,fq (fG (i:=0) wI.nd rfl (Or.inl rfl) (fF gF (fF kH (fF gy (fF gy (fF gF (pv 0) fy) (fF kH (fF kH fy (pv 1)) (pv 1))) (fF kH fy (pv 1))) fy) fy))
   (fA (fP (fF gF (fF kH (pv 0) (fF gy fy (fF kH fy (pv 1)))) fy))),?_⟩
  refine⟨_,rfl,_,_,rfl,rfl,(by show(0:Int) < 2147483647;decide),_,rfl,_,_,rfl,rfl,.inl ⟨by decide,by decide⟩,_,rfl,_,_,rfl,rfl,.inr ⟨by(clear h1;omega),by(clear h0;omega)⟩,_,_,rfl,rfl,_,rfl,_,_,rfl,rfl,.inl ⟨by decide,by decide⟩,_,_,rfl,rfl,
   _,_,rfl,rfl,.inr ⟨by decide,by decide⟩,_,_,rfl,rfl,(by show(0:Int) < 2147483647;decide),?_⟩
  have I:=Int.emod_nonneg ((n % 2147483647 + 7919 * k * k + 31 * k) * 48271) (show(2147483647:Int)≠0 by decide)
  have J:=Int.emod_lt_of_pos ((n % 2147483647 + 7919 * k * k + 31 * k) * 48271) (show(0:Int) < 2147483647 by decide)
  refine⟨_,rfl,_,rfl,_,_,rfl,rfl,.inl ⟨by decide,by decide⟩,_,_,rfl,rfl,_,_,rfl,rfl,.inl ⟨by(clear J I h1 h0;omega),by(clear J I h1 h0;omega)⟩,_,_,rfl,rfl,(by show(0:Int) < 2147483629;decide),?_⟩
  exact U _ (Int.emod_nonneg _ (by decide)) (Int.emod_lt_of_pos _ (by decide))
def tF(K:W.Frag):Sp:=fun vs H Q _=>∃(a:Addr) (ns:List Int) (k:Nat),vs=[.ref a,.int k]/\fj K H a (ns.map V.int)/\ns.length<=63/\k<=1000/\∀(r:Int) H',0<=r->r < 2147483629->eZ H H'->Q (.int r) H'
theorem HX:fU ["_law_script","_law_k"] ["_law_script","_law_k"] (fD ny):=⟨rfl,rfl,rfl,dk,rfl,dk,dk⟩
seal fM PS PE PT PA PG PI fT fS in
theorem A3{f fm:Addr}{fd fdm:FuncData}(D:Df K mg "_law_number" ny f fd)(DM:Df K mg "_law_mixed" lT fm fdm)(T:Txt mg):fx P w K mg base fE 2 f fd ["_law_script","_law_k"] (tF K):=by
 have GM:fx P w K mg base fE 1 fm fdm ["_law_number_here","_law_k"] pq:=sF DM
 have bM:=DM.F.binds (ps:=["_law_number_here","_law_k"]) fun _ _ _ _ _ _ us J=>ix (fun _ _=>rfl) us J
 refine D.F.ok HX (fun vs H Q E h=>?_) (fun cdv A outer s H vs Q E hr h=>?_)
 ·obtain⟨a,ns,k,rfl,_⟩:=h
  rfl
 ·obtain⟨a,ns,k,rfl,hS,J,hk,kk⟩:=h
  refine⟨_,fq (gj (gi (qi hr.units100) (pv 0) (gf fe) (f9 _)) (fA (fP (fN GM hr rfl DM.m DM.F.kp bM .nil fL (eY fy (eY (pv 1) fe))))) gh)
   (fA (fP (fN GM hr rfl DM.m DM.F.kp bM .nil fL (eY (gA g6 (pv 0) (fF gF (pv 1) (gn iE rfl T.len g9 (eY (pv 0) fe))) (fun _ _=>rfl)) (eY (pv 1) fe))))),?_⟩
  refine⟨_,rfl,Nat.zero_le _,fun p U=>?_⟩
  have sm:eZ H (upd H p (.lst [])):=fC U
  refine⟨.list (ns.map .int),.list [],.lst (sm.seq hS) (xy ns),.lst (fj.of fv) .nil,lay_ints ns,rfl,Nat.le_trans (Nat.min_le_right _ _) (by decide),_,rfl,?_⟩
  cases ns with
  | nil=>
   refine fY ?_
   exact⟨_,rfl,17,k,rfl,by(clear J U hk;omega),by(clear J U;omega),fun r r0 r1=>kk r _ r0 r1 sm⟩
  | cons n ns=>
   refine fO ?_
   have hn:(0:Int) < (((n::ns).map V.int).length:Nat):=by simp
   refine⟨_,rfl,_,rfl,_,rfl,_,_,rfl,.inl (sm.seq hS),_,_,rfl,rfl,hn,?_⟩
   have I:k % (n::ns).length < (n::ns).length:=Nat.mod_lt _ (by simp)
   have ei:((k:Nat):Int) % ((((n::ns).map V.int).length:Nat):Int)=((k % (n::ns).length:Nat):Int):=by rw [List.length_map];(clear I hn J U hk;omega)
   refine⟨a,_,_,.int ((n::ns)[k % (n::ns).length]),rfl,rfl,sm.seq hS,?_,_,rfl,_,k,rfl,by(clear ei I hn J U hk;omega),by(clear ei I hn J U;omega),fun r r0 r1=>kk r _ r0 r1 sm⟩
   rw [ei]
   exact gR (by rw [List.getElem?_map,List.getElem?_eq_getElem I];rfl)
def pV(x:Wd):HO:= .tup [.str ⟨x.1.toArray⟩,.int x.2.1,.int x.2.2]
structure WL (H : Hp) (a : Addr) (ws : List Wd) : Prop where
 ex : ∃ ps : List Addr, H a = some (.lst (ps.map V.ref)) /\ Paired (fun p x => H p = some (pV x)) ps ws
theorem WL.same {H H':Hp}{a:Addr}{ws:List Wd}(h:WL H a ws)(s:eZ H H'):WL H' a ws:=by
 obtain⟨ps,e,p⟩:=h.ex
 exact⟨ps,s _ _ e,Paired.imp2 p fun _ _ q=>s _ _ q⟩
theorem WL.more {H:Hp}{a t:Addr}{ws:List Wd}{x:Wd}{ps:List Addr}(e:H a=some (.lst (ps.map V.ref)))(p:Paired (fun p x=>H p=some (pV x)) ps ws)(ht:H t=none):
  WL (upd (upd H t (pV x)) a (.lst (ps.map V.ref++[.ref t]))) a (ws++[x]):=by
 have I:t≠a:=fun z=>by rw [z,e] at ht;cases ht
 refine⟨ps++[t],by rw [fv,List.map_append];rfl,?_⟩
 refine Paired.app (Paired.imp2 p fun q y h=>?_) (by rw [fB I,fv])
 have h1:q≠a:=fun z=>by rw [z,e] at h;cases h
 have h2:q≠t:=fW h ht
 rw [fB h1,fB h2]
 exact h
def codes(x:Str):List Nat:=x.cps.toList
def Drawn(x:Str):Prop:=x.length<=2000/\(codes x).all gZ=true
theorem vV(a b:List Nat):(⟨a.toArray⟩:Str)++⟨b.toArray⟩=⟨(a++b).toArray⟩:=by
 show(⟨a.toArray++b.toArray⟩:Str)=_
 simp
theorem jU(a:List Nat):(⟨a.toArray⟩:Str).length=a.length:=by simp [Str.length]
theorem AV:Str.ofString ""=⟨([]:List Nat).toArray⟩:=rfl
theorem Hn{a b:List Nat}(h:a.length + b.length<=5000):(⟨a.toArray⟩:Str).length + (⟨b.toArray⟩:Str).length<=sizeLine:=by
 rw [jU,jU,sizeLine_eq]
 omega
theorem EW(l:List Nat){a b:Nat}(hab:a<=b)(hb:b<=l.length):Txt.slice ⟨l.toArray⟩ (some (a:Int)) (some (b:Int))=⟨((l.drop a).take (b - a)).toArray⟩:=by
 have h:=PySem.StrLaws.sliceText_nat (⟨l.toArray⟩:Str) hab (by rw [jU];exact hb)
 have e:(⟨l.toArray⟩:Str).cps.toList=l:=by simp
 rw [e] at h
 exact h
theorem GD{z:Str}(h:(codes z).all gZ=true):Txt.lower z=⟨((codes z).map K01.lo).toArray⟩:=by
 rw [lower_ascii fun c I=>rR (List.all_eq_true.mp h c I)]
 show(⟨z.cps.map K01.lo⟩:Str)=_
 congr 1
 unfold codes
 apply Array.toList_inj.mp
 simp
theorem qe{z:Str}(h:gq (.str z)=true):Drawn z:=by
 have h':(decide (z.length<=2000) && z.cps.toList.all gZ)=true:=h
 rw [Bool.and_eq_true] at h'
 exact⟨of_decide_eq_true h'.1,h'.2⟩
theorem FV{z:Str}(h:Drawn z):gq (.str z)=true:=by
 show(decide (z.length<=2000) && z.cps.toList.all gZ)=true
 rw [decide_eq_true h.1,Bool.true_and]
 exact h.2
def wX(K:W.Frag)(C:Addr):Sp:=fun vs H Q E=>∃ x,vs=[x]/\Known K H x/\jq x/\(∀ z,x= .str z->Drawn z->∀ a H',eZ H H'->H a=none->WL H' a (words (codes z))->Q (.ref a) H')/\(gq x=false->∀ H',eZ H H'->E (.ref C) none H')
theorem mZ:fU ["text","small","found","begin","place","sign"] ["text"] (fD ql):=⟨rfl,rfl,rfl,dk,rfl,dk,dk⟩
seal fM PS PE PT PA PG PI fT fS in
theorem Cw{f ft C:Addr}{fd fdt:FuncData}(D:Df K mg "words_in" ql f fd)(DT:Df K mg "need_text" ni ft fdt)(GT:fx P w K mg base (fQ P w) 3 ft fdt ["thing"] (kM K gq C))(T:Txt mg):fx P w K mg base (fQ P w) 4 f fd ["text"] (wX K C):=by
 obtain⟨tc,cc⟩:=T.cSmall
 have bT:=gu (p:="thing") DT.F fun _ _ _ _ _ _ _=>rfl
 refine D.F.ok1 mZ (fun vs H Q E h=>?_) (fun cdv A outer s H vs Q E hr h=>?_)
 ·obtain⟨x,rfl,_⟩:=h
  rfl
 ·obtain⟨x,rfl,hk,aA,k1,k2⟩:=h
  have hl:(sizeLine:Nat)=16777216:=sizeLine_eq
  refine⟨_,fq (fG (i:=1) mZ.nd rfl (Or.inl rfl) (qA F.plainAttrs_str F.slot_str_lower F.type_str_lower Dz (fN GT hr rfl DT.m DT.F.kp bT .nil (jm (E':=E) (fun _ _ _ h=>h)) (eY (pv 0) fe))))
   (fq (fG (i:=2) mZ.nd rfl (Or.inl rfl) (gf fe)) (fq (fG (i:=3) mZ.nd rfl (Or.inl rfl) fy)
   (fq (PS.nox (gO PassesOwn.never rfl (Dd rfl T.enum (eY (fF mw (pv 1) gd) fe)) (jj rfl (gJ (fR (i:=4) mZ.nd rfl (Or.inl rfl)) (gJ (fR (i:=5) mZ.nd rfl (Or.inl rfl)) jh)))
    (fA (gj (gi AW (pv 5) (iY (v:= .str (Str.ofString "abcdefghijklmnopqrstuvwxyz0123456789")) rfl cc ⟨_,rfl⟩) rfl)
     (fq (gj (gi lB (pv 3) (pv 4) (f9 _))
      (fA (gB (gQ F.plainAttrs_list F.slot_list_append F.type_list_append iO (pv 2) (eY (iV (eY (ig ka (pv 1) (g5 (pv 3)) (g5 (pv 4))) (eY (pv 3) (eY (pv 4) fe)))) fe)))) gh)
     (fA (fG (i:=3) mZ.nd rfl (Or.inl rfl) (fF gy (pv 4) fy)))) gh))))
   (fA (fP (pv 2)))))),?_⟩
  refine⟨_,rfl,x,rfl,hk,aA,fun ht H1 s1=>?_,k2⟩
  obtain⟨z,rfl⟩:∃ z,x= .str z:=by cases x<;>first | exact⟨_,rfl⟩ | cases ht
  have hd:=qe ht
  obtain⟨hlen,hok⟩:=id hd
  have J:(codes z).length=z.length:=by unfold codes;simp [Str.length]
  refine⟨rfl,z,rfl,rfl,by(clear J hok ht hl cc;omega),?_⟩
  rw [GD hok]
  refine⟨Nat.zero_le _,fun a ha=>?_⟩
  have ah:H a=none:=s1.free ha
  refine⟨_,rfl,_,_,rfl,rfl,Hn (b:=[32]) (by simp;(clear ah ha hok ht hl cc;omega)),_,rfl,?_⟩
  have ak:(⟨((codes z).map K01.lo).toArray⟩:Str)++Str.ofString " "=⟨((codes z).map K01.lo++[32]).toArray⟩:=vV _ [32]
  rw [ak]
  have U:ie ((codes z).map K01.lo++[32]) 0 []=words (codes z):=um _ 0 []
  have hsz:(⟨((codes z).map K01.lo++[32]).toArray⟩:Str).cps.size=z.length + 1:=by simp [J]
  refine E3 (fun i σ H'=>∃(ds:List Wd) (wd:List Nat) (b:Nat) (v4 v5:Option V),σ=[some (.str z),some (.str ⟨((codes z).map K01.lo).toArray⟩),some (.ref a),some (.int b),v4,v5]/\eZ H H'/\WL H' a ds/\b + wd.length=i/\
    wd=(((codes z).map K01.lo++[32]).drop b).take wd.length/\ds.length<=i/\i<=z.length + 1/\(i=z.length + 1->wd=[])/\ds++ie (((codes z).map K01.lo++[32]).drop i) i wd=words (codes z)) ?_ ?_ ?_
  ·exact⟨[],[],0,none,none,rfl,eZ.upd s1 ha,⟨[],fv,.nil⟩,rfl,rfl,Nat.le_refl _,Nat.zero_le _,fun _=>rfl,U⟩
  ·intro i c σ H' t hc hP ab
   refine yC fun B D' hB ax=>?_
   obtain⟨ds,wd,b,v4,v5,rfl,sm,hW,hb,af,ao,_,aw,heq⟩:=hP
   have ai:i < ((codes z).map K01.lo++[32]).length:=by
    have:i < (⟨((codes z).map K01.lo++[32]).toArray⟩:Str).cps.size:=(Array.getElem?_eq_some_iff.mp hc).1
    simpa using this
   have aj:i < z.length + 1:=by simpa [J] using ai
   have ae:((codes z).map K01.lo++[32])[i]? =some c:=by simpa using hc
   have I:((codes z).map K01.lo++[32]).drop i=c::((codes z).map K01.lo++[32]).drop (i + 1):=by
    rw [List.drop_eq_getElem_cons ai]
    congr 1
    rw [List.getElem?_eq_getElem ai] at ae
    exact Option.some.inj ae
   obtain⟨ps,eA,pA⟩:=hW.ex
   have aa:=Paired.len pA
   have ay:eZ H (upd H' t (.tup [.int i,.str ⟨#[c]⟩])):=eZ.upd sm ab
   have ag:a≠t:=fW eA ab
   refine⟨t,_,rfl,gb.of fv,rfl,_,_,rfl,_,_,rfl,rfl,?_⟩
   refine uB (R:=B) hB ?_
   refine⟨_,rfl,_,_,rfl,rfl,_,rfl,?_⟩
   rw [yQ]
   cases hS:gc c with
   | true=>
    refine fO ?_
    refine ax _ _ ⟨ds,wd++[c],b,_,_,rfl,ay,hW.same (fC ab),by simp;(clear hS ag aa eA I ae aj ai ab heq ao af hc hsz U ak ah ha J hok hlen ht hl cc;omega),?_,by(clear hS ag aa eA I ae aj ai ab heq af hb hc hsz U ak ah ha J hok hlen ht hl cc;omega),by(clear hS ag aa eA I ae ai ab heq ao af hb hc hsz U ak ah ha J hok hlen ht hl cc;omega),fun e=>?_,?_⟩
    ·have hg:(((codes z).map K01.lo++[32]).drop b)[wd.length]? =some c:=by rw [List.getElem?_drop,hb];exact ae
     rw [List.length_append,List.length_singleton,List.take_add_one,<-af,hg]
     rfl
    ·have e':i=((codes z).map K01.lo).length:=by rw [List.length_map,J];(clear hS ag aa eA I ae aj ai ab heq ao af hb hc hsz U ak ah ha J hok hlen ht hl cc;omega)
     rw [e',List.getElem?_append_right (Nat.le_refl _),Nat.sub_self] at ae
     have:c=32:=by simpa using ae.symm
     rw [this] at hS
     exact absurd hS (by decide)
    ·rw [I,mU hS] at heq
     exact heq
   | false=>
    refine fY ?_
    rw [I,mh hS,<-List.append_assoc] at heq
    refine⟨_,rfl,_,rfl,_,_,rfl,rfl,_,rfl,?_⟩
    by_cases au:b < i
    ·rw [decide_eq_true (by(clear hS ag aa eA I ae aj ai ab heq ao af hb hc hsz U ak ah ha J hok hlen ht hl cc;omega))]
     refine fY ?_
     have aq:wd≠[]:=fun e=>by rw [e] at hb;simp at hb;(clear e hS ag aa eA I ae aj ai ab heq ao af hc hsz U ak ah ha J hok hlen ht hl cc;omega)
     refine⟨_,rfl,.inl ⟨rfl,_,fj.of (by rw [fB ag];exact eA)⟩,_,rfl,_,rfl,_,rfl,_,rfl,_,rfl,_,rfl,by rw [jU,List.length_map];(clear aq au hS ag aa eA I ae aj ai ab heq ao af hb hc hsz U ak ah ha hok ht cc;omega),?_⟩
     rw [EW _ (by(clear aq au hS ag aa eA I ae aj ai ab heq ao af hc hsz U ak ah ha J hok hlen ht hl cc;omega)) (by rw [List.length_map];(clear aq au hS ag aa eA I ae ai ab heq ao af hb hc hsz U ak ah ha hok hlen ht hl cc;omega))]
     refine⟨_,rfl,_,rfl,(by show 3<=sizeLine;decide),fun t2 av=>?_⟩
     have ar:a≠t2:=fW (show upd H' t (.tup [.int i,.str ⟨#[c]⟩]) a=some (.lst (ps.map V.ref)) by rw [fB ag];exact eA) av
     refine⟨a,_,_,rfl,rfl,by rw [fB ar,fB ag];exact eA,by simp;(clear ar av aq au hS ag eA I ae aj ai ab heq af hb hc hsz U ak ah ha J hok ht cc;omega),?_⟩
     have ew:((((codes z).map K01.lo).drop b).take (i - b))=wd:=by
      have e1:wd.length=i - b:=by(clear ar av aq au hS ag aa eA I ae aj ai ab heq ao af hc hsz U ak ah ha J hok hlen ht hl cc;omega)
      rw [e1,List.drop_append_of_le_length (by rw [List.length_map];(clear e1 ar av aq au hS ag aa eA I ae ai ab heq ao af hc hsz U ak ah ha hok hlen ht hl cc;omega)),List.take_append_of_le_length (by rw [List.length_drop,List.length_map];(clear e1 ar av aq au hS ag aa eA I ae ai ab heq ao af hb hc hsz U ak ah ha hok hlen ht hl cc;omega))] at af
      exact af.symm
     rw [ew]
     refine⟨_,rfl,_,_,rfl,rfl,?_⟩
     have et:HO.tup [V.str ⟨wd.toArray⟩,V.int (b:Int),V.int (i:Int)]=pV (wd,i - wd.length,i):=by
      unfold pV
      show HO.tup [_,V.int ((b:Nat):Int),_]=HO.tup [_,V.int ((i - wd.length:Nat):Int),_]
      rw [show b=i - wd.length by(clear ew ar av aq au hS ag aa eA I ae aj ai ab heq ao af hc hsz U ak ah ha J hok hlen ht hl cc;omega)]
     rw [et]
     have az:flush i wd=[(wd,i - wd.length,i)]:=by unfold flush;rw [if_neg aq]
     rw [az] at heq
     refine ax _ _ ⟨ds++[(wd,i - wd.length,i)],[],i + 1,_,_,rfl,Hr ay ah av,WL.more (by rw [fB ag];exact eA) (Paired.imp2 pA fun p y q=>by rw [fB (fW q ab)];exact q) av,by simp,by simp,by simp;(clear az et ew ar av aq au hS ag aa eA I ae aj ai ab heq af hb hc hsz U ak ah ha J hok hlen ht hl cc;omega),by(clear az et ew ar av aq au hS ag aa eA I ae ai ab heq ao af hb hc hsz U ak ah ha J hok hlen ht hl cc;omega),fun _=>rfl,heq⟩
    ·rw [decide_eq_false (by(clear hS ag aa eA I ae aj ai ab heq ao af hb hc hsz U ak ah ha J hok hlen ht hl cc;omega))]
     refine fO ?_
     have aq:wd=[]:=List.eq_nil_of_length_eq_zero (by(clear hS ag aa eA I ae aj ai ab heq ao af hc hsz U ak ah ha J hok hlen ht hl cc;omega))
     subst aq
     refine⟨_,rfl,_,_,rfl,rfl,?_⟩
     refine ax _ _ ⟨ds,[],i + 1,_,_,rfl,ay,hW.same (fC ab),by simp,by simp,by(clear heq af hb au hS ag aa eA I ae aj ai ab hc hsz U ak ah ha J hok hlen ht hl cc;omega),by(clear heq af hb au hS ag aa eA I ae ai ab ao hc hsz U ak ah ha J hok hlen ht hl cc;omega),fun _=>rfl,?_⟩
     simpa [flush] using heq
  ·rintro σ H' ⟨ds,wd,b,v4,v5,rfl,sm,hW,hb,af,ao,aB,aw,heq⟩
   rw [hsz] at aw heq
   have aq:=aw rfl
   subst aq
   rw [List.drop_of_length_le (by simp [J])] at heq
   have e:ds=words (codes z):=by simpa [ie,flush] using heq
   subst e
   exact⟨_,rfl,k1 z rfl hd a H' sm ah hW⟩
def pb(ws:List Wd):List V:=ws.map fun x=> .str ⟨x.1.toArray⟩
def xJ(K:W.Frag)(C:Addr):Sp:=fun vs H Q E=>∃ x,vs=[x]/\Known K H x/\jq x/\(∀ z,x= .str z->Drawn z->∀ a H',eZ H H'->H a=none->H' a=some (.lst (pb (words (codes z))))->Q (.ref a) H')/\(gq x=false->∀ H',eZ H H'->E (.ref C) none H')
theorem CD:fU ["text"] ["text"] (fD nZ):=⟨rfl,rfl,rfl,dk,rfl,dk,dk⟩
theorem vp:(["word","begin","end"]:List Str).Nodup:=dk
seal fM PS PE PT PA PG PI fT fS in
theorem Dt{f ft C:Addr}{fd fdt:FuncData}(D:Df K mg "plain_words" nZ f fd)(DT:Df K mg "words_in" ql ft fdt)(GT:fx P w K mg base (fQ P w) 4 ft fdt ["text"] (wX K C)):fx P w K mg base (fQ P w) 5 f fd ["text"] (xJ K C):=by
 have bT:=gu (p:="text") DT.F fun _ _ _ _ _ _ _=>rfl
 refine D.F.ok1 CD (fun vs H Q E h=>?_) (fun cdv A outer s H vs Q E hr h=>?_)
 ·obtain⟨x,rfl,_⟩:=h
  rfl
 ·obtain⟨x,rfl,hk,J,k1,k2⟩:=h
  have hl:(sizeLine:Nat)=16777216:=sizeLine_eq
  refine⟨_,fA (fP (il (own:=3) (caps:=[]) (N:=["word","begin","end"]) (N0:=["text"]) (sc0:=fD nZ) rfl (gK (fN GT hr rfl DT.m DT.F.kp bT .nil (jm (E':=E) (fun _ _ _ h=>h)) (eY (pv 0) fe)))
    (fun _ _ _=>jj (n:=3) rfl (gJ (fR (i:=0) vp rfl (Or.inl rfl)) (gJ (fR (i:=1) vp rfl (Or.inl rfl)) (gJ (fR (i:=2) vp rfl (Or.inl rfl)) jh)))) (fun _ _ _=>iL)
    (fun _ _ _=>pv 0) (qR (k9 (gY (by decide)) (k9 (gY (by decide)) (k9 (gY (by decide)) rT)))) rfl rfl
    dk rfl dk dk rfl dk)),?_⟩
  refine⟨_,rfl,x,rfl,hk,J,?_,k2⟩
  rintro z rfl hd a H1 s1 ha hW
  obtain⟨ps,eA,pA⟩:=hW.ex
  have aa:=Bz (codes z)
  have af:=Paired.len pA
  have U:(codes z).length=z.length:=by unfold codes;simp [Str.length]
  have ab:=hd.1
  refine⟨a,rfl,⟨_,fj.of eA⟩,jk (xs:=ps.map V.ref) (fun i ys H'=>H'=H1/\ys=pb ((words (codes z)).take i)) (by rw [List.length_map];(clear eA ha;omega)) (fun i ys H' p=>by rw [p.1];exact fj.of eA) ⟨rfl,rfl⟩ ?_ ?_⟩
  ·rintro i x ys H' N hx ⟨rfl,rfl⟩ hN
   rw [List.getElem?_map] at hx
   cases I:ps[i]? with
   | none=>rw [I] at hx;cases hx
   | some p=>
    rw [I] at hx
    have ae:x= .ref p:=(Option.some.inj hx).symm
    subst ae
    obtain⟨y,hy,hH⟩:=gW pA I
    refine⟨p,_,rfl,gb.of hH,rfl,_,_,rfl,_,_,rfl,_,_,rfl,rfl,sW ?_⟩
    refine⟨_,rfl,hN _ _ ⟨rfl,?_⟩⟩
    unfold pb
    rw [List.take_add_one,hy,List.map_append]
    rfl
  ·rintro ys H' ⟨rfl,rfl⟩ _ p I
   refine k1 z rfl hd p _ (eZ.upd s1 I) (s1.free I) ?_
   rw [fv,List.length_map,List.take_of_length_le (by(clear I eA ab U aa ha hl;omega))]
abbrev nl(ns:List Nat):List V:=ns.map fun(n:Nat)=>V.int (n:Int)
theorem jx(a b:List Nat):nl (a++b)=nl a++nl b:=List.map_append
theorem ia(a:List Nat):(nl a).length=a.length:=List.length_map _
def xE:Sp:=fun vs H Q _=>∃(a:Addr) (ps:List Nat),vs=[.ref a]/\H a=some (.lst (nl ps))/\(∀ p∈ps,p<=255)/\Q (.ref a) H
theorem xc:fU ["thing","part"] ["thing"] (fD qc):=⟨rfl,rfl,rfl,dk,rfl,dk,dk⟩
theorem si{H:Hp}(n:Int):Known K H (.int n):=⟨_,.int n⟩
theorem lR{ns:List Nat}{i:Nat}{x:V}(h:(nl ns)[i]? =some x):∃ c,ns[i]? =some c/\x= .int (c:Int):=by
 unfold nl at h
 rw [List.getElem?_map] at h
 cases hp:ns[i]? with
 | none=>rw [hp] at h;cases h
 | some c=>rw [hp] at h;exact⟨c,rfl,(Option.some.inj h).symm⟩
seal fM PS PE PT PA PG PI fT fS in
theorem DF{f fw:Addr}{fd fdw:FuncData}(D:Df K mg "need_parts" qc f fd)(DW:Df K mg "is_whole" kN fw fdw)(T:Txt mg):fx P w K mg base fE 2 f fd ["thing"] xE:=by
 obtain⟨tg,cg⟩:=T.cGreat
 have GW:fx P w K mg base fE 1 fw fdw ["thing"] (ou K):=ph DW T
 have bW:=gu (p:="thing") DW.F fun _ _ _ _ _ _ _=>rfl
 refine D.F.ok xc (fun vs H Q E h=>?_) (fun cdv A outer s H vs Q E hr h=>?_)
 ·obtain⟨a,ps,rfl,_⟩:=h
  rfl
 ·obtain⟨a,ps,rfl,I,J,k⟩:=h
  refine⟨_,fq (gj (hJ (gT (gn kx rfl T.isi i9 (eY (pv 0) (eY (jN (v:= .ty "list") rfl T.list kZ rfl) fe))))) (fA jR) gh)
   (fq (gO PassesOwn.never rfl (gK (pv 0)) (fR (i:=1) xc.nd rfl (Or.inl rfl))
    (fA (gj (PW.pt (jr (hJ (gT (fN GW hr rfl DW.m DW.F.kp bW .nil fL (eY (pv 1) fe)))) (jr (gi lB (pv 1) fy (f9 _)) (kf (gi ju (pv 1) (iY (v:= .int 255) rfl cg ⟨_,rfl⟩) (f9 _)))))) (fA jR) gh)))
   (fA (fP (pv 0)))),?_⟩
  refine⟨_,rfl,.ref a,.ty "list",_,true,rfl,.lst I,.inl ⟨_,rfl,qW⟩,_,rfl,fO ?_⟩
  refine⟨_,rfl,a,rfl,⟨_,fj.of I⟩,?_⟩
  refine jl (xs:=nl ps) (fun i σ H'=>H'=H/\∃ o,σ=[some (.ref a),o]) ?_ ?_ ?_ ?_
  ·exact⟨rfl,none,rfl⟩
  ·rintro i σ H' _ ⟨rfl,_⟩
   exact fj.of I
  ·rintro i x σ H' U ⟨rfl,o,rfl⟩
   obtain⟨c,hc,rfl⟩:=lR U
   have aa:=J c (List.mem_of_getElem? hc)
   refine⟨_,rfl,.int c,rfl,si _,_,rfl,fO ?_⟩
   refine⟨_,rfl,_,_,rfl,rfl,_,rfl,?_⟩
   rw [decide_eq_false (by omega)]
   refine fO ⟨_,rfl,_,_,rfl,rfl,_,rfl,?_⟩
   rw [decide_eq_false (by omega)]
   exact fO ⟨rfl,_,rfl⟩
  ·rintro σ H' ⟨rfl,o,rfl⟩
   exact⟨_,rfl,k⟩
def zj:Sp:=fun vs H Q _=>∃(a:Addr) (ns:List Nat),vs=[.ref a]/\H a=some (.lst (nl (pk ns)))/\ns.length<=9000/\∀ p H',eZ H H'->H p=none->H' p=some (.lst (nl ns))->Q (.ref p) H'
theorem lb:fU ["parts","numbers","number","weight","part"] ["parts"] (fD qC):=⟨rfl,rfl,rfl,dk,rfl,dk,dk⟩
seal fM PS PE PT PA PG PI fT fS in
theorem Io{f fp:Addr}{fd fdp:FuncData}(D:Df K mg "unpacked" qC f fd)(DP:Df K mg "need_parts" qc fp fdp)(GP:fx P w K mg base fE 2 fp fdp ["thing"] xE)(T:Txt mg):fx P w K mg base fE 3 f fd ["parts"] zj:=by
 obtain⟨tm,cm⟩:=T.cMore
 have bP:=gu (p:="thing") DP.F fun _ _ _ _ _ _ _=>rfl
 refine D.F.ok lb (fun vs H Q E h=>?_) (fun cdv A outer s H vs Q E hr h=>?_)
 ·obtain⟨a,ns,rfl,_⟩:=h
  rfl
 ·obtain⟨a,ns,rfl,hA,hlen,k⟩:=h
  have hl:(sizeLine:Nat)=16777216:=sizeLine_eq
  refine⟨_,fq (fG (i:=1) lb.nd rfl (Or.inl rfl) (gf fe))
   (fq (fG (i:=2) lb.nd rfl (Or.inl rfl) fy)
   (fq (fG (i:=3) lb.nd rfl (Or.inl rfl) fy)
   (fq (gO PassesOwn.never rfl (gK (fN GP hr rfl DP.m DP.F.kp bP .nil fL (eY (pv 0) fe))) (fR (i:=4) lb.nd rfl (Or.inl rfl))
    (fq (tP (i:=2) lb.nd rfl (Or.inl rfl) (fF kH (fF gF (pv 4) (iY (v:= .int 128) rfl cm ⟨_,rfl⟩)) (pv 3)) y0)
    (fA (gj (gi sS (pv 4) (iY (v:= .int 128) rfl cm ⟨_,rfl⟩) (f9 _))
     (fA (fG (i:=3) lb.nd rfl (Or.inl rfl) (fF kH (pv 3) (iY (v:= .int 128) rfl cm ⟨_,rfl⟩))))
     (fq (gj (PW.pt (jW (gi je (pv 4) fy (f9 _)) (kj (gi ju (pv 3) fy (f9 _))))) (fA jR) gh)
     (fq (gB (gQ F.plainAttrs_list F.slot_list_append F.type_list_append iO (pv 1) (eY (pv 2) fe)))
     (fq (fG (i:=2) lb.nd rfl (Or.inl rfl) fy)
     (fA (fG (i:=3) lb.nd rfl (Or.inl rfl) fy)))))))))
   (fq (gj (gi ju (pv 3) fy (f9 _)) (fA jR) gh)
   (fA (fP (pv 1))))))),?_⟩
  refine⟨(by show 0<=sizeLine;decide),fun p hp=>?_⟩
  have U:a≠p:=fW hA hp
  refine⟨_,rfl,a,pk ns,rfl,(by rw [fB U];exact hA),Fj ns,a,rfl,⟨_,fj.of (by rw [fB U];exact hA)⟩,?_⟩
  refine jl (xs:=nl (pk ns)) (fun i σ H'=>∃(done:List Nat) (num I:Nat) (o:Option V),σ=[some (.ref a),some (.ref p),some (.int num),some (.int I),o]/\H'=upd H p (.lst (nl done))/\Rd ns ((pk ns).drop i) done num I) ?_ ?_ ?_ ?_
  ·exact⟨[],0,1,none,rfl,rfl,Rd.start ns⟩
  ·rintro i σ H' _ ⟨done,num,I,o,_,rfl,_⟩
   exact fj.of (by rw [fB U];exact hA)
  ·rintro i x σ H' ab ⟨done,num,I,o,rfl,rfl,hR⟩
   obtain⟨c,hc,rfl⟩:=lR ab
   have hd:(pk ns).drop i=c::(pk ns).drop (i + 1):=by
    obtain⟨hi,e⟩:=List.getElem?_eq_some_iff.mp hc
    rw [List.drop_eq_getElem_cons hi,e]
   rw [hd] at hR
   have af:=hR.len
   have e1:(c:Int) % 128=((c % 128:Nat):Int):=by omega
   refine⟨_,rfl,_,rfl,_,_,rfl,rfl,(by show(0:Int) < 128;decide),_,rfl,_,_,rfl,rfl,.inl (by rw [e1];constructor<;>omega),_,_,rfl,rfl,?_⟩
   have e2:(num:Int) + (c:Int) % 128 * (I:Int)=((num + c % 128 * I:Nat):Int):=by rw [e1,Int.natCast_add,Int.natCast_mul]
   refine⟨_,rfl,_,_,rfl,rfl,_,rfl,?_⟩
   by_cases J:(128:Int)<=c
   ·rw [decide_eq_true J]
    refine fY ?_
    refine⟨_,rfl,_,_,rfl,rfl,.inr ⟨by decide,by decide⟩,done,num + c % 128 * I,I * 128,some (.int c),?_,rfl,hR.more (by omega)⟩
    simp only [List.set]
    rw [e2,Int.natCast_mul]
    rfl
   ·rw [decide_eq_false J]
    refine fO ?_
    obtain⟨hz,aa⟩:=hR.last (c:=c) (by omega)
    refine⟨_,rfl,rfl,_,rfl,?_⟩
    have e3:nl done++[V.int ((num:Int) + (c:Int) % 128 * (I:Int))]=nl (done++[num + c % 128 * I]):=by rw [jx,e2];rfl
    by_cases h0:c=0
    ·rw [A8 (by omega)]
     refine fY ⟨_,rfl,_,_,rfl,rfl,_,rfl,?_⟩
     rw [decide_eq_false (by omega)]
     refine fO ?_
     refine⟨_,rfl,.inl ⟨rfl,_,fj.of fv⟩,_,rfl,p,_,_,rfl,rfl,fv,(by rw [ia];omega),done++[num + c % 128 * I],0,1,_,rfl,?_,aa⟩
     rw [m8]
     exact congrArg (fun z=>upd H p (.lst z)) e3
    ·rw [xR (by omega)]
     refine fO (fO ?_)
     refine⟨_,rfl,.inl ⟨rfl,_,fj.of fv⟩,_,rfl,p,_,_,rfl,rfl,fv,(by rw [ia];omega),done++[num + c % 128 * I],0,1,_,rfl,?_,aa⟩
     rw [m8]
     exact congrArg (fun z=>upd H p (.lst z)) e3
  ·rintro σ H' ⟨done,num,I,o,rfl,rfl,hR⟩
   rw [ia,List.drop_length] at hR
   obtain⟨hw,ae⟩:=hR.done
   subst hw ae
   refine⟨_,rfl,_,_,rfl,rfl,_,rfl,?_⟩
   rw [decide_eq_false (by decide)]
   exact fO ⟨_,rfl,k p _ (fC hp) hp fv⟩
theorem C7(n:Nat):(List.replicate n true).all id=true:=List.all_eq_true.mpr fun b hb=>List.eq_of_mem_replicate hb
theorem lP{α:Type}{xs:List α}{i:Nat}{x:α}(h:xs[i]? =some x):xs.drop i=x::xs.drop (i + 1):=by
 obtain⟨hi,e⟩:=List.getElem?_eq_some_iff.mp h
 rw [List.drop_eq_getElem_cons hi,e]
def Gp(ns done:List Nat)(l:Nat)(rest:List Nat):Prop:=g4 0 ns=done++g4 l rest/\jw l rest
theorem Gp.step {ns done:List Nat}{l n:Nat}{r:List Nat}(h:Gp ns done l (n::r)):l<=n/\Gp ns (done++[n - l]) (n + 1) r:=by
 obtain⟨e,h⟩:=h
 refine⟨h.1,?_,h.2⟩
 rw [e,List.append_assoc]
 rfl
def Af:Sp:=fun vs H Q _=>∃(a:Addr) (I:List Nat),vs=[.ref a]/\H a=some (.lst (nl I))/\I.length<=9000/\∀ p H',eZ H H'->H p=none->H' p=some (.lst (nl (nums 0 I)))->Q (.ref p) H'
theorem qz:fU ["gaps","numbers","least","gap"] ["gaps"] (fD pM):=⟨rfl,rfl,rfl,dk,rfl,dk,dk⟩
seal fM PS PE PT PA PG PI fT fS in
theorem AL{f:Addr}{fd:FuncData}(D:Df K mg "numbers_by" pM f fd):fx P w K mg base fE 1 f fd ["gaps"] Af:=by
 refine D.F.ok qz (fun vs H Q E h=>?_) (fun cdv A outer s H vs Q E hr h=>?_)
 ·obtain⟨a,I,rfl,_⟩:=h
  rfl
 ·obtain⟨a,I,rfl,hS,hlen,k⟩:=h
  have hl:(sizeLine:Nat)=16777216:=sizeLine_eq
  refine⟨_,fq (fG (i:=1) qz.nd rfl (Or.inl rfl) (gf fe))
   (fq (fG (i:=2) qz.nd rfl (Or.inl rfl) fy)
   (fq (gO PassesOwn.never rfl (gK (pv 0)) (fR (i:=3) qz.nd rfl (Or.inl rfl))
    (fq (gB (gQ F.plainAttrs_list F.slot_list_append F.type_list_append iO (pv 1) (eY (fF gy (pv 2) (pv 3)) fe)))
    (fA (fG (i:=2) qz.nd rfl (Or.inl rfl) (fF gy (fF gy (pv 2) (pv 3)) fy)))))
   (fA (fP (pv 1))))),?_⟩
  refine⟨(by show 0<=sizeLine;decide),fun p U=>⟨_,rfl,a,rfl,⟨_,fj.of (fC U _ _ hS)⟩,?_⟩⟩
  refine jl (xs:=nl I) (fun i σ H'=>∃(done:List Nat) (l:Nat) (o:Option V),σ=[some (.ref a),some (.ref p),some (.int l),o]/\H'=upd H p (.lst (nl done))/\done.length=i/\nums 0 I=done++nums l (I.drop i)) ?_ ?_ ?_ ?_
  ·exact⟨[],0,none,rfl,rfl,rfl,rfl⟩
  ·rintro i σ H' _ ⟨done,l,o,_,rfl,_⟩
   exact fj.of (fC U _ _ hS)
  ·rintro i x σ H' hx ⟨done,l,o,rfl,rfl,hd,J⟩
   obtain⟨n,hn,rfl⟩:=lR hx
   rw [lP hn] at J
   have aa:=(List.getElem?_eq_some_iff.mp hn).1
   refine⟨_,rfl,.inl ⟨rfl,_,fj.of fv⟩,_,rfl,_,rfl,_,_,rfl,rfl,p,_,_,rfl,rfl,fv,(by rw [ia];omega),?_⟩
   refine⟨_,rfl,_,rfl,_,_,rfl,rfl,_,_,rfl,rfl,done++[l + n],l + n + 1,_,rfl,?_,by rw [List.length_append,hd];rfl,?_⟩
   ·rw [m8,jx]
    rfl
   ·rw [J,List.append_assoc]
    rfl
  ·rintro σ H' ⟨done,l,o,rfl,rfl,hd,J⟩
   rw [ia,List.drop_length] at J
   have e:nums 0 I=done:=by rw [J];exact List.append_nil _
   exact⟨_,rfl,k p _ (fC U) U (by rw [fv,e])⟩
inductive ip (H : Hp) : V -> Pr -> Prop where
 | mk {p t : Addr} {n : Nat} {pl : List Nat} (h : H p = some (.tup [.int (n : Int), .ref t])) (ht : H t = some (.tup (nl pl))) : ip H (.ref p) (n, pl)
theorem ip.same {H H':Hp}{x:V}{r:Pr}(h:ip H x r)(s:eZ H H'):ip H' x r:=by
 cases h with
 | mk h ht=>exact .mk (s _ _ h) (s _ _ ht)
def gC(H:Hp)(a:Addr)(row:List Pr):Prop:=∃ xs,H a=some (.lst xs)/\Paired (ip H) xs row
theorem gC.same {H H':Hp}{a:Addr}{r:List Pr}(h:gC H a r)(s:eZ H H'):gC H' a r:=let ⟨xs,h1,h2⟩:=h;⟨xs,s _ _ h1,Gn.Paired.imp2 h2 fun _ _ q=>q.same s⟩
theorem Jb(A M B:List V):jb (A++(M++B)) (some (A.length:Int)) (some ((A.length + M.length:Nat):Int))=M:=by
 unfold jb
 rw [HT.rN,HT.rN,List.length_append,List.length_append]
 rw [Nat.min_eq_left (by omega),Nat.min_eq_left (by omega),List.drop_left,Nat.add_sub_cancel_left,List.take_left]
theorem D4{α:Type}(A:List α)(x:α)(B:List α):(A++x::B)[A.length]? =some x:=by
 rw [List.getElem?_append_right (Nat.le_refl _),Nat.sub_self]
 rfl
theorem HH{α:Type}(A:List α)(x y:α)(B:List α):(A++x::y::B)[A.length + 1]? =some y:=by
 rw [List.getElem?_append_right (by omega),Nat.add_sub_cancel_left]
 rfl
theorem yN{ns:List Nat}{i c:Nat}(h:ns[i]? =some c):(nl ns)[i]? =some (.int (c:Int)):=by rw [List.getElem?_map,h];rfl
theorem ip.lst {H H4:Hp}{x:V}{r:Pr}{pR:Addr}{ys zs:List V}(h:ip H x r)(s:eZ H H4)(hR:H pR=some (.lst ys)):ip (upd H4 pR (.lst zs)) x r:=by
 cases h with
 | mk h ht=>
  rename_i p t n pl
  refine .mk (t:=t) ?_ ?_
  ·rw [fB (fun z=>by rw [z,hR] at h;cases h)]
   exact s _ _ h
  ·rw [fB (fun z=>by rw [z,hR] at ht;cases ht)]
   exact s _ _ ht
def wH:Sp:=fun vs H Q _=>∃ n:Nat,vs=[.int (n:Int),.int 0,.non]/\Q (.int (n:Int)) H
seal fM PS PE PT PA PG PI fT fS in
theorem G7{f fw:Addr}{fd fdw:FuncData}(D:iR K mg "need_number" lO f fd #[.none])(DW:Df K mg "is_whole" kN fw fdw)(T:Txt mg):fx P w K mg base (fQ P w) 2 f fd ["thing","least","most"] wH:=by
 have I:fx P w K mg base fE 1 fw fdw ["thing"] (ou K):=ph DW T
 have J:=gu (p:="thing") DW.F fun _ _ _ _ _ _ _=>rfl
 refine D.ok1 xi (fun vs H Q E h=>?_) (fun cdv A outer s H vs Q E U h=>?_)
 ·obtain⟨n,rfl,_⟩:=h
  rfl
 ·obtain⟨n,rfl,k⟩:=h
  refine⟨_,fq (gj (hJ (gT (fN I U rfl DW.m DW.F.kp J .nil fL (eY (pv 0) fe)))) (fA jR) gh)
   (fq (gj (gi lB (pv 0) (pv 1) (f9 _)) (fA jR) gh)
   (fq (gj (PW.pt (jW (kI (yJ (pv 2))) (kj (gi ju (pv 0) (pv 2) (f9 _))))) (fA jR) gh)
   (fA (fP (pv 0))))),?_⟩
  refine⟨_,rfl,.int (n:Int),rfl,si _,_,rfl,fO ?_⟩
  refine⟨_,rfl,_,rfl,_,_,rfl,rfl,_,rfl,?_⟩
  rw [decide_eq_false (by omega)]
  exact fO ⟨_,rfl,_,rfl,fO (fO ⟨_,rfl,k⟩)⟩
def z0:Sp:=fun vs H Q _=>∃ n:Nat,vs=[.int n]/\(iM n).length<=9000/\∀ p H',eZ H H'->H p=none->H' p=some (.lst (nl (iM n)))->Q (.ref p) H'
theorem qP:fU ["number","parts","rest"] ["number"] (fD pZ):=⟨rfl,rfl,rfl,dk,rfl,dk,dk⟩
seal fM PS PE PT PA PG PI fT fS in
theorem F8{f:Addr}{fd:FuncData}(D:Df K mg "parts_of_one" pZ f fd)(T:Txt mg):fx P w K mg base fE 1 f fd ["number"] z0:=by
 obtain⟨tm,J⟩:=T.cMore
 refine D.F.ok qP (fun vs H Q E h=>?_) (fun cdv A outer s H vs Q E U h=>?_)
 ·obtain⟨n,rfl,_⟩:=h
  rfl
 ·obtain⟨n,rfl,hn,k⟩:=h
  have hl:(sizeLine:Nat)=16777216:=sizeLine_eq
  refine⟨_,fq (fG (i:=1) qP.nd rfl (Or.inl rfl) (gf fe))
   (fq (fG (i:=2) qP.nd rfl (Or.inl rfl) (pv 0))
   (fq (sh PassesOwn.never (gi sS (pv 2) (iY (v:= .int 128) rfl J ⟨_,rfl⟩) (f9 _))
    (fq (gB (gQ F.plainAttrs_list F.slot_list_append F.type_list_append iO (pv 1) (eY (fF gy (iY (v:= .int 128) rfl J ⟨_,rfl⟩) (fF gF (pv 2) (iY (v:= .int 128) rfl J ⟨_,rfl⟩))) fe)))
    (fA (fG (i:=2) qP.nd rfl (Or.inl rfl) (fF iU (pv 2) (iY (v:= .int 128) rfl J ⟨_,rfl⟩))))))
   (fq (gB (gQ F.plainAttrs_list F.slot_list_append F.type_list_append iO (pv 1) (eY (pv 2) fe)))
   (fA (fP (pv 1)))))),?_⟩
  refine⟨(by show 0<=sizeLine;decide),fun p hp=>⟨_,rfl,?_⟩⟩
  refine rH (fun σ H'=>∃(r:Nat) (ys:List Nat),σ=[some (.int n),some (.ref p),some (.int r)]/\H'=upd H p (.lst (nl ys))/\iM n=ys++iM r) (fun σ _=>match σ with | [_,_,some (.int r)]=>r.toNat | _=>0) ⟨n,[],rfl,rfl,rfl⟩ ?_ ?_
  ·rintro σ H' ⟨r,ys,rfl,rfl,he⟩
   have aa:ys.length<=9000:=by rw [he,List.length_append] at hn;omega
   refine⟨_,rfl,_,_,rfl,rfl,_,rfl,?_⟩
   by_cases U:(128:Int)<=r
   ·rw [decide_eq_true U]
    refine fY ?_
    have I:¬ r < 128:=by omega
    refine⟨_,rfl,.inl ⟨rfl,_,fj.of fv⟩,?_⟩
    refine⟨_,rfl,_,_,rfl,rfl,(by show(0:Int) < 128;decide),_,_,rfl,rfl,p,_,_,rfl,rfl,fv,(by rw [List.length_map];omega),?_⟩
    refine⟨_,rfl,_,_,rfl,rfl,⟨by decide,by decide⟩,?_⟩
    refine⟨⟨r / 128,ys++[128 + r % 128],?_,?_,?_⟩,?_⟩
    ·simp only [List.set]
     have:((r:Int) / 128)=((r / 128:Nat):Int):=by omega
     rw [this]
    ·rw [m8]
     congr 2
     unfold nl
     rw [List.map_append]
     congr 1
    ·rw [he,oi I]
     simp
    ·show((r:Int) / 128).toNat < (r:Int).toNat
     omega
   ·rw [decide_eq_false U]
    refine fO ?_
    have I:r < 128:=by omega
    refine⟨_,rfl,.inl ⟨rfl,_,fj.of fv⟩,_,rfl,p,_,_,rfl,rfl,fv,(by rw [List.length_map];omega),?_⟩
    refine⟨_,rfl,k p _ ?_ hp ?_⟩
    ·rw [m8]
     exact fC hp
    ·rw [fv,he,mV I]
     unfold nl
     rw [List.map_append]
     rfl
  ·intro σ H' Q1 Q2 hq h
   obtain⟨x,h1,i,j,e1,e2,h2⟩:=h
   exact⟨x,h1,i,j,e1,e2,let ⟨b,e,z⟩:=h2;⟨b,e,hq _ _ z⟩⟩
def xu(K:W.Frag):Sp:=fun vs H Q _=>∃(a:Addr) (ns:List Nat),vs=[.ref a]/\fj K H a (nl ns)/\(pk ns).length<=9000/\∀ p H',eZ H H'->H p=none->H' p=some (.lst (nl (pk ns)))->Q (.ref p) H'
theorem uD:fU ["numbers","parts","number"] ["numbers"] (fD pE):=⟨rfl,rfl,rfl,dk,rfl,dk,dk⟩
seal fM PS PE PT PA PG PI fT fS in
theorem C5{f fo fn:Addr}{fd fdo fdn:FuncData}(D:Df K mg "packed" pE f fd)(DO:Df K mg "parts_of_one" pZ fo fdo)(GO:fx P w K mg base fE 1 fo fdo ["number"] z0)
  (DN:iR K mg "need_number" lO fn fdn #[.none])(GN:fx P w K mg base (fQ P w) 2 fn fdn ["thing","least","most"] wH):fx P w K mg base fE 3 f fd ["numbers"] (xu K):=by
 have bO:=gu (p:="number") DO.F fun _ _ _ _ _ _ _=>rfl
 have aa:=DN.binds (ps:=["thing","least","most"]) (ds:=[.none]) fun T kV doc pm an cdv ct us hl=>match us,(show us.length=2 by simpa using hl) with | [_,_],_=>⟨_,rfl,rfl⟩
 refine D.F.ok uD (fun vs H Q E h=>?_) (fun cdv A outer s H vs Q E hr h=>?_)
 ·obtain⟨a,ns,rfl,_⟩:=h
  rfl
 ·obtain⟨a,ns,rfl,hS,ab,k⟩:=h
  have hl:(sizeLine:Nat)=16777216:=sizeLine_eq
  refine⟨_,fq (fG (i:=1) uD.nd rfl (Or.inl rfl) (gf fe))
   (fq (gO PassesOwn.never rfl (gK (pv 0)) (fR (i:=2) uD.nd rfl (Or.inl rfl))
    (fA (gB (gQ F.plainAttrs_list F.slot_list_extend F.type_list_extend qv (pv 1)
     (eY (fN (GO.mono (by decide)) hr rfl DO.m DO.F.kp bO .nil fL (eY (fN GN hr rfl DN.m DN.kp aa (dvs:=[.non]) (.cons rfl .nil) ja (eY (pv 2) (eY fy fe))) fe)) fe)))))
   (fA (fP (pv 1)))),?_⟩
  refine⟨(by show 0<=sizeLine;decide),fun p U=>⟨_,rfl,a,rfl,⟨_,(fC U).seq hS⟩,?_⟩⟩
  refine jl (xs:=nl ns) (fun i σ H'=>∃(o:Option V),σ=[some (.ref a),some (.ref p),o]/\eZ H H'/\H' p=some (.lst (nl (pk (ns.take i))))) ?_ ?_ ?_ ?_
  ·exact⟨none,rfl,fC U,fv⟩
  ·rintro i σ H' _ ⟨o,_,I,_⟩
   exact I.seq hS
  ·rintro i x σ H' ae ⟨o,rfl,I,J⟩
   obtain⟨n,hn,rfl⟩:=lR ae
   have e1:pk (ns.take (i + 1))=pk (ns.take i)++iM n:=by rw [List.take_add_one,hn,x8];exact congrArg _ (HG n)
   have e2:pk ns=pk (ns.take (i + 1))++pk (ns.drop (i + 1)):=by rw [<-x8,List.take_append_drop]
   have hle:(pk (ns.take i)).length + (iM n).length<=9000:=by
    rw [e2,List.length_append,e1,List.length_append] at ab
    omega
   refine⟨_,rfl,.inl ⟨rfl,_,fj.of J⟩,_,rfl,n,rfl,n,rfl,by omega,fun p2 H2 s2 ag af=>?_⟩
   refine⟨p,p2,_,_,rfl,rfl,s2 _ _ J,af,(by rw [ia,ia];omega),_,rfl,fun b u e=>?_,?_⟩
   ·rw [fB (fW e U)]
    exact s2 _ _ (I _ _ e)
   ·rw [fv,e1,jx]
  ·rintro σ H' ⟨o,rfl,I,J⟩
   rw [ia,List.take_length] at J
   exact⟨_,rfl,k p H' I U J⟩
theorem mv:fU ["numbers","least","number"] ["numbers"] (fD nF):=⟨rfl,rfl,rfl,dk,rfl,dk,dk⟩
def rL(K:W.Frag)(S:W.Frag->Hp->Addr->List V->Prop):Sp:=fun vs H Q _=>∃(a:Addr) (ns:List Nat),vs=[.ref a]/\S K H a (nl ns)/\jw 0 ns/\Q (.bl true) H
seal fM PS PE PT PA PG PI fT fS in
theorem AN{f fw:Addr}{fd fdw:FuncData}(D:Df K mg "is_rising" nF f fd)(DW:Df K mg "is_whole" kN fw fdw)(T:Txt mg):fx P w K mg base fE 2 f fd ["numbers"] (rL K fj):=by
 have U:fx P w K mg base fE 1 fw fdw ["thing"] (ou K):=ph DW T
 have bW:=gu (p:="thing") DW.F fun _ _ _ _ _ _ _=>rfl
 refine D.F.ok mv (fun vs H Q E h=>?_) (fun cdv A outer s H vs Q E hr h=>?_)
 ·obtain⟨a,xs,rfl,_⟩:=h
  rfl
 ·obtain⟨a,ns,rfl,J,I,k⟩:=h
  refine⟨_,fq (fG (i:=1) mv.nd rfl (Or.inl rfl) fy)
   (fq (gO PassesOwn.never rfl (gK (pv 0)) (fR (i:=2) mv.nd rfl (Or.inl rfl))
    (fq (gj (PW.pt (jr (hJ (gT (fN U hr rfl DW.m DW.F.kp bW .nil fL (eY (pv 2) fe)))) (kf (gi lB (pv 2) (pv 1) (f9 _))))) (fA (fP iG)) gh)
    (fA (fG (i:=1) mv.nd rfl (Or.inl rfl) (fF gy (pv 2) fy)))))
   (fA (fP iG))),?_⟩
  refine⟨_,rfl,a,rfl,⟨_,J⟩,?_⟩
  refine jl (xs:=nl ns) (fun i σ H'=>H'=H/\∃(l:Nat) (o:Option V),σ=[some (.ref a),some (.int (l:Int)),o]/\jw l (ns.drop i)) ?_ ?_ ?_ ?_
  ·exact⟨rfl,0,none,rfl,I⟩
  ·rintro i σ H' _ ⟨rfl,_⟩
   exact J
  ·rintro i x σ H' hx ⟨rfl,l,o,rfl,he⟩
   obtain⟨n,hn,rfl⟩:=lR hx
   rw [lP hn] at he
   refine⟨_,rfl,.int (n:Int),rfl,si _,_,rfl,fO ⟨_,rfl,_,rfl,_,_,rfl,rfl,_,rfl,?_⟩⟩
   have h1:=he.1
   rw [decide_eq_false (by omega)]
   exact fO ⟨_,rfl,_,_,rfl,rfl,rfl,n + 1,_,rfl,he.2⟩
  ·rintro σ H' ⟨rfl,l,o,rfl,he⟩
   exact k
seal fM PS PE PT PA PG PI fT fS in
theorem AR{f fw:Addr}{fd fdw:FuncData}(D:Df K mg "is_rising" nF f fd)(DW:Df K mg "is_whole" kN fw fdw)(T:Txt mg):fx P w K mg base fE 2 f fd ["numbers"] (rL K gb):=by
 have U:fx P w K mg base fE 1 fw fdw ["thing"] (ou K):=ph DW T
 have bW:=gu (p:="thing") DW.F fun _ _ _ _ _ _ _=>rfl
 refine D.F.ok mv (fun vs H Q E h=>?_) (fun cdv A outer s H vs Q E hr h=>?_)
 ·obtain⟨a,xs,rfl,_⟩:=h
  rfl
 ·obtain⟨a,ns,rfl,J,I,k⟩:=h
  refine⟨_,fq (fG (i:=1) mv.nd rfl (Or.inl rfl) fy)
   (fq (gO PassesOwn.never rfl (yt (pv 0)) (fR (i:=2) mv.nd rfl (Or.inl rfl))
    (fq (gj (PW.pt (jr (hJ (gT (fN U hr rfl DW.m DW.F.kp bW .nil fL (eY (pv 2) fe)))) (kf (gi lB (pv 2) (pv 1) (f9 _))))) (fA (fP iG)) gh)
    (fA (fG (i:=1) mv.nd rfl (Or.inl rfl) (fF gy (pv 2) fy)))))
   (fA (fP iG))),?_⟩
  refine⟨_,rfl,a,rfl,⟨_,J⟩,?_⟩
  refine xT (xs:=nl ns) (fun i σ H'=>H'=H/\∃(l:Nat) (o:Option V),σ=[some (.ref a),some (.int (l:Int)),o]/\jw l (ns.drop i)) ?_ ?_ ?_ ?_
  ·exact⟨rfl,0,none,rfl,I⟩
  ·rintro i σ H' _ ⟨rfl,_⟩
   exact J
  ·rintro i x σ H' hx ⟨rfl,l,o,rfl,he⟩
   obtain⟨n,hn,rfl⟩:=lR hx
   rw [lP hn] at he
   refine⟨_,rfl,.int (n:Int),rfl,si _,_,rfl,fO ⟨_,rfl,_,rfl,_,_,rfl,rfl,_,rfl,?_⟩⟩
   have h1:=he.1
   rw [decide_eq_false (by omega)]
   exact fO ⟨_,rfl,_,_,rfl,rfl,rfl,n + 1,_,rfl,he.2⟩
  ·rintro σ H' ⟨rfl,l,o,rfl,he⟩
   exact k
def wZ:Sp:=fun vs H Q _=>∃(x:V) (r:Pr),vs=[x]/\ip H x r/\r.2≠[]/\jw 0 r.2/\Q (.bl true) H
theorem yg:fU ["thing","places"] ["thing"] (fD pO):=⟨rfl,rfl,rfl,dk,rfl,dk,dk⟩
seal fM PS PE PT PA PG PI fT fS in
theorem Ij{f fr:Addr}{fd fdr:FuncData}(D:Df K mg "has_places" pO f fd)(DR:Df K mg "is_rising" nF fr fdr)(GR:fx P w K mg base fE 2 fr fdr ["numbers"] (rL K gb))(T:Txt mg):fx P w K mg base fE 3 f fd ["thing"] wZ:=by
 have J:=gu (p:="numbers") DR.F fun _ _ _ _ _ _ _=>rfl
 refine D.F.ok yg (fun vs H Q E h=>?_) (fun cdv A outer s H vs Q E U h=>?_)
 ·obtain⟨x,b,rfl,_⟩:=h
  rfl
 ·obtain⟨x,r,rfl,hp,h0,I,k⟩:=h
  refine⟨_,fq (gj (PW.pt (jr (hJ (gT (gn kx rfl T.isi i9 (eY (pv 0) (eY (jN (v:= .ty "tuple") rfl T.tuple px rfl) fe)))))
    (kf (gi qL (gn iE rfl T.len g9 (eY (pv 0) fe)) fy (f9 _))))) (fA (fP iG)) gh)
   (fq (fG (i:=1) yg.nd rfl (Or.inl rfl) (gA kR (pv 0) fy (fun _ _=>rfl)))
   (fA (fP (nW (gn kx rfl T.isi i9 (eY (pv 1) (eY (jN (v:= .ty "tuple") rfl T.tuple px rfl) fe)))
    (nW (j1 ju (gn iE rfl T.len g9 (eY (pv 1) fe)) fy (f9 _)) (oV (fN GR U rfl DR.m DR.F.kp J .nil fL (eY (pv 1) fe)))))))),?_⟩
  cases hp with
  | mk h ht=>
   rename_i p t n pl
   refine⟨_,rfl,.ref p,.ty "tuple",_,_,rfl,.tup h,.inl ⟨_,rfl,rZ⟩,_,rfl,fO ?_⟩
   refine⟨_,rfl,p,_,rfl,.inr (gb.of h),rfl,_,rfl,fO ?_⟩
   refine⟨_,rfl,p,_,_,_,rfl,rfl,gb.of h,gR (j:=1) rfl,?_⟩
   refine⟨_,rfl,.ref t,.ty "tuple",_,_,rfl,.tup ht,.inl ⟨_,rfl,rZ⟩,_,rfl,fY ?_⟩
   refine⟨_,rfl,t,_,rfl,.inr (gb.of ht),_,_,rfl,rfl,_,rfl,?_⟩
   have h1:0 < (nl pl).length:=by rw [ia];exact List.length_pos_iff.mpr h0
   rw [decide_eq_true (show(0:Int) < (((nl pl).length:Nat):Int) by omega)]
   exact fY ⟨_,rfl,t,pl,rfl,gb.of ht,I,k⟩
def zF:Sp:=fun vs H Q _=>∃(a:Addr) (row:List Pr),vs=[.ref a]/\gC H a row/\jz 0 row/\row.length<=9000/\∀ H',eZ H H'->Q (.ref a) H'
theorem Bo:fU ["thing"] ["thing"] (fD mY):=⟨rfl,rfl,rfl,dk,rfl,dk,dk⟩
theorem Az:(["pair"]:List Str).Nodup:=dk
theorem sD:(["number","places"]:List Str).Nodup:=dk
seal fM PS PE PT PA PG PI fT fS in
theorem EN{f fr fh:Addr}{fd fdr fdh:FuncData}(D:Df K mg "need_row" mY f fd)(DR:Df K mg "is_rising" nF fr fdr)(GR:fx P w K mg base fE 2 fr fdr ["numbers"] (rL K fj))
  (DH:Df K mg "has_places" pO fh fdh)(GH:fx P w K mg base fE 3 fh fdh ["thing"] wZ)(T:Txt mg):fx P w K mg base fE 4 f fd ["thing"] zF:=by
 have bR:=gu (p:="numbers") DR.F fun _ _ _ _ _ _ _=>rfl
 have bH:=gu (p:="thing") DH.F fun _ _ _ _ _ _ _=>rfl
 refine D.F.ok Bo (fun vs H Q E h=>?_) (fun cdv A outer s H vs Q E hr h=>?_)
 ·obtain⟨a,row,rfl,_⟩:=h
  rfl
 ·obtain⟨a,row,rfl,⟨xs,U,hp⟩,ho,hlen,k⟩:=h
  have hl:(sizeLine:Nat)=16777216:=sizeLine_eq
  have ab:=Gn.Paired.len hp
  refine⟨_,fq (gj (hJ (gT (gn kx rfl T.isi i9 (eY (pv 0) (eY (jN (v:= .ty "list") rfl T.list kZ rfl) fe))))) (fA jR) gh)
   (fq (gj (hJ (gT (gn (vn rfl) rfl T.all vD (eY (il (own:=1) (caps:=[]) (N:=["pair"]) (N0:=["thing"]) (sc0:=fD mY) rfl (gK (pv 0))
    (fun _ _ _=>fR (i:=0) Az rfl (Or.inl rfl)) (fun _ _ _=>iL) (fun _ _ _=>fN (GH.mono (by decide)) hr rfl DH.m DH.F.kp bH .nil fL (eY (pv 0) fe)) (gY (by decide)) rfl rfl
    dk rfl dk dk rfl dk) fe)))) (fA jR) gh)
   (fq (gj (hJ (gT (fN (GR.mono (by decide)) hr rfl DR.m DR.F.kp bR .nil fL (eY (il (own:=2) (caps:=[]) (N:=["number","places"]) (N0:=["thing"]) (sc0:=fD mY) rfl (gK (pv 0))
    (fun _ _ _=>jj (n:=2) rfl (gJ (fR (i:=0) sD rfl (Or.inl rfl)) (gJ (fR (i:=1) sD rfl (Or.inl rfl)) jh))) (fun _ _ _=>iL) (fun _ _ _=>pv 0) (qR (k9 (gY (by decide)) (k9 (gY (by decide)) rT))) rfl rfl
    dk rfl dk dk rfl dk) fe)))) (fA jR) gh)
   (fA (fP (pv 0))))),?_⟩
  refine⟨_,rfl,.ref a,.ty "list",_,_,rfl,.lst U,.inl ⟨_,rfl,qW⟩,_,rfl,fO ?_⟩
  refine⟨_,rfl,a,rfl,⟨_,fj.of U⟩,jk (xs:=xs) (fun i ys H'=>H'=H/\ys=(List.replicate i true).map V.bl) (by omega) (fun i ys H' q=>by rw [q.1];exact fj.of U) ⟨rfl,rfl⟩ ?_ ?_⟩
  ·rintro i v ys H' N hv ⟨rfl,rfl⟩ hN
   obtain⟨r,I,J⟩:=gW hp hv
   have hm:=ho.p r (List.mem_of_getElem? I)
   refine g1 ?_
   exact⟨_,rfl,v,r,rfl,J,hm.1,hm.2,hN _ _ ⟨rfl,by rw [List.replicate_succ',List.map_append];rfl⟩⟩
  ·rintro ys H' ⟨rfl,rfl⟩ _ q hq
   refine⟨q,List.replicate xs.length true,rfl,fj.of fv,?_⟩
   rw [C7]
   refine⟨_,rfl,fO ?_⟩
   have s1:eZ H' (upd H' q (.lst ((List.replicate xs.length true).map V.bl))):=fC hq
   generalize upd H' q (.lst ((List.replicate xs.length true).map V.bl))=H1 at s1 ⊢
   refine⟨_,rfl,a,rfl,⟨_,fj.of (s1 _ _ U)⟩,jk (xs:=xs) (fun i ys H2=>H2=H1/\ys=(nl (row.map (·.1))).take i) (by omega) (fun i ys H2 q=>by rw [q.1];exact fj.of (s1 _ _ U)) ⟨rfl,rfl⟩ ?_ ?_⟩
   ·rintro i v ys H2 N hv ⟨rfl,rfl⟩ hN
    obtain⟨r,I,J⟩:=gW hp hv
    cases J with
    | mk h ht=>
     refine⟨_,_,rfl,gb.of (s1 _ _ h),rfl,_,_,rfl,_,_,rfl,rfl,sW ?_⟩
     refine⟨_,rfl,hN _ _ ⟨rfl,?_⟩⟩
     rw [List.take_add_one,List.getElem?_map,List.getElem?_map,I]
     rfl
   ·rintro ys H2 ⟨rfl,rfl⟩ _ q2 aa
    have ae:(nl (row.map (·.1))).length=row.length:=by rw [ia,List.length_map]
    rw [List.take_of_length_le (by omega)]
    exact⟨q2,row.map (·.1),rfl,fj.of fv,ho.n,_,rfl,fO ⟨_,rfl,k _ (eZ.upd s1 aa)⟩⟩
def tE(K:W.Frag)(S:W.Frag->Hp->Addr->List V->Prop):Sp:=fun vs H Q _=>∃(a:Addr) (ns:List Nat),vs=[.ref a]/\S K H a (nl ns)/\jw 0 ns/\ns.length<=9000/\∀ p H',eZ H H'->H p=none->H' p=some (.lst (nl (g4 0 ns)))->Q (.ref p) H'
theorem ku:fU ["numbers","gaps","least","number"] ["numbers"] (fD nO):=⟨rfl,rfl,rfl,dk,rfl,dk,dk⟩
seal fM PS PE PT PA PG PI fT fS in
theorem DD{f:Addr}{fd:FuncData}(D:Df K mg "gaps_of" nO f fd):fx P w K mg base fE 1 f fd ["numbers"] (tE K fj):=by
 refine D.F.ok ku (fun vs H Q E h=>?_) (fun cdv A outer s H vs Q E hr h=>?_)
 ·obtain⟨a,ns,rfl,_⟩:=h
  rfl
 ·obtain⟨a,ns,rfl,hS,I,hlen,k⟩:=h
  have hl:(sizeLine:Nat)=16777216:=sizeLine_eq
  refine⟨_,fq (fG (i:=1) ku.nd rfl (Or.inl rfl) (gf fe))
   (fq (fG (i:=2) ku.nd rfl (Or.inl rfl) fy)
   (fq (gO PassesOwn.never rfl (gK (pv 0)) (fR (i:=3) ku.nd rfl (Or.inl rfl))
    (fq (gB (gQ F.plainAttrs_list F.slot_list_append F.type_list_append iO (pv 1) (eY (fF ly (pv 3) (pv 2)) fe)))
    (fA (fG (i:=2) ku.nd rfl (Or.inl rfl) (fF gy (pv 3) fy)))))
   (fA (fP (pv 1))))),?_⟩
  refine⟨(by show 0<=sizeLine;decide),fun p U=>⟨_,rfl,a,rfl,⟨_,(fC U).seq hS⟩,?_⟩⟩
  refine jl (xs:=nl ns) (fun i σ H'=>∃(done:List Nat) (l:Nat) (o:Option V),σ=[some (.ref a),some (.ref p),some (.int l),o]/\H'=upd H p (.lst (nl done))/\done.length=i/\Gp ns done l (ns.drop i)) ?_ ?_ ?_ ?_
  ·exact⟨[],0,none,rfl,rfl,rfl,rfl,I⟩
  ·rintro i σ H' _ ⟨done,l,o,_,rfl,_⟩
   exact(fC U).seq hS
  ·rintro i x σ H' hx ⟨done,l,o,rfl,rfl,hd,J⟩
   obtain⟨n,hn,rfl⟩:=lR hx
   rw [lP hn] at J
   obtain⟨hle,aa⟩:=J.step
   have ab:=(List.getElem?_eq_some_iff.mp hn).1
   refine⟨_,rfl,.inl ⟨rfl,_,fj.of fv⟩,_,rfl,_,rfl,_,_,rfl,rfl,p,_,_,rfl,rfl,fv,(by rw [ia];omega),?_⟩
   have e:((n:Int) - (l:Int))=((n - l:Nat):Int):=by omega
   refine⟨_,rfl,_,_,rfl,rfl,done++[n - l],n + 1,_,rfl,?_,by rw [List.length_append,hd];rfl,aa⟩
   rw [m8,jx]
   exact congrArg (fun z=>upd H p (.lst (nl done++[V.int z]))) e
  ·rintro σ H' ⟨done,l,o,rfl,rfl,hd,J⟩
   rw [ia,List.drop_length] at J
   have e:g4 0 ns=done:=by rw [J.1];exact List.append_nil _
   exact⟨_,rfl,k p _ (fC U) U (by rw [fv,e])⟩
seal fM PS PE PT PA PG PI fT fS in
theorem Dy{f:Addr}{fd:FuncData}(D:Df K mg "gaps_of" nO f fd):fx P w K mg base fE 1 f fd ["numbers"] (tE K fun _ H a xs=>H a=some (.tup xs)):=by
 refine D.F.ok ku (fun vs H Q E h=>?_) (fun cdv A outer s H vs Q E hr h=>?_)
 ·obtain⟨a,ns,rfl,_⟩:=h
  rfl
 ·obtain⟨a,ns,rfl,hS,I,hlen,k⟩:=h
  have hl:(sizeLine:Nat)=16777216:=sizeLine_eq
  refine⟨_,fq (fG (i:=1) ku.nd rfl (Or.inl rfl) (gf fe))
   (fq (fG (i:=2) ku.nd rfl (Or.inl rfl) fy)
   (fq (gO PassesOwn.never rfl (yt (pv 0)) (fR (i:=3) ku.nd rfl (Or.inl rfl))
    (fq (gB (gQ F.plainAttrs_list F.slot_list_append F.type_list_append iO (pv 1) (eY (fF ly (pv 3) (pv 2)) fe)))
    (fA (fG (i:=2) ku.nd rfl (Or.inl rfl) (fF gy (pv 3) fy)))))
   (fA (fP (pv 1))))),?_⟩
  refine⟨(by show 0<=sizeLine;decide),fun p U=>⟨_,rfl,a,rfl,⟨_,gb.of (fC U _ _ hS)⟩,?_⟩⟩
  refine xT (xs:=nl ns) (fun i σ H'=>∃(done:List Nat) (l:Nat) (o:Option V),σ=[some (.ref a),some (.ref p),some (.int l),o]/\H'=upd H p (.lst (nl done))/\done.length=i/\Gp ns done l (ns.drop i)) ?_ ?_ ?_ ?_
  ·exact⟨[],0,none,rfl,rfl,rfl,rfl,I⟩
  ·rintro i σ H' _ ⟨done,l,o,_,rfl,_⟩
   exact gb.of (fC U _ _ hS)
  ·rintro i x σ H' hx ⟨done,l,o,rfl,rfl,hd,J⟩
   obtain⟨n,hn,rfl⟩:=lR hx
   rw [lP hn] at J
   obtain⟨hle,aa⟩:=J.step
   have ab:=(List.getElem?_eq_some_iff.mp hn).1
   refine⟨_,rfl,.inl ⟨rfl,_,fj.of fv⟩,_,rfl,_,rfl,_,_,rfl,rfl,p,_,_,rfl,rfl,fv,(by rw [ia];omega),?_⟩
   have e:((n:Int) - (l:Int))=((n - l:Nat):Int):=by omega
   refine⟨_,rfl,_,_,rfl,rfl,done++[n - l],n + 1,_,rfl,?_,by rw [List.length_append,hd];rfl,aa⟩
   rw [m8,jx]
   exact congrArg (fun z=>upd H p (.lst (nl done++[V.int z]))) e
  ·rintro σ H' ⟨done,l,o,rfl,rfl,hd,J⟩
   rw [ia,List.drop_length] at J
   have e:g4 0 ns=done:=by rw [J.1];exact List.append_nil _
   exact⟨_,rfl,k p _ (fC U) U (by rw [fv,e])⟩
structure Sz (row : List Pr) : Prop where
 l : row.length <= 9000
 r : (rn 0 row).length <= 9000
 p : (pk (rn 0 row)).length <= 9000
def zu:Sp:=fun vs H Q _=>∃(a:Addr) (row:List Pr),vs=[.ref a]/\gC H a row/\jz 0 row/\Sz row/\∀ p H',eZ H H'->H p=none->H' p=some (.lst (nl (pk (rn 0 row))))->Q (.ref p) H'
theorem oy:fU ["row","gaps","told","at","pair","places"] ["row"] (fD oC):=⟨rfl,rfl,rfl,dk,rfl,dk,dk⟩
structure Rp (row : List Pr) (gs done : List Nat) (l i : Nat) : Prop where
 r : rn 0 row = done ++ rn l (row.drop i)
 g : gs.drop i = g4 l ((row.drop i).map (·.1))
 o : jz l (row.drop i)
theorem Rp.step {row:List Pr}{gs done:List Nat}{l i n:Nat}{pl:List Nat}(h:Rp row gs done l i)(hx:row[i]? =some (n,pl)):
  gs[i]? =some (n - l)/\pl≠[]/\jw 0 pl/\Rp row gs (done++[n - l,pl.length - 1]++g4 0 pl) (n + 1) (i + 1):=by
 obtain⟨U,hg,J⟩:=h
 rw [lP hx] at U hg J
 have I:gs.drop i=(n - l)::g4 (n + 1) ((row.drop (i + 1)).map (·.1)):=hg
 have h1:gs[i]? =some (n - l):=by
  have:=congrArg (fun z=>z[0]?) I
  simpa using this
 refine⟨h1,J.head.2.1,J.head.2.2,?_,?_,J.tail⟩
 ·rw [U]
  show done++(n - l)::(pl.length - 1)::(g4 0 pl++rn (n + 1) (row.drop (i + 1)))=_
  simp [List.append_assoc]
 ·have:=lP h1
  rw [this] at I
  exact(List.cons.inj I).2
seal fM PS PE PT PA PG PI fT fS in
theorem C3{f fn fg fp:Addr}{fd fdn fdg fdp:FuncData}(D:Df K mg "packed_row" oC f fd)(DN:Df K mg "need_row" mY fn fdn)(GN:fx P w K mg base fE 4 fn fdn ["thing"] zF)
  (DG:Df K mg "gaps_of" nO fg fdg)(DP:Df K mg "packed" pE fp fdp)(GP:fx P w K mg base fE 3 fp fdp ["numbers"] (xu K))(T:Txt mg):fx P w K mg base fE 5 f fd ["row"] zu:=by
 have GL:fx P w K mg base fE 1 fg fdg ["numbers"] (tE K fj):=DD DG
 have GT:fx P w K mg base fE 1 fg fdg ["numbers"] (tE K fun _ H a xs=>H a=some (.tup xs)):=Dy DG
 have bN:=gu (p:="thing") DN.F fun _ _ _ _ _ _ _=>rfl
 have bG:=gu (p:="numbers") DG.F fun _ _ _ _ _ _ _=>rfl
 have bP:=gu (p:="numbers") DP.F fun _ _ _ _ _ _ _=>rfl
 refine D.F.ok oy (fun vs H Q E h=>?_) (fun cdv A outer s H vs Q E hr h=>?_)
 ·obtain⟨a,row,rfl,_⟩:=h
  rfl
 ·obtain⟨a,row,rfl,hR,ho,hs,k⟩:=h
  have hl:(sizeLine:Nat)=16777216:=sizeLine_eq
  refine⟨_,fq (fG (i:=1) oy.nd rfl (Or.inl rfl) (fN (GL.mono (by decide)) hr rfl DG.m DG.F.kp bG .nil fL (eY (il (own:=2) (caps:=[]) (N:=["number","places"]) (N0:=["row","gaps","told","at","pair","places"]) (sc0:=fD oC) rfl (gK (fN GN hr rfl DN.m DN.F.kp bN .nil fL (eY (pv 0) fe)))
    (fun _ _ _=>jj (n:=2) rfl (gJ (fR (i:=0) sD rfl (Or.inl rfl)) (gJ (fR (i:=1) sD rfl (Or.inl rfl)) jh))) (fun _ _ _=>iL) (fun _ _ _=>pv 0) (qR (k9 (gY (by decide)) (k9 (gY (by decide)) rT))) rfl rfl
    dk rfl dk dk rfl dk) fe)))
   (fq (fG (i:=2) oy.nd rfl (Or.inl rfl) (gf fe))
   (fq (gO PassesOwn.never rfl (oq rfl T.enum (eY (pv 0) fe)) (jj (n:=2) rfl (gJ (fR (i:=3) oy.nd rfl (Or.inl rfl)) (gJ (fR (i:=4) oy.nd rfl (Or.inl rfl)) jh)))
    (fq (fG (i:=5) oy.nd rfl (Or.inl rfl) (gA kR (pv 4) fy (fun _ _=>rfl)))
    (fq (gB (gQ F.plainAttrs_list F.slot_list_extend F.type_list_extend qv (pv 2) (eY (gf (eY (gA g6 (pv 1) (pv 3) (fun _ _=>rfl)) (eY (fF ly (gn iE rfl T.len g9 (eY (pv 5) fe)) fy) fe))) fe)))
    (fA (gB (gQ F.plainAttrs_list F.slot_list_extend F.type_list_extend qv (pv 2) (eY (fN (GT.mono (by decide)) hr rfl DG.m DG.F.kp bG .nil fL (eY (pv 5) fe)) fe)))))))
   (fA (fP (fN (GP.mono (by decide)) hr rfl DP.m DP.F.kp bP .nil fL (eY (pv 2) fe)))))),?_⟩
  refine⟨_,rfl,?_⟩
  refine⟨a,row,rfl,hR,ho,hs.l,fun H1 s1=>?_⟩
  obtain⟨xs,hA,hp⟩:=hR.same s1
  have aq:=Gn.Paired.len hp
  have aA:=hs.l
  refine⟨a,rfl,⟨_,fj.of hA⟩,jk (xs:=xs) (fun i ys H'=>H'=H1/\ys=(nl (row.map (·.1))).take i) (by omega) (fun i ys H' q=>by rw [q.1];exact fj.of hA) ⟨rfl,rfl⟩ ?_ ?_⟩
  ·rintro i v ys H' N hv ⟨rfl,rfl⟩ hN
   obtain⟨r,ar,ab⟩:=gW hp hv
   cases ab with
   | mk h ht=>
    refine⟨_,_,rfl,gb.of h,rfl,_,_,rfl,_,_,rfl,rfl,sW ?_⟩
    refine⟨_,rfl,hN _ _ ⟨rfl,?_⟩⟩
    rw [List.take_add_one,List.getElem?_map,List.getElem?_map,ar]
    rfl
  ·rintro ys H' ⟨rfl,rfl⟩ _ q hq
   have aB:(nl (row.map (·.1))).length=row.length:=by rw [ia,List.length_map]
   rw [List.take_of_length_le (by omega)]
   refine⟨q,row.map (·.1),rfl,fj.of fv,ho.n,by rw [List.length_map];omega,fun pG H2 s2 aC hG=>?_⟩
   have ae:eZ H' H2:=(fC hq).trans s2
   replace hA:=ae _ _ hA
   replace hp:=Gn.Paired.imp2 hp fun _ _ q=>ip.same q ae
   refine⟨(by show 0<=sizeLine;decide),fun I U=>?_⟩
   have au:=fC (o:= .lst []) U _ _ hA
   refine⟨_,rfl,a,xs,rfl,au,?_⟩
   refine oA (xs:=xs) (fun i σ H'=>∃(done:List Nat) (l:Nat) (o3 o4 o5:Option V),σ=[some (.ref a),some (.ref pG),some (.ref I),o3,o4,o5]/\eZ H2 H'/\H' I=some (.lst (nl done))/\Rp row (g4 0 (row.map (·.1))) done l i) ?_ ?_ ?_ ?_
   ·exact⟨[],0,none,none,none,rfl,fC U,fv,rfl,rfl,ho⟩
   ·rintro i σ H3 _ ⟨_,_,_,_,_,_,J,_⟩
    exact J _ _ hA
   ·rintro i x σ H3 T hx ⟨done,l,o3,o4,o5,rfl,J,hT,af⟩ av
    obtain⟨r,aw,ab⟩:=gW hp hx
    cases ab with
    | mk h ht=>
     rename_i p t n pl
     obtain⟨ax,ah,ai,aa⟩:=af.step aw
     have aj:(done++[n - l,pl.length - 1]++g4 0 pl).length<=9000:=by
      have h1:=hs.r
      rw [aa.r,List.length_append] at h1
      omega
     rw [List.length_append,List.length_append,lX] at aj
     have az:done.length + 2 + pl.length<=9000:=aj
     have sT:eZ H3 (upd H3 T (.tup [.int i,.ref p])):=fC av
     refine⟨T,_,rfl,gb.of fv,rfl,_,_,rfl,_,_,rfl,rfl,?_⟩
     generalize upd H3 T (.tup [.int i,.ref p])=H4 at sT ⊢
     replace J:=J.trans sT
     replace hT:=sT _ _ hT
     refine⟨_,rfl,p,_,_,_,rfl,rfl,gb.of (J _ _ h),gR (j:=1) rfl,?_⟩
     refine⟨_,rfl,.inl ⟨rfl,_,fj.of hT⟩,?_⟩
     refine⟨_,rfl,_,rfl,pG,_,_,.int ((n - l:Nat):Int),rfl,rfl,fj.of (J _ _ hG),gR (by rw [List.getElem?_map,ax];rfl),?_⟩
     refine⟨_,rfl,t,_,rfl,.inr (gb.of (J _ _ ht)),_,_,rfl,rfl,(by show 2<=sizeLine;decide),fun z hz=>?_⟩
     have sz:=fC (o:= .lst [.int ((n - l:Nat):Int),.int (((nl pl).length:Nat) - 1)]) hz
     refine⟨I,z,_,_,rfl,rfl,sz _ _ hT,fv,(by rw [ia];show _ + 2<=sizeLine;omega),?_⟩
     have aD:0 < pl.length:=List.length_pos_iff.mpr ah
     have e1:nl done++[V.int ((n - l:Nat):Int),V.int (((nl pl).length:Nat) - 1)]=nl (done++[n - l,pl.length - 1]):=by
      rw [jx]
      have:((((nl pl).length:Nat):Int) - 1)=((pl.length - 1:Nat):Int):=by rw [ia];omega
      rw [this]
      rfl
     have aE:I≠z:=fW hT hz
     have s5:eZ H2 (upd (upd H4 z (.lst [.int ((n - l:Nat):Int),.int (((nl pl).length:Nat) - 1)])) I (.lst (nl (done++[n - l,pl.length - 1])))):=fun b u e=>by
      rw [fB (fW e U)]
      exact sz _ _ (J _ _ e)
     rw [e1]
     have ag:(upd (upd H4 z (.lst [.int ((n - l:Nat):Int),.int (((nl pl).length:Nat) - 1)])) I (.lst (nl (done++[n - l,pl.length - 1])))) I=some (.lst (nl (done++[n - l,pl.length - 1]))):=fv
     generalize upd (upd H4 z (.lst [.int ((n - l:Nat):Int),.int (((nl pl).length:Nat) - 1)])) I (.lst (nl (done++[n - l,pl.length - 1])))=H5 at s5 ag ⊢
     refine⟨_,rfl,.inl ⟨rfl,_,fj.of ag⟩,?_⟩
     refine⟨_,rfl,t,pl,rfl,s5 _ _ ht,ai,by omega,fun pg H6 s6 aF hg=>?_⟩
     refine⟨I,pg,_,_,rfl,rfl,s6 _ _ ag,hg,(by rw [ia,ia,lX,List.length_append];show _ + 2 + _<=sizeLine;omega),?_⟩
     refine⟨_,n + 1,_,_,_,rfl,fun b u e=>?_,?_,aa⟩
     ·rw [fB (fW e U)]
      exact s6 _ _ (s5 _ _ e)
     ·rw [fv,<-jx]
   ·rintro σ H3 ⟨done,l,o3,o4,o5,rfl,J,hT,af⟩
    have ak:=af.r
    rw [aq,List.drop_length] at ak
    have hd:rn 0 row=done:=by rw [ak];exact List.append_nil _
    subst hd
    have ao:=(s1.trans ae).trans J
    exact⟨_,rfl,I,rn 0 row,rfl,fj.of hT,hs.p,fun p H4 s4 ay hP=>k p H4 (ao.trans s4) (ao.free ay) hP⟩
def yH:Sp:=fun vs H Q _=>∃(a:Addr) (row:List Pr),vs=[.ref a]/\H a=some (.lst (nl (pk (rn 0 row))))/\jz 0 row/\Sz row/\∀ p H',eZ H H'->H p=none->gC H' p row->Q (.ref p) H'
theorem kP:fU ["parts","told","row","least","begin","end","number"] ["parts"] (fD pJ):=⟨rfl,rfl,rfl,dk,rfl,dk,dk⟩
seal fM PS PE PT PA PG PI fT fS in
theorem EG{f fu fn:Addr}{fd fdu fdn:FuncData}(D:Df K mg "unpacked_row" pJ f fd)(DU:Df K mg "unpacked" qC fu fdu)(GU:fx P w K mg base fE 3 fu fdu ["parts"] zj)
  (DN:Df K mg "numbers_by" pM fn fdn)(T:Txt mg):fx P w K mg base fE 4 f fd ["parts"] yH:=by
 have GN:fx P w K mg base fE 1 fn fdn ["gaps"] Af:=AL DN
 have bU:=gu (p:="parts") DU.F fun _ _ _ _ _ _ _=>rfl
 have bN:=gu (p:="gaps") DN.F fun _ _ _ _ _ _ _=>rfl
 refine D.F.ok kP (fun vs H Q E h=>?_) (fun cdv A outer s H vs Q E hr h=>?_)
 ·obtain⟨a,row,rfl,_⟩:=h
  rfl
 ·obtain⟨a,row,rfl,hA,ho,hs,k⟩:=h
  have hl:(sizeLine:Nat)=16777216:=sizeLine_eq
  refine⟨_,fq (fG (i:=1) kP.nd rfl (Or.inl rfl) (fN GU hr rfl DU.m DU.F.kp bU .nil fL (eY (pv 0) fe)))
   (fq (fG (i:=2) kP.nd rfl (Or.inl rfl) (gf fe))
   (fq (fG (i:=3) kP.nd rfl (Or.inl rfl) fy)
   (fq (fG (i:=4) kP.nd rfl (Or.inl rfl) fy)
   (fq (sh PassesOwn.never (gi lB (pv 4) (gn iE rfl T.len g9 (eY (pv 1) fe)) (f9 _))
    (fq (gj (PW.pt (jr (gi ju (fF gy (pv 4) fy) (gn iE rfl T.len g9 (eY (pv 1) fe)) (f9 _))
     (kf (gi ju (fF gy (fF gy (pv 4) fy) (gA g6 (pv 1) (fF gy (pv 4) fy) (fun _ _=>rfl))) (gn iE rfl T.len g9 (eY (pv 1) fe)) (f9 _))))) (fA jR) gh)
    (fq (fG (i:=5) kP.nd rfl (Or.inl rfl) (fF gy (fF gy (pv 4) fy) (gA g6 (pv 1) (fF gy (pv 4) fy) (fun _ _=>rfl))))
    (fq (fG (i:=6) kP.nd rfl (Or.inl rfl) (fF gy (pv 3) (gA g6 (pv 1) (pv 4) (fun _ _=>rfl))))
    (fq (gB (gQ F.plainAttrs_list F.slot_list_append F.type_list_append iO (pv 2) (eY (iV (eY (pv 6) (eY (mm xl rfl T.tuple px (eY (fN (GN.mono (by decide)) hr rfl DN.m DN.F.kp bN .nil fL (eY (ig jK (pv 1) (g5 (fF gy (pv 4) fy)) (g5 (pv 5))) fe)) fe)) fe))) fe)))
    (fq (fG (i:=3) kP.nd rfl (Or.inl rfl) (fF gy (pv 6) fy))
    (fA (fG (i:=4) kP.nd rfl (Or.inl rfl) (pv 5)))))))))
   (fA (fP (pv 2))))))),?_⟩
  have av:=hs.r
  have au:=hs.l
  refine⟨_,rfl,a,rn 0 row,rfl,hA,by omega,fun pU H1 s1 aw U=>?_⟩
  refine⟨(by show 0<=sizeLine;decide),fun pR ae=>?_⟩
  refine rH (fun σ H'=>∃(pre:List Nat) (l:Nat) (done rest:List Pr) (o5 o6:Option V) (ys:List V),σ=[some (.ref a),some (.ref pU),some (.ref pR),some (.int (l:Int)),some (.int (pre.length:Int)),o5,o6]/\rn 0 row=pre++rn l rest/\row=done++rest/\jz l rest/\eZ H1 H'/\H' pR=some (.lst ys)/\Paired (ip H') ys done)
   (fun σ _=>match σ with | [_,_,_,_,some (.int b),_,_]=>(9000 - b).toNat | _=>0) ⟨[],0,[],row,none,none,[],rfl,rfl,rfl,ho,fC ae,fv,.nil⟩ ?_ ?_
  ·rintro σ H' ⟨pre,l,done,rest,o5,o6,ys,rfl,ag,J,hok,sm,hR,af⟩
   refine⟨_,rfl,_,rfl,pU,_,rfl,.inl (fj.of (sm _ _ U)),_,_,rfl,rfl,_,rfl,?_⟩
   cases rest with
   | nil=>
    have e:rn 0 row=pre:=by rw [ag];exact List.append_nil _
    have ed:row=done:=by rw [J,List.append_nil]
    rw [decide_eq_false (by rw [ia,e];omega)]
    refine fO ⟨_,rfl,k pR H' (s1.trans sm) (s1.free ae) ⟨ys,hR,?_⟩⟩
    rw [ed]
    exact af
   | cons x rest=>
    obtain⟨n,pl⟩:=x
    obtain⟨ax,ah,ai⟩:=hok.head
    have ay:0 < pl.length:=List.length_pos_iff.mpr ah
    have I:rn 0 row=pre++(n - l)::(pl.length - 1)::(g4 0 pl++rn (n + 1) rest):=ag
    have az:(rn 0 row).length=pre.length + (pl.length + (rn (n + 1) rest).length + 1 + 1):=by
     rw [I,List.length_append,List.length_cons,List.length_cons,List.length_append,lX]
    have aA:done.length<=9000:=by
     have:=congrArg List.length J
     rw [List.length_append] at this
     omega
    have aB:=Gn.Paired.len af
    have a0:(nl (rn 0 row))[pre.length]? =some (.int ((n - l:Nat):Int)):=yN (by rw [I];exact D4 _ _ _)
    have a1:(nl (rn 0 row))[pre.length + 1]? =some (.int ((pl.length - 1:Nat):Int)):=yN (by rw [I];exact HH _ _ _ _)
    rw [decide_eq_true (by rw [ia];omega)]
    refine fY ?_
    replace U:=sm _ _ U
    refine⟨_,rfl,_,_,rfl,rfl,_,rfl,pU,_,rfl,.inl (fj.of U),_,_,rfl,rfl,_,rfl,?_⟩
    rw [decide_eq_false (by rw [ia];omega)]
    refine fO ?_
    refine⟨_,rfl,_,_,rfl,rfl,_,rfl,_,rfl,_,_,rfl,rfl,pU,_,_,_,rfl,rfl,fj.of U,gR (j:=pre.length + 1) a1,_,_,rfl,rfl,_,rfl,pU,_,rfl,.inl (fj.of U),_,_,rfl,rfl,_,rfl,?_⟩
    rw [decide_eq_false (by rw [ia];omega)]
    refine fO ?_
    have en:((l:Int) + ((n - l:Nat):Int))=(n:Int):=by omega
    have ee:((pre.length:Int) + 3 + ((pl.length - 1:Nat):Int))=((pre.length + 2 + pl.length:Nat):Int):=by omega
    refine⟨_,rfl,_,_,rfl,rfl,_,rfl,_,rfl,_,_,rfl,rfl,pU,_,_,_,rfl,rfl,fj.of U,gR (j:=pre.length + 1) a1,_,_,rfl,rfl,?_⟩
    show jC 5 (V.int ((pre.length:Int) + 3 + ((pl.length - 1:Nat):Int))) _ _ _
    rw [ee]
    refine⟨_,rfl,_,rfl,_,rfl,pU,_,_,_,rfl,rfl,fj.of U,gR (j:=pre.length) a0,_,_,rfl,rfl,?_⟩
    show jC 6 (V.int ((l:Int) + ((n - l:Nat):Int))) _ _ _
    rw [en]
    refine⟨_,rfl,.inl ⟨rfl,_,fj.of hR⟩,?_⟩
    have aj:jb (nl (rn 0 row)) (some ((pre.length:Int) + 2)) (some ((pre.length + 2 + pl.length:Nat):Int))=nl (g4 0 pl):=by
     have e1:nl (rn 0 row)=nl (pre++[n - l,pl.length - 1])++(nl (g4 0 pl)++nl (rn (n + 1) rest)):=by
      rw [<-jx,<-jx,I]
      congr 1
      simp [List.append_assoc]
     have e2:(nl (pre++[n - l,pl.length - 1])).length=pre.length + 2:=by rw [ia,List.length_append];rfl
     have e3:(nl (g4 0 pl)).length=pl.length:=by rw [ia,lX]
     have:=Jb (nl (pre++[n - l,pl.length - 1])) (nl (g4 0 pl)) (nl (rn (n + 1) rest))
     rw [<-e1,e2,e3] at this
     exact this
    refine⟨_,rfl,_,rfl,_,rfl,_,_,rfl,rfl,_,rfl,_,rfl,_,rfl,?_⟩
    refine⟨pU,_,rfl,fj.of U,fun pz aq=>?_⟩
    refine⟨pz,g4 0 pl,rfl,fv.trans (congrArg (fun z=>some (HO.lst z)) aj),by rw [lX];omega,fun pN H2 s2 aC hN=>?_⟩
    have ak:eZ H' H2:=(fC aq).trans s2
    rw [zE 0 pl ai] at hN
    refine⟨pN,_,rfl,.inl ⟨fj.of hN,fun pt ar=>?_⟩⟩
    refine⟨(by show 2<=sizeLine;decide),fun pp ao=>?_⟩
    have st:eZ H2 (upd H2 pt (.tup (nl pl))):=fC ar
    have ht:(upd H2 pt (.tup (nl pl))) pt=some (.tup (nl pl)):=fv
    generalize upd H2 pt (.tup (nl pl))=H3 at st ht ao ⊢
    have sp:eZ H3 (upd H3 pp (.tup [.int (n:Int),.ref pt])):=fC ao
    have aa:(upd H3 pp (.tup [.int (n:Int),.ref pt])) pp=some (.tup [.int (n:Int),.ref pt]):=fv
    generalize upd H3 pp (.tup [.int (n:Int),.ref pt])=H4 at sp aa ⊢
    have ab:=(ak.trans st).trans sp
    refine⟨pR,_,_,rfl,rfl,ab _ _ hR,(by omega),?_⟩
    refine⟨_,rfl,_,_,rfl,rfl,_,rfl,⟨pre++[n - l,pl.length - 1]++g4 0 pl,n + 1,done++[(n,pl)],rest,some (.int ((pre.length + 2 + pl.length:Nat):Int)),some (.int (n:Int)),_,?_,?_,?_,hok.tail,?_,fv,?_⟩,?_⟩
    ·have eL:(pre++[n - l,pl.length - 1]++g4 0 pl).length=pre.length + 2 + pl.length:=by rw [List.length_append,List.length_append,lX];rfl
     rw [eL]
     rfl
    ·rw [I]
     simp [List.append_assoc]
    ·rw [J,List.append_assoc]
     rfl
    ·intro b u e
     rw [fB (fW e ae)]
     exact ab _ _ (sm _ _ e)
    ·refine Gn.Paired.app (Gn.Paired.imp2 af fun x r q=>q.lst ab hR) ?_
     have n1:pp≠pR:=fun z=>by rw [z,ab _ _ hR] at aa;cases aa
     have n2:pt≠pR:=fun z=>by rw [z,(ak.trans st) _ _ hR] at ht;cases ht
     exact .mk (by rw [fB n1];exact aa) (by rw [fB n2];exact sp _ _ ht)
    ·show(9000 - ((pre.length + 2 + pl.length:Nat):Int)).toNat < (9000 - (pre.length:Int)).toNat
     omega
  ·intro σ H' Q1 Q2 hq h
   obtain⟨x,h1,y,h2,p,xs,e1,hs,i,j,e2,e3,b,e4,z⟩:=h
   exact⟨x,h1,y,h2,p,xs,e1,hs,i,j,e2,e3,b,e4,hq _ _ z⟩
end
open PySem L2 PyProof.Rows PySem.Spec Gn K04 K01 BK
section
variable {P : Program} {w : World} {K : PySem.W.Frag} {mg : Str -> Option Value} {base : Heap}
def FP(ws:List Str):Hp->Addr->Str->Prop:=fun H a w=>H a=some (.lst (nl (gp w ws 0)))
def yj:Sp:=fun vs H Q _=>∃(a:Addr) (ws:List Str),vs=[.ref a]/\H a=some (.lst (sl ws))/\ws.length<=9000/\
 ∀ p es H',eZ H H'->H p=none->DL H H' p es (FP ws)->es.length<=ws.length->(∀ x,x∈es.map (·.1)↔x∈ws)->Q (.ref p) H'
theorem sr:fU ["words","places","place","word"] ["words"] (fD qJ):=⟨rfl,rfl,rfl,dk,rfl,dk,dk⟩
seal fM PS PE PT PA PG PI fT fS in
theorem D5{f:Addr}{fd:FuncData}(D:Df K mg "places_by_word" qJ f fd)(T:Txt mg):fx P w K mg base fE 1 f fd ["words"] yj:=by
 refine D.F.ok sr (fun vs H Q E h=>?_) (fun cdv A outer s H vs Q E hr h=>?_)
 ·obtain⟨a,ws,rfl,_⟩:=h
  rfl
 ·obtain⟨a,ws,rfl,hA,hlen,k⟩:=h
  have hl:(sizeLine:Nat)=16777216:=sizeLine_eq
  refine⟨_,fq (fG (i:=1) sr.nd rfl (Or.inl rfl) mE)
   (fq (gO PassesOwn.never rfl (oq rfl T.enum (eY (pv 0) fe)) (jj (n:=2) rfl (gJ (fR (i:=2) sr.nd rfl (Or.inl rfl)) (gJ (fR (i:=3) sr.nd rfl (Or.inl rfl)) jh)))
    (fA (gB (gQ F.plainAttrs_list F.slot_list_append F.type_list_append iO
     (PE.imp (t':=sO 1 3) (gQ F.plainAttrs_dict F.slot_dict_setdefault F.type_dict_setdefault uY (pv 1) (eY (pv 3) (eY (gf fe) fe))) fun _ _ _=>getL) (eY (pv 2) fe)))))
   (fA (fP (pv 1)))),?_⟩
  intro d hd
  refine⟨_,rfl,a,sl ws,rfl,fC hd _ _ hA,?_⟩
  refine oA (xs:=sl ws) (fun i σ H'=>∃(es:En) (o2 o3:Option V),σ=[some (.ref a),some (.ref d),o2,o3]/\eZ H H'/\DL H H' d es (FP (ws.take i))/\es.length<=i/\(∀ x,x∈es.map (·.1)↔x∈ws.take i)) ?_ ?_ ?_ ?_
  ·exact⟨[],none,none,rfl,fC hd,⟨fv,List.nodup_nil,List.nodup_nil,(fun e he=>nomatch he),(fun e he=>nomatch he)⟩,Nat.le_refl _,fun x=>by simp⟩
  ·rintro i σ H' _ ⟨es,o2,o3,_,sm,_⟩
   exact sm _ _ hA
  ·rintro i x σ H' t hx ⟨es,o2,o3,rfl,sm,U,ae,I⟩ ht
   obtain⟨J,af,rfl⟩:=xq hx
   have st:eZ H' (upd H' t (.tup [.int i,.str J])):=fC ht
   have ar:=(List.getElem?_eq_some_iff.mp af).1
   refine⟨t,_,rfl,gb.of fv,rfl,_,_,rfl,_,_,rfl,rfl,?_⟩
   generalize upd H' t (.tup [.int i,.str J])=H1 at st ⊢
   have ai:=sm.trans st
   have e1:ws.take (i + 1)=ws.take i++[J]:=take_snoc af
   have e2:(ws.take i).length=i:=sC af
   have ag:∀ u:Str,u≠J->gp u (ws.take (i + 1)) 0=gp u (ws.take i) 0:=fun u hu=>by
    rw [e1,uT,if_neg (fun q=>hu q.symm),List.append_nil]
   have ah:gp J (ws.take (i + 1)) 0=gp J (ws.take i) 0++[i]:=by
    rw [e1,uT,if_pos rfl,e2,Nat.zero_add]
   refine⟨H,d,es,J,FP (ws.take i),rfl,rfl,⟨st _ _ U.d,U.k,U.a,U.n,fun e he=>st _ _ (U.f e he)⟩,by omega,fun z hz=>ai.free hz,fun e he=>⟨_,st _ _ (U.f e he)⟩,?_,?_,?_⟩
   ·intro G b y l sb hb hf
    exact sb _ _ hf fun q=>by rw [q,st _ _ U.d] at hb;cases hb
   ·intro G z hn hz
    show G z=_
    rw [hz,(tN J _ 0).mpr fun q=>hn ((I J).mpr q)]
    rfl
   ·rintro p aj H2 sb aa hp ak ⟨l,ao⟩
    have ab:H2 p=some (.lst (nl (gp J (ws.take i) 0))):=aa.f _ hp
    refine⟨.inl ⟨rfl,_,fj.of ab⟩,_,rfl,p,_,_,rfl,rfl,ab,(by rw [ia];have:=sY J (ws.take i) 0;omega),?_⟩
    have aq:d≠p:=fun q=>by rw [<-q,aa.d] at ao;cases ao
    refine⟨aj,_,_,rfl,fun b u q=>?_,aa.put hp (by rw [fB aq];exact aa.d) (fun e he n1 n2 hf=>?_) ?_,?_,fun x=>?_⟩
    ·rw [fB (fW q (aa.n _ hp))]
     exact sb.new ai hd _ _ q
    ·show upd H2 p _ e.2=_
     rw [fB n2,ag e.1 n1]
     exact hf
    ·show upd H2 p _ p=_
     rw [fv,ah,jx]
     rfl
    ·rcases ak with rfl | ⟨_,rfl,_⟩
     ·omega
     ·rw [List.length_append]
      show es.length + 1<=i + 1
      omega
    ·have hm:x∈aj.map (·.1)↔x∈es.map (·.1)\/x=J:=by
      rcases ak with rfl | ⟨_,rfl,_⟩
      ·exact⟨.inl,fun q=>q.elim id fun z=>by rw [z];exact List.mem_map.mpr ⟨_,hp,rfl⟩⟩
      ·rw [List.map_append,List.mem_append]
       show(_\/x∈[J])↔_
       rw [List.mem_singleton]
     rw [hm,I,e1,List.mem_append,List.mem_singleton]
  ·rintro σ H' ⟨es,o2,o3,rfl,sm,U,ae,I⟩
   have e:(sl ws).length=ws.length:=List.length_map _
   rw [e] at U ae I
   rw [List.take_length] at U I
   exact⟨_,rfl,k d es H' sm hd U ae I⟩
end
theorem ip.but {H H':Hp}{v:V}{r:Pr}{x:Addr}(h:ip H v r)(s:SameBut x H H')(nt:∀ ts,H x≠some (.tup ts)):ip H' v r:=by
 cases h with
 | mk h ht=>exact .mk (s _ _ h fun z=>nt _ (by rw [<-z];exact h)) (s _ _ ht fun z=>nt _ (by rw [<-z];exact ht))
theorem gC.but {H H':Hp}{a x:Addr}{row:List Pr}(h:gC H a row)(s:SameBut x H H')(na:a≠x)(nt:∀ ts,H x≠some (.tup ts)):gC H' a row:=by
 obtain⟨xs,h1,h2⟩:=h
 exact⟨xs,s _ _ h1 na,Gn.Paired.imp2 h2 fun _ _ q=>q.but s nt⟩
theorem gC.snoc {H:Hp}{p:Addr}{xs:List V}{row:List Pr}{v:V}{r:Pr}(hp:H p=some (.lst xs))(h:Paired (ip H) xs row)(hv:ip H v r):gC (upd H p (.lst (xs++[v]))) p (row++[r]):=by
 have s:SameBut p H (upd H p (.lst (xs++[v]))):=fun b u e hb=>by rw [fB hb];exact e
 have I:∀ J,H p≠some (.tup J):=fun J z=>by rw [hp] at z;cases z
 exact⟨_,fv,Gn.Paired.app (Gn.Paired.imp2 h fun _ _ q=>q.but s I) (hv.but s I)⟩
section
variable {P : Program} {w : World} {K : PySem.W.Frag} {mg : Str -> Option Value} {base : Heap}
def FK(ro:Str->List Pr):Hp->Addr->Str->Prop:=fun H a w=>H a=some (.lst (nl (pk (rn 0 (ro w)))))
def uE:Sp:=fun vs H Q _=>∃(d:Addr) (es:En) (J:Str->List Pr),vs=[.ref d]/\H d=some (.dK (gw es))/\(es.map (·.1)).Nodup/\es.length<=9000/\(∀ e∈es,gC H e.2 (J e.1)/\jz 0 (J e.1)/\Sz (J e.1))/\
 ∀ p I H',SameBut d H H'->H p=none->DL H H' p I (FK J)->I.map (·.1)=es.map (·.1)->Q (.ref p) H'
theorem vR:fU ["rows","packed","word"] ["rows"] (fD oR):=⟨rfl,rfl,rfl,dk,rfl,dk,dk⟩
seal fM PS PE PT PA PG PI fT fS in
theorem Cv{f fp:Addr}{fd fdp:FuncData}(D:Df K mg "packed_rows" oR f fd)(DP:Df K mg "packed_row" oC fp fdp)(GP:fx P w K mg base fE 5 fp fdp ["row"] zu):fx P w K mg base fE 6 f fd ["rows"] uE:=by
 have bP:=gu (p:="row") DP.F fun _ _ _ _ _ _ _=>rfl
 refine D.F.ok vR (fun vs H Q E h=>?_) (fun cdv A outer s H vs Q E hr h=>?_)
 ·obtain⟨d,es,ro,rfl,_⟩:=h
  rfl
 ·obtain⟨d,es,ro,rfl,hd,hn,hlen,ae,k⟩:=h
  have hl:(sizeLine:Nat)=16777216:=sizeLine_eq
  have hu:=kq hr
  refine⟨_,fq (fG (i:=1) vR.nd rfl (Or.inl rfl) mE)
   (fq (gO PassesOwn.never rfl (vx (pv 0)) (fR (i:=2) vR.nd rfl (Or.inl rfl))
    (fA (qF hu (pv 1) (pv 2) (fN GP hr rfl DP.m DP.F.kp bP .nil fL (eY (qw hu (pv 0) (pv 2) (fun _ _=>rfl)) fe)) rfl)))
   (fA (fP (pv 1)))),?_⟩
  intro p hp
  have aa:d≠p:=fW hd hp
  refine⟨_,rfl,d,gw es,rfl,(by rw [fB aa];exact hd),fun o=>?_⟩
  refine uV (kvs:=gw es) (fun i σ H'=>∃(I:En) (o2:Option V),σ=[some (.ref d),some (.ref p),o2]/\SameBut d H H'/\H' d=some (.frz o (.dK (gw es)))/\DL H H' p I (FK ro)/\I.map (·.1)=(es.map (·.1)).take i) ?_ ?_ ?_ ?_
  ·refine⟨[],none,rfl,fun b u e hb=>?_,fv,⟨?_,List.nodup_nil,List.nodup_nil,(fun e he=>nomatch he),(fun e he=>nomatch he)⟩,rfl⟩
   ·rw [fB hb,fB (fW e hp)]
    exact e
   ·rw [fB (Ne.symm aa),fv]
    rfl
  ·rintro i σ H' _ ⟨_,_,_,_,h,_⟩
   exact h
  ·rintro i kv σ H' ai ⟨I,o2,rfl,sm,U,hD,J⟩
   obtain⟨e,he,rfl⟩:=uf ai
   have af:=List.mem_of_getElem? he
   obtain⟨hR,hok,hsz⟩:=ae e af
   have aj:e.2≠d:=fun z=>by
    obtain⟨xs,h1,_⟩:=hR
    rw [z,hd] at h1
    cases h1
   have ak:gC H' e.2 (ro e.1):=hR.but sm aj fun ts z=>by rw [hd] at z;cases z
   refine⟨_,rfl,_,rfl,d,.ref e.2,rfl,.inl ⟨gw es,Sum.inr e.1,.inr ⟨o,U⟩,rfl,(vz hn af).symm⟩,?_⟩
   refine⟨e.2,ro e.1,rfl,ak,hok,hsz,fun q H2 s2 hq hQ=>?_⟩
   have ab:=s2 _ _ hD.d
   have ao:I.length<=i:=by
    have:=congrArg List.length J
    rw [List.length_map,List.length_take] at this
    omega
   have au:=(List.getElem?_eq_some_iff.mp he).1
   refine⟨_,rfl,_,rfl,p,_,rfl,j7.k (k:=Sum.inr e.1) ab (by rw [oF];omega),?_⟩
   have ag:e.1∉I.map (·.1):=by
    rw [J]
    exact p5 hn (o9 he)
   have aq:H q=none:=sm.free U hq
   have ar:q≠p:=fun z=>by rw [z,ab] at hQ;cases hQ
   refine⟨I++[(e.1,q)],_,rfl,fun b u q1 q2=>?_,?_,hD.new ag aq (fun z=>?_) ?_ (fun e' ah n1 n2 hf=>?_) ?_,?_⟩
   ·rw [fB (fW q1 hp)]
    exact s2 _ _ (sm _ _ q1 q2)
   ·rw [fB aa]
    exact s2 _ _ U
   ·obtain⟨e',ah,z⟩:=List.mem_map.mp z
    have:=hD.f e' ah
    rw [z,FK,hq] at this
    cases this
   ·rw [fv,ve (qQ ag)]
   ·have h1:H2 e'.2=_:=s2 _ _ hf
    show upd H2 p _ e'.2=_
    rw [fB (fun z=>by rw [z,ab] at h1;cases h1)]
    exact h1
   ·show upd H2 p _ q=_
    rw [fB ar]
    exact hQ
   ·rw [List.map_append,J,take_snoc (o9 he)]
    rfl
  ·rintro σ H' ⟨I,o2,rfl,sm,U,hD,J⟩
   rw [oF] at J
   refine⟨_,rfl,k p I H' sm hp hD ?_⟩
   rw [J,List.take_of_length_le (by rw [List.length_map];exact Nat.le_refl _)]
def FX(f:Str->List V):Hp->Addr->Str->Prop:=fun H a w=>H a=some (.lst (f w))
def yf:Sp:=fun vs H Q _=>∃(d:Addr) (es:En) (f:Str->List V),vs=[.ref d]/\H d=some (.dK (gw es))/\(es.map (·.1)).Nodup/\es.length<=9000/\(∀ e∈es,H e.2=some (.lst (f e.1)))/\
 ∀ p I H',SameBut d H H'->H p=none->DL H H' p I (FX f)->I.map (·.1)=es.map (·.1)->Q (.ref p) H'
theorem vi:fU ["rows","copies","word"] ["rows"] (fD pT):=⟨rfl,rfl,rfl,dk,rfl,dk,dk⟩
seal fM PS PE PT PA PG PI fT fS in
theorem Fm{f:Addr}{fd:FuncData}(D:Df K mg "copied_rows" pT f fd)(T:Txt mg):fx P w K mg base fE 1 f fd ["rows"] yf:=by
 refine D.F.ok vi (fun vs H Q E h=>?_) (fun cdv A outer s H vs Q E hr h=>?_)
 ·obtain⟨d,es,ro,rfl,_⟩:=h
  rfl
 ·obtain⟨d,es,fl,rfl,hd,hn,hlen,ae,k⟩:=h
  have hl:(sizeLine:Nat)=16777216:=sizeLine_eq
  have hu:=kq hr
  refine⟨_,fq (fG (i:=1) vi.nd rfl (Or.inl rfl) mE)
   (fq (gO PassesOwn.never rfl (vx (pv 0)) (fR (i:=2) vi.nd rfl (Or.inl rfl))
    (fA (qF hu (pv 1) (pv 2) (mm pS rfl T.list kZ (eY (qw hu (pv 0) (pv 2) (fun _ _=>rfl)) fe)) rfl)))
   (fA (fP (pv 1)))),?_⟩
  intro p hp
  have aa:d≠p:=fW hd hp
  refine⟨_,rfl,d,gw es,rfl,(by rw [fB aa];exact hd),fun o=>?_⟩
  refine uV (kvs:=gw es) (fun i σ H'=>∃(I:En) (o2:Option V),σ=[some (.ref d),some (.ref p),o2]/\SameBut d H H'/\H' d=some (.frz o (.dK (gw es)))/\DL H H' p I (FX fl)/\I.map (·.1)=(es.map (·.1)).take i) ?_ ?_ ?_ ?_
  ·refine⟨[],none,rfl,fun b u e hb=>?_,fv,⟨?_,List.nodup_nil,List.nodup_nil,(fun e he=>nomatch he),(fun e he=>nomatch he)⟩,rfl⟩
   ·rw [fB hb,fB (fW e hp)]
    exact e
   ·rw [fB (Ne.symm aa),fv]
    rfl
  ·rintro i σ H' _ ⟨_,_,_,_,h,_⟩
   exact h
  ·rintro i kv σ H' ai ⟨I,o2,rfl,sm,U,hD,J⟩
   obtain⟨e,he,rfl⟩:=uf ai
   have af:=List.mem_of_getElem? he
   have hR:=ae e af
   have aj:e.2≠d:=fun z=>by rw [z,hd] at hR;cases hR
   have ak:=sm _ _ hR aj
   refine⟨_,rfl,_,rfl,d,.ref e.2,rfl,.inl ⟨gw es,Sum.inr e.1,.inr ⟨o,U⟩,rfl,(vz hn af).symm⟩,?_⟩
   refine⟨e.2,fl e.1,rfl,.inl (fj.of ak),fun q hq=>?_⟩
   have s2:eZ H' (upd H' q (.lst (fl e.1))):=fC hq
   have hQ:upd H' q (.lst (fl e.1)) q=some (.lst (fl e.1)):=fv
   generalize upd H' q (.lst (fl e.1))=H2 at s2 hQ ⊢
   have ab:=s2 _ _ hD.d
   have ao:I.length<=i:=by
    have:=congrArg List.length J
    rw [List.length_map,List.length_take] at this
    omega
   have au:=(List.getElem?_eq_some_iff.mp he).1
   refine⟨_,rfl,_,rfl,p,_,rfl,j7.k (k:=Sum.inr e.1) ab (by rw [oF];omega),?_⟩
   have ag:e.1∉I.map (·.1):=by
    rw [J]
    exact p5 hn (o9 he)
   have aq:H q=none:=sm.free U hq
   have ar:q≠p:=fun z=>by rw [z,ab] at hQ;cases hQ
   refine⟨I++[(e.1,q)],_,rfl,fun b u q1 q2=>?_,?_,hD.new ag aq (fun z=>?_) ?_ (fun e' ah n1 n2 hf=>?_) ?_,?_⟩
   ·rw [fB (fW q1 hp)]
    exact s2 _ _ (sm _ _ q1 q2)
   ·rw [fB aa]
    exact s2 _ _ U
   ·obtain⟨e',ah,z⟩:=List.mem_map.mp z
    have:=hD.f e' ah
    rw [z,FX,hq] at this
    cases this
   ·rw [fv,ve (qQ ag)]
   ·have h1:H2 e'.2=_:=s2 _ _ hf
    show upd H2 p _ e'.2=_
    rw [fB (fun z=>by rw [z,ab] at h1;cases h1)]
    exact h1
   ·show upd H2 p _ q=_
    rw [fB ar]
    exact hQ
   ·rw [List.map_append,J,take_snoc (o9 he)]
    rfl
  ·rintro σ H' ⟨I,o2,rfl,sm,U,hD,J⟩
   rw [oF] at J
   refine⟨_,rfl,k p I H' sm hp hD ?_⟩
   rw [J,List.take_of_length_le (by rw [List.length_map];exact Nat.le_refl _)]
end
structure iK (fz : List (List Str)) : Prop where
 l : fz.length <= 300
 t : gx fz <= 1300
theorem iK.sz {fz:List (List Str)}(h:iK fz)(x:Str):Sz (rowOf x fz 0):=by
 have h1:=(pQ x fz 0).1
 have h2:=wk x fz 0 0
 have U:=h.l
 have h4:=h.t
 have I:∀ y∈rn 0 (rowOf x fz 0),y < 128 ^ (1 + 1):=fun y J=>by
  have:=y4 x 3000 fz 0 0 (by omega) (fun ws hw=>by have:=uh hw;omega) y J
  have e:128 ^ (1 + 1)=16384:=rfl
  omega
 have h6:=yk 1 _ I
 exact⟨by omega,by omega,by omega⟩
theorem iK.ok {fz:List (List Str)}(x:Str):jz 0 (rowOf x fz 0):=Hw x fz 0 0 (Nat.le_refl _)
section
variable {P : Program} {w : World} {K : PySem.W.Frag} {mg : Str -> Option Value} {base : Heap}
def lh(H:Hp):List V->List (List Str)->Prop:=Paired fun v ws=>∃ p,v= .ref p/\H p=some (.lst (sl ws))
theorem lh.same {H H':Hp}{xs:List V}{t:List (List Str)}(h:lh H xs t)(s:eZ H H'):lh H' xs t:=Gn.Paired.imp2 h fun _ _ ⟨p,e,q⟩=>⟨p,e,s _ _ q⟩
def FR(fz:List (List Str)):Hp->Addr->Str->Prop:=fun H a w=>gC H a (rowOf w fz 0)
def yE:Sp:=fun vs H Q _=>∃(a:Addr) (xs:List V) (fz:List (List Str)),vs=[.ref a]/\H a=some (.lst xs)/\lh H xs fz/\iK fz/\
 ∀ p es H',eZ H H'->H p=none->DL H H' p es (FK fun x=>rowOf x fz 0)->es.length<=gx fz->(∀ x,x∈es.map (·.1)↔∃ ws∈fz,x∈ws)->Q (.ref p) H'
theorem nT:fU ["texts_words","rows","number","words","places","word"] ["texts_words"] (fD p1):=⟨rfl,rfl,rfl,dk,rfl,dk,dk⟩
def mid(t1 t2:List (List Str))(ks:List Str)(x:Str):List Pr:=if x∈ks then rowOf x t2 0 else rowOf x t1 0
def FM(t1 t2:List (List Str))(ks:List Str):Hp->Addr->Str->Prop:=fun H a w=>gC H a (mid t1 t2 ks w)
theorem B3{t1 t2:List (List Str)}{ks:List Str}{x y:Str}(h:y≠x):mid t1 t2 (ks++[x]) y=mid t1 t2 ks y:=by
 unfold mid
 have e:(y∈ks++[x])↔y∈ks:=by
  rw [List.mem_append,List.mem_singleton]
  exact⟨fun q=>q.elim id fun z=>absurd z h,.inl⟩
 by_cases q:y∈ks
 ·rw [if_pos q,if_pos (e.mpr q)]
 ·rw [if_neg q,if_neg (fun z=>q (e.mp z))]
theorem Cq{t1 t2:List (List Str)}{ks:List Str}{x:Str}:mid t1 t2 (ks++[x]) x=rowOf x t2 0:=if_pos (by simp)
theorem rk{t1 t2:List (List Str)}{ks:List Str}{x:Str}(h:x∉ks):mid t1 t2 ks x=rowOf x t1 0:=if_neg h
seal fM PS PE PT PA PG PI fT fS in
theorem Ic{f fp fr:Addr}{fd fdp fdr:FuncData}(D:Df K mg "rows_by_word" p1 f fd)(DP:Df K mg "places_by_word" qJ fp fdp)(GP:fx P w K mg base fE 1 fp fdp ["words"] yj)
  (DR:Df K mg "packed_rows" oR fr fdr)(GR:fx P w K mg base fE 6 fr fdr ["rows"] uE)(T:Txt mg):fx P w K mg base fE 7 f fd ["texts_words"] yE:=by
 have bP:=gu (p:="words") DP.F fun _ _ _ _ _ _ _=>rfl
 have bR:=gu (p:="rows") DR.F fun _ _ _ _ _ _ _=>rfl
 refine D.F.ok nT (fun vs H Q E h=>?_) (fun cdv A outer s H vs Q E hr h=>?_)
 ·obtain⟨a,xs,fz,rfl,_⟩:=h
  rfl
 ·obtain⟨a,xs,fz,rfl,hA,hW,ai,k⟩:=h
  have hl:(sizeLine:Nat)=16777216:=sizeLine_eq
  have hu:=kq hr
  have aW:=Gn.Paired.len hW
  have bb:=ai.l
  have bc:=ai.t
  refine⟨_,fq (fG (i:=1) nT.nd rfl (Or.inl rfl) mE)
   (fq (gO PassesOwn.never rfl (oq rfl T.enum (eY (pv 0) fe)) (jj (n:=2) rfl (gJ (fR (i:=2) nT.nd rfl (Or.inl rfl)) (gJ (fR (i:=3) nT.nd rfl (Or.inl rfl)) jh)))
    (fq (fG (i:=4) nT.nd rfl (Or.inl rfl) (fN (GP.mono (by decide)) hr rfl DP.m DP.F.kp bP .nil fL (eY (pv 3) fe)))
    (fA (gO PassesOwn.never rfl (vx (pv 4)) (fR (i:=5) nT.nd rfl (Or.inl rfl))
     (fA (gB (gQ F.plainAttrs_list F.slot_list_append F.type_list_append iO
      (PE.imp (t':=sO 1 5) (gQ F.plainAttrs_dict F.slot_dict_setdefault F.type_dict_setdefault uY (pv 1) (eY (pv 5) (eY (gf fe) fe))) fun _ _ _=>getL)
      (eY (iV (eY (pv 2) (eY (mm xl rfl T.tuple px (eY (qw hu (pv 4) (pv 5) (fun _ _=>rfl)) fe)) fe))) fe))))))))
   (fA (fP (fN GR hr rfl DR.m DR.F.kp bR .nil fL (eY (pv 1) fe))))),?_⟩
  intro d hd
  refine⟨_,rfl,a,xs,rfl,fC hd _ _ hA,?_⟩
  refine oA (xs:=xs) (fun i σ H'=>∃(es:En) (o2 o3 o4 o5:Option V),σ=[some (.ref a),some (.ref d),o2,o3,o4,o5]/\eZ H H'/\DL H H' d es (FR (fz.take i))/\es.length<=gx (fz.take i)/\(∀ x,x∈es.map (·.1)↔∃ ws∈fz.take i,x∈ws)) ?_ ?_ ?_ ?_
  ·exact⟨[],none,none,none,none,rfl,fC hd,⟨fv,List.nodup_nil,List.nodup_nil,(fun e he=>nomatch he),(fun e he=>nomatch he)⟩,Nat.le_refl _,fun x=>by simp⟩
  ·rintro i σ H' _ ⟨_,_,_,_,_,_,sm,_⟩
   exact sm _ _ hA
  ·rintro i x σ H' t hx ⟨es,o2,o3,o4,o5,rfl,sm,U,af,aa⟩ ht
   obtain⟨ws,av,pw,rfl,aX⟩:=gW hW hx
   have st:eZ H' (upd H' t (.tup [.int i,.ref pw])):=fC ht
   refine⟨t,_,rfl,gb.of fv,rfl,_,_,rfl,_,_,rfl,rfl,?_⟩
   generalize upd H' t (.tup [.int i,.ref pw])=H1 at st ⊢
   have bf:ws.length<=1300:=by have:=uh (List.mem_of_getElem? av);omega
   have aB:=sm.trans st
   refine⟨_,rfl,pw,ws,rfl,aB _ _ aX,by omega,fun dp ep H2 s2 aC hP aY ab=>?_⟩
   have aZ:=aB.trans s2
   have aK:=st.trans s2
   refine⟨_,rfl,dp,gw ep,rfl,hP.d,fun o=>?_⟩
   have e1:fz.take (i + 1)=fz.take i++[ws]:=take_snoc av
   have e2:(fz.take i).length=i:=sC av
   have aL:H dp=none:=aB.free aC
   have aM:d≠dp:=fun z=>by rw [<-z,st _ _ U.d] at aC;cases aC
   have aw:∀ u,u∈ws->rowOf u (fz.take (i + 1)) 0=rowOf u (fz.take i) 0++[(i,gp u ws 0)]:=fun u aD=>by
    rw [e1,uC,if_pos aD,e2,Nat.zero_add]
   have aj:∀ u,u∉ws->rowOf u (fz.take (i + 1)) 0=rowOf u (fz.take i) 0:=fun u aD=>by
    rw [e1,uC,if_neg aD,List.append_nil]
   refine uV (kvs:=gw ep) (fun j σ H3=>∃(es:En) (o5:Option V),σ=[some (.ref a),some (.ref d),some (.int (i:Int)),some (.ref pw),some (.ref dp),o5]/\eZ H H3/\H3 dp=some (.frz o (.dK (gw ep)))/\
    (∀ e∈ep,H3 e.2=some (.lst (nl (gp e.1 ws 0))))/\(∀ e∈ep,∀ J∈es,e.2≠J.2)/\DL H H3 d es (FM (fz.take i) (fz.take (i + 1)) ((ep.map (·.1)).take j))/\es.length<=gx (fz.take i) + j/\
    (∀ x,x∈es.map (·.1)↔(∃ ws∈fz.take i,x∈ws)\/x∈(ep.map (·.1)).take j)) ?_ ?_ ?_ ?_
   ·have a0:=aK _ _ U.d
    refine⟨es,_,rfl,fun b u e=>?_,fv,fun e he=>?_,fun e he J I z=>?_,⟨?_,U.k,U.a,U.n,fun e he=>?_⟩,af,fun x=>?_⟩
    ·rw [fB (fW e aL)]
     exact aZ _ _ e
    ·have h1:H2 e.2=_:=hP.f e he
     rw [fB (fun z=>by rw [z,hP.d] at h1;cases h1)]
     exact h1
    ·obtain⟨ys,h1,_⟩:=U.f J I
     have h2:=hP.n e he
     rw [z,st _ _ h1] at h2
     cases h2
    ·rw [fB aM]
     exact a0
    ·show gC _ e.2 (mid _ _ _ e.1)
     rw [rk (by simp)]
     have hR:gC H2 e.2 (rowOf e.1 (fz.take i) 0):=(U.f e he).same aK
     refine hR.but (x:=dp) (fun b u q hb=>by rw [fB hb];exact q) (fun z=>?_) fun ts z=>by rw [hP.d] at z;cases z
     obtain⟨ys,h1,_⟩:=hR
     rw [z,hP.d] at h1
     cases h1
    ·rw [aa]
     simp
   ·rintro j σ H3 _ ⟨_,_,_,_,h,_⟩
    exact h
   ·rintro j kv σ H3 a3 ⟨es,o5,rfl,ax,aN,ay,aE,U,af,aa⟩
    obtain⟨e,he,rfl⟩:=uf a3
    have aF:=List.mem_of_getElem? he
    have aO:=o9 he
    have aG:(ep.map (·.1)).take (j + 1)=(ep.map (·.1)).take j++[e.1]:=take_snoc aO
    have ak:e.1∉(ep.map (·.1)).take j:=p5 hP.k aO
    have aP:e.1∈ws:=(ab e.1).mp (List.mem_map.mpr ⟨e,aF,rfl⟩)
    have bg:=(List.getElem?_eq_some_iff.mp he).1
    have bh:=Av fz i
    have a4:∀ J∈es,∃ l,H3 J.2=some (.lst l):=fun J I=>let ⟨ys,h1,_⟩:=U.f J I;⟨ys,h1⟩
    refine⟨H,d,es,e.1,FM (fz.take i) (fz.take (i + 1)) ((ep.map (·.1)).take j),rfl,rfl,U,by omega,fun z hz=>ax.free hz,a4,?_,?_,?_⟩
    ·intro G b y l sb hb hf
     exact gC.but hf sb (fun q=>by rw [q,U.d] at hb;cases hb) fun ts q=>by rw [U.d] at q;cases q
    ·intro G z hn hz
     refine⟨[],hz,?_⟩
     rw [rk ak,(nX e.1 _ 0).mpr fun ao a5 q=>hn ((aa e.1).mpr (.inl ⟨ao,a5,q⟩))]
     exact .nil
    ·rintro p aq H4 sb ar hp aH ⟨l,aY⟩
     obtain⟨ys,ag,aI⟩:=ar.f _ hp
     rw [rk ak] at aI
     have a6:dp≠d:=Ne.symm aM
     have ae:=sb _ _ aN a6
     have aQ:∀ J∈ep,J.2≠d:=fun J I q=>by
      have:=ay J I
      rw [q,U.d] at this
      cases this
     have az:∀ J∈ep,H4 J.2=some (.lst (nl (gp J.1 ws 0))):=fun J I=>sb _ _ (ay J I) (aQ J I)
     have aA:∀ J∈ep,∀ e2∈aq,J.2≠e2.2:=fun J I e2 he2=>by
      rcases aH with rfl | ⟨_,rfl,a7⟩
      ·exact aE J I e2 he2
      ·rcases List.mem_append.mp he2 with he2 | he2
       ·exact aE J I e2 he2
       ·rw [List.mem_singleton.mp he2]
        exact fW (ay J I) a7
     have bj:ys.length<=300:=by
      have h1:=Gn.Paired.len aI
      have h2:=(pQ e.1 (fz.take i) 0).1
      have h3:=(List.getElem?_eq_some_iff.mp av).1
      rw [h1]
      show(rowOf e.1 (fz.take i) 0).length<=300
      omega
     refine⟨.inl ⟨rfl,_,fj.of ag⟩,?_⟩
     refine⟨_,rfl,_,rfl,_,rfl,dp,.ref e.2,rfl,.inl ⟨gw ep,Sum.inr e.1,.inr ⟨o,ae⟩,rfl,(vz hP.k aF).symm⟩,?_⟩
     refine⟨e.2,_,rfl,.inl ⟨fj.of (az e aF),fun pt a8=>⟨(by show 2<=sizeLine;decide),fun pp aR=>?_⟩⟩⟩
     have s5:eZ H4 (upd H4 pt (.tup (nl (gp e.1 ws 0)))):=fC a8
     have h5:(upd H4 pt (.tup (nl (gp e.1 ws 0)))) pt=some (.tup (nl (gp e.1 ws 0))):=fv
     generalize upd H4 pt (.tup (nl (gp e.1 ws 0)))=H5 at s5 h5 aR ⊢
     have s6:eZ H5 (upd H5 pp (.tup [.int (i:Int),.ref pt])):=fC aR
     have h6:(upd H5 pp (.tup [.int (i:Int),.ref pt])) pp=some (.tup [.int (i:Int),.ref pt]):=fv
     generalize upd H5 pp (.tup [.int (i:Int),.ref pt])=H6 at s6 h6 ⊢
     have aJ:=s5.trans s6
     have hv:ip H6 (.ref pp) (i,gp e.1 ws 0):= .mk h6 (s6 _ _ h5)
     have aS:Paired (ip H6) ys (rowOf e.1 (fz.take i) 0):=Gn.Paired.imp2 aI fun _ _ q=>q.same aJ
     have aT:=aJ _ _ ag
     refine⟨p,ys,_,rfl,rfl,aT,by omega,?_⟩
     have ah:SameBut p H4 (upd H6 p (.lst (ys++[.ref pp]))):=fun b u q hb=>by rw [fB hb];exact aJ _ _ q
     have aU:=gC.snoc aT aS hv
     generalize upd H6 p (.lst (ys++[.ref pp]))=H7 at ah aU ⊢
     have a9:d≠p:=fun q=>by rw [<-q,ar.d] at ag;cases ag
     have nt:∀ ts,H4 p≠some (.tup ts):=fun ts q=>by rw [ag] at q;cases q
     refine⟨aq,_,rfl,fun b u q=>?_,?_,fun J I=>?_,aA,ar.put hp (ah _ _ ar.d a9) (fun J I n1 n2 hf=>?_) ?_,?_,fun x=>?_⟩
     ·exact ah _ _ (sb.new ax hd _ _ q) (fW q (ar.n _ hp))
     ·exact ah _ _ ae fun q=>by rw [q,ag] at ae;cases ae
     ·exact ah _ _ (az J I) (aA J I _ hp)
     ·show gC H7 J.2 (mid _ _ _ J.1)
      rw [aG,B3 n1]
      exact gC.but hf ah n2 nt
     ·show gC H7 p (mid _ _ _ e.1)
      rw [aG,Cq,aw e.1 aP]
      exact aU
     ·rcases aH with rfl | ⟨_,rfl,_⟩
      ·omega
      ·rw [List.length_append]
       show es.length + 1<=_
       omega
     ·have hm:x∈aq.map (·.1)↔x∈es.map (·.1)\/x=e.1:=by
       rcases aH with rfl | ⟨_,rfl,_⟩
       ·exact⟨.inl,fun q=>q.elim id fun z=>by rw [z];exact List.mem_map.mpr ⟨_,hp,rfl⟩⟩
       ·rw [List.map_append,List.mem_append]
        show(_\/x∈[e.1])↔_
        rw [List.mem_singleton]
      rw [hm,aa,aG,List.mem_append,List.mem_singleton,or_assoc]
   ·rintro σ H3 ⟨es,o5,rfl,ax,aN,ay,aE,U,af,aa⟩
    rw [oF] at U af aa
    have ba:(ep.map (·.1)).take ep.length=ep.map (·.1):=List.take_of_length_le (by rw [List.length_map];exact Nat.le_refl _)
    rw [ba] at U aa
    refine⟨es,_,_,_,_,rfl,ax,⟨U.d,U.k,U.a,U.n,fun e he=>?_⟩,?_,fun x=>?_⟩
    ·have hf:gC H3 e.2 (mid _ _ _ e.1):=U.f e he
     show gC H3 e.2 _
     by_cases q:e.1∈ep.map (·.1)
     ·rw [mid,if_pos q] at hf
      exact hf
     ·rw [rk q] at hf
      rw [aj e.1 fun z=>q ((ab e.1).mpr z)]
      exact hf
    ·rw [e1,Hl]
     omega
    ·rw [aa,e1]
     constructor
     ·rintro(⟨ao,h1,h2⟩ | q)
      ·exact⟨ao,List.mem_append_left _ h1,h2⟩
      ·exact⟨ws,List.mem_append_right _ (List.mem_singleton.mpr rfl),(ab x).mp q⟩
     ·rintro⟨ao,h1,h2⟩
      rcases List.mem_append.mp h1 with h1 | h1
      ·exact .inl ⟨ao,h1,h2⟩
      ·rw [List.mem_singleton.mp h1] at h2
       exact .inr ((ab x).mpr h2)
  ·rintro σ H' ⟨es,o2,o3,o4,o5,rfl,sm,U,af,aa⟩
   rw [aW,List.take_length] at U af aa
   refine⟨_,rfl,d,es,fun x=>rowOf x fz 0,rfl,U.d,U.k,by omega,fun e he=>⟨U.f e he,iK.ok e.1,ai.sz e.1⟩,fun p aq H2 sb hp au aV=>?_⟩
   have hle:=congrArg List.length aV
   rw [List.length_map,List.length_map] at hle
   exact k p aq H2 (sb.new sm hd) (sm.free hp) ⟨au.d,au.k,au.a,fun e he=>sm.free (au.n e he),au.f⟩ (by omega) fun x=>by rw [aV];exact aa x
end
def gm(H:Hp):List V->List (V×V)->Prop:=Paired fun v kt=>∃ p,v= .ref p/\H p=some (.tup [kt.1,kt.2])
theorem gm.same {H H':Hp}{xs:List V}{t:List (V×V)}(h:gm H xs t)(s:eZ H H'):gm H' xs t:=Gn.Paired.imp2 h fun _ _ ⟨p,e,q⟩=>⟨p,e,s _ _ q⟩
def jf:V->Str
 | .str z=>z
 | _=>Str.empty
def ik:List Str->List (V×V)->Option Nat
 | _,[]=>none
 | seen,(k,t)::r=>if fZ 12 k=false then some 0 else if gq t=false then some 1 else if jf k∈seen then some 2 else ik (seen++[jf k]) r
def kp(p:Str×Str):V×V:=(.str p.1,.str p.2)
structure jy (ps : List (Str × Str)) : Prop where
 g : ∀ p ∈ ps, fZ 12 (.str p.1) = true /\ gq (.str p.2) = true
 n : (ps.map (·.1)).Nodup
theorem sI{m:Nat}{v:V}(h:fZ m v=true):∃ z,v= .str z:=by cases v<;>first | exact⟨_,rfl⟩ | cases h
theorem HS{v:V}(h:gq v=true):∃ z,v= .str z:=by cases v<;>first | exact⟨_,rfl⟩ | cases h
theorem vM:∀{kts:List (V×V)} {seen:List Str},ik seen kts=none->∃ ps:List (Str×Str),kts=ps.map kp/\(∀ p∈ps,fZ 12 (.str p.1)=true/\gq (.str p.2)=true)/\(∀ p∈ps,p.1∉seen)/\(ps.map (·.1)).Nodup
 | [],_,_=>⟨[],rfl,(fun p hp=>nomatch hp),(fun p hp=>nomatch hp),List.nodup_nil⟩
 | (k,t)::r,seen,h=>by
  unfold ik at h
  by_cases h1:fZ 12 k=false
  ·rw [if_pos h1] at h;cases h
  ·rw [if_neg h1] at h
   by_cases h2:gq t=false
   ·rw [if_pos h2] at h;cases h
   ·rw [if_neg h2] at h
    by_cases I:jf k∈seen
    ·rw [if_pos I] at h;cases h
    ·rw [if_neg I] at h
     obtain⟨ps,e,a,b,c⟩:=vM h
     obtain⟨z,rfl⟩:=sI (by simpa using h1)
     obtain⟨y,rfl⟩:=HS (by simpa using h2)
     refine⟨(z,y)::ps,by rw [e];rfl,fun p hp=>?_,fun p hp=>?_,?_⟩
     ·rcases List.mem_cons.mp hp with rfl | hp
      ·exact⟨by simpa using h1,by simpa using h2⟩
      ·exact a p hp
     ·rcases List.mem_cons.mp hp with rfl | hp
      ·exact I
      ·exact fun q=>b p hp (List.mem_append_left _ q)
     ·show(z::ps.map (·.1)).Nodup
      refine List.nodup_cons.mpr ⟨fun q=>?_,c⟩
      obtain⟨p,hp,e⟩:=List.mem_map.mp q
      exact b p hp (by rw [e];exact List.mem_append_right _ (List.mem_singleton.mpr rfl))
def iH(ks:List Str):List (Key×V):=ks.zipIdx.map fun p=>((Sum.inr p.1:Key),V.int (p.2:Int))
theorem Hg(ks:List Str)(z:Str):iH (ks++[z])=iH ks++[((Sum.inr z:Key),V.int (ks.length:Int))]:=by
 unfold iH
 rw [List.zipIdx_append,List.map_append]
 simp
theorem Ak(ks:List Str):(iH ks).length=ks.length:=by unfold iH;simp
theorem w4(ks:List Str):(iH ks).map (·.1)=ks.map Sum.inr:=by
 unfold iH
 rw [List.map_map]
 have:((fun x:Key×V=>x.1) ∘ fun p:Str×Nat=>((Sum.inr p.1:Key),V.int (p.2:Int)))=(Sum.inr ∘ Prod.fst:Str×Nat->Key):=rfl
 rw [this,<-List.map_map,List.zipIdx_map_fst]
theorem qS{ks:List Str}{z:Str}(h:z∉ks):gg (iH ks) (Sum.inr z)=none:=by
 cases q:gg (iH ks) (Sum.inr z) with
 | none=>rfl
 | some v=>
  have:=Bt q
  rw [w4] at this
  obtain⟨y,I,e⟩:=List.mem_map.mp this
  rw [Sum.inr.inj e] at I
  exact absurd I h
theorem xD{ks:List Str}{z:Str}(h:z∈ks):∃ v,gg (iH ks) (Sum.inr z)=some v:=by
 cases q:gg (iH ks) (Sum.inr z) with
 | some v=>exact⟨v,rfl⟩
 | none=>
  have:=zr q
  rw [w4] at this
  exact absurd (List.mem_map.mpr ⟨z,h,rfl⟩) this
def kX(C0 C1 C2:Addr):Nat->Addr
 | 0=>C0
 | 1=>C1
 | _=>C2
section
variable {P : Program} {w : World} {K : PySem.W.Frag} {mg : Str -> Option Value} {base : Heap} {CK CT CW : Addr}
def js(K:W.Frag)(H:Hp)(kt:V×V):Prop:=Known K H kt.1/\jq kt.1/\Known K H kt.2/\jq kt.2
def vI(K:W.Frag)(CK CT CW:Addr):Sp:=fun vs H Q E=>∃(a:Addr) (xs:List V) (I:List (V×V)),vs=[.ref a]/\H a=some (.lst xs)/\gm H xs I/\I.length<=1000/\(∀ kt∈I,js K H kt)/\
 (ik [] I=none->∀ p H',eZ H H'->H p=none->H' p=some (.dK (iH (I.map fun kt=>jf kt.1)))->Q (.ref p) H')/\(∀ i,ik [] I=some i->∀ H',eZ H H'->E (.ref (kX CK CT CW i)) none H')
theorem sU:fU ["pairs","numbers","key","text"] ["pairs"] (fD og):=⟨rfl,rfl,rfl,dk,rfl,dk,dk⟩
seal fM PS PE PT PA PG PI fT fS in
theorem FE{f fk ft:Addr}{fd fdk fdt:FuncData}(D:Df K mg "numbers_by_key" og f fd)(DK:Df K mg "need_key" nU fk fdk)(GK:fx P w K mg base (fQ P w) 3 fk fdk ["thing"] (kM K (fZ 12) CK))
  (DT:Df K mg "need_text" ni ft fdt)(GT:fx P w K mg base (fQ P w) 3 ft fdt ["thing"] (kM K gq CT))(X:Ex K mg "Twice" CW)(T:Txt mg):fx P w K mg base (fQ P w) 4 f fd ["pairs"] (vI K CK CT CW):=by
 have bK:=gu (p:="thing") DK.F fun _ _ _ _ _ _ _=>rfl
 have bT:=gu (p:="thing") DT.F fun _ _ _ _ _ _ _=>rfl
 refine D.F.ok1 sU (fun vs H Q E h=>?_) (fun cdv A outer s H vs Q E hr h=>?_)
 ·obtain⟨a,xs,J,rfl,_⟩:=h
  rfl
 ·obtain⟨a,xs,J,rfl,hA,hP,hlen,hk,k1,k2⟩:=h
  have hl:(sizeLine:Nat)=16777216:=sizeLine_eq
  have hu:=kq hr
  have af:=Gn.Paired.len hP
  refine⟨_,fq (fG (i:=1) sU.nd rfl (Or.inl rfl) mE)
   (fq (gO PassesOwn.leaving rfl (gK (pv 0)) (jj (n:=2) rfl (gJ (fR (i:=2) sU.nd rfl (Or.inl rfl)) (gJ (fR (i:=3) sU.nd rfl (Or.inl rfl)) jh)))
    (fq (gB (fN GK hr rfl DK.m DK.F.kp bK .nil (jm (E':=E) (fun _ _ _ h=>h)) (eY (pv 2) fe)))
    (fq (gB (fN GT hr rfl DT.m DT.F.kp bT .nil (jm (E':=E) (fun _ _ _ h=>h)) (eY (pv 3) fe)))
    (fq (gj (kI (vd hu (pv 2) (pv 1))) (fA (ki rfl X.q F.excBase_ValueError dk F.excBase_ValueError rfl X.m (eY gd fe) kg)) gh)
    (fA (qF hu (pv 1) (pv 2) (gn DE rfl T.len g9 (eY (pv 1) fe)) rfl))))))
   (fA (fP (pv 1)))),?_⟩
  intro d hd
  refine⟨_,rfl,a,rfl,⟨_,fj.of (fC hd _ _ hA)⟩,?_⟩
  refine jl (xs:=xs) (fun i σ H'=>∃(o2 o3:Option V),σ=[some (.ref a),some (.ref d),o2,o3]/\eZ H H'/\H' d=some (.dK (iH ((J.take i).map fun kt=>jf kt.1)))/\ik [] J=ik ((J.take i).map fun kt=>jf kt.1) (J.drop i)) ?_ ?_ ?_ ?_
  ·exact⟨none,none,rfl,fC hd,fv,rfl⟩
  ·rintro i σ H' _ ⟨_,_,_,sm,_⟩
   exact fj.of (sm _ _ hA)
  ·rintro i x σ H' hx ⟨o2,o3,rfl,sm,aa,I⟩
   obtain⟨kt,U,p,rfl,hp⟩:=gW hP hx
   obtain⟨kv,tv⟩:=kt
   obtain⟨c1,c2,c3,c4⟩:=hk _ (List.mem_of_getElem? U)
   have ai:=(List.getElem?_eq_some_iff.mp U).1
   rw [lP U] at I
   replace I:ik [] J=(if fZ 12 kv=false then some 0 else if gq tv=false then some 1 else if jf kv∈((J.take i).map fun kt=>jf kt.1) then some 2 else ik (((J.take i).map fun kt=>jf kt.1)++[jf kv]) (J.drop (i + 1))):=I
   refine⟨p,_,rfl,gb.of (sm _ _ hp),rfl,_,_,rfl,_,_,rfl,rfl,?_⟩
   refine⟨_,rfl,kv,rfl,c1.same sm,c2,fun hg H1 s1=>?_,fun hg H1 s1=>?_⟩
   ·rw [if_neg (by rw [hg];decide)] at I
    have ab:=sm.trans s1
    refine⟨_,rfl,tv,rfl,c3.same ab,c4,fun ae H2 s2=>?_,fun ae H2 s2=>?_⟩
    ·rw [if_neg (by rw [ae];decide)] at I
     have ag:=ab.trans s2
     obtain⟨z,rfl⟩:=sI hg
     have hd2:=s2 _ _ (s1 _ _ aa)
     refine⟨_,rfl,_,rfl,d,_,rfl,iF.k (k:=Sum.inr z) hd2,_,rfl,?_⟩
     by_cases hz:z∈(J.take i).map fun kt=>jf kt.1
     ·obtain⟨v,hv⟩:=xD hz
      rw [hv]
      refine fY ⟨by show 1<=sizeLine;decide,k2 2 ?_ H2 ag⟩
      rw [I,if_pos (show jf (V.str z)∈_ from hz)]
     ·rw [qS hz]
      rw [if_neg (show ¬ jf (V.str z)∈_ from hz)] at I
      have ah:((J.take i).map fun kt=>jf kt.1).length=i:=by rw [List.length_map,sC U]
      refine fO ⟨_,rfl,d,_,rfl,hd2,_,rfl,_,rfl,d,_,rfl,j7.k (k:=Sum.inr z) hd2 (by rw [Ak,ah];omega),?_⟩
      refine⟨_,_,rfl,fun b u e=>?_,?_,?_⟩
      ·rw [fB (fW e hd)]
       exact ag _ _ e
      ·rw [fv,xr _ (qS hz),take_snoc U,List.map_append]
       show some (HO.dK (iH _++[((Sum.inr z:Key),V.int ((iH _).length:Int))]))=some (HO.dK (iH (_++[z])))
       rw [Hg,Ak]
      ·rw [I,take_snoc U,List.map_append]
       rfl
    ·rw [if_pos ae] at I
     exact k2 1 I H2 (ab.trans s2)
   ·rw [if_pos hg] at I
    exact k2 0 I H1 (sm.trans s1)
  ·rintro σ H' ⟨o2,o3,rfl,sm,aa,I⟩
   rw [af,List.take_length] at aa
   rw [af,List.drop_length] at I
   exact⟨_,rfl,k1 I d H' sm hd aa⟩
end
end K28
namespace Gn
open PySem L2 PyProof.Rows PySem.Spec
def E6(K:W.Frag):List V->Hp->VK->Prop:=fun xs H Q=>∃ p ys,xs=[.ref p]/\(fj K H p ys\/gb K H p ys)/\Q (.int ys.length) H
theorem tR{X:Cx}{K:W.Frag}(h:X.K=K):jc X (.builtin "len") (E6 K):=by subst h;exact iE
structure lr (K : W.Frag) (x qual : Str) (st : Stmt) (f : Addr) (fd : FuncData) (items : Array Value) : Prop where
 ex : ∃ (oc : Value) (od : Option Addr) (kV doc pm : Value) (an : Option Addr) (cdv ct : Value) (osl : Array (Option Value)) (T : Addr) (o : Obj) (n : Nat),
  fd = W.fnOf x qual (gX st) (gH st) (fD st) (.ref T) kV doc pm an cdv ct /\ K.lookup f = some ⟨oc, od, .func fd, osl⟩ /\ W.codeIn K cdv qual = true /\ K.lookup T = some o /\ o.data = .seq items n
section
variable {P : Program} {w : World} {K : PySem.W.Frag} {mg : Str -> Option Value} {base : Heap}
theorem lr.ok1 {x qual:Str}{st:Stmt}{f:Addr}{fd:FuncData}{items:Array Value}{N ps:List Str}{k:Nat}{sp:Sp}(F:lr K x qual st f fd items)(S:fU N ps (fD st))(len:∀ vs H Q E,sp vs H Q E->vs.length=ps.length)
  (hbody:∀(cdv:Value) (A:Around) (outer:List Env) (s:Shared) (H:Hp) (vs:List V) (Q:VK) (E:XK),gE k (A.deeper (envOfC qual (fD st) s.heap.objs.size f cdv))->sp vs H Q E->
   ∃ t,fM (ib (fQ P w) P w K mg base N qual (fD st) f cdv A outer s H E) (gH st) t/\t {nx:=fun _ H'=>Q .non H',rt:=Q} (L2.start N vs) H):fx P w K mg base (fQ P w) (k + 1) f fd ps sp:=by
 obtain⟨oc,od,kV,doc,pm,an,cdv,ct,U,T,o,n,rfl,lk,I,_⟩:=F.ex
 exact rF lk I S len fun A outer s H vs Q E hr J=>hbody cdv A outer s H vs Q E hr J
theorem lr.binds {x qual:Str}{st:Stmt}{f:Addr}{fd:FuncData}{items:Array Value}{ps:List Str}{ds:List Value}(F:lr K x qual st f fd items)
  (h:∀(T:Addr) (kV doc pm:Value) (an:Option Addr) (cdv ct:Value) (us:List Value),(us++ds).length=ps.length->∃ k:Option (Array Value)->Sem (List (Str×Value)),
   bindArgs (W.fnOf x qual (gX st) (gH st) (fD st) (.ref T) kV doc pm an cdv ct) ⟨us,[]⟩=seqItems? (.ref T) >>= k/\k (some items)=pure (ps.zip (us++ds))):Binds K fd ps ds:=by
 obtain⟨oc,od,kV,doc,pm,an,cdv,ct,I,T,o,n,rfl,lk,J,U,hd⟩:=F.ex
 intro s us X hl
 obtain⟨k,h1,h2⟩:=h T kV doc pm an cdv ct us hl
 exact BindsTo.of_defaults (T:=T) rfl (X _ _ U) hd h1 h2
end
end Gn
namespace K28
open PySem L2 PyProof.Rows PySem.Spec Gn K04 K01 BK
def jS(dn pa sz dr ri:Addr):List (Str×V):=fX "rising" (.ref ri) (fX "rows" (.ref dr) (fX "sizes" (.ref sz) (fX "pairs" (.ref pa) (fX "numbers" (.ref dn) []))))
section
variable {dn pa sz dr ri : Addr}
theorem Hj:(jS dn pa sz dr ri).lookup ("rising":Str)=some (.ref ri):=by
 unfold jS
 rw [iu,if_pos rfl]
theorem ED:(jS dn pa sz dr ri).lookup ("rows":Str)=some (.ref dr):=by
 unfold jS
 rw [iu,if_neg dk,iu,if_pos rfl]
theorem tG:(jS dn pa sz dr ri).lookup ("pairs":Str)=some (.ref pa):=by
 unfold jS
 rw [iu,if_neg dk,iu,if_neg dk,iu,if_neg dk,iu,if_pos rfl]
theorem vU:(jS dn pa sz dr ri).lookup ("numbers":Str)=some (.ref dn):=by
 unfold jS
 rw [iu,if_neg dk,iu,if_neg dk,iu,if_neg dk,iu,if_neg dk,iu,if_pos rfl]
theorem kb{m:Str}(h1:¬ m="rising")(h2:¬ m="rows")(h3:¬ m="sizes")(h4:¬ m="pairs")(h5:¬ m="numbers"):(jS dn pa sz dr ri).lookup m=none:=by
 unfold jS
 rw [iu,if_neg h1,iu,if_neg h2,iu,if_neg h3,iu,if_neg h4,iu,if_neg h5]
 rfl
end
def tw(z:Str):List Str:=(words (codes z)).map fun x=>(⟨x.1.toArray⟩:Str)
theorem Il(z:Str):pb (words (codes z))=sl (tw z):=by
 unfold pb sl tw
 rw [List.map_map]
 rfl
def fz(ps:List (Str×Str)):List (List Str):=ps.map fun p=>tw p.2
structure lQ (H : Hp) (dr : Addr) (t : List (List Str)) (es : En) : Prop where
 d : H dr = some (.dK (gw es))
 k : (es.map (·.1)).Nodup
 w : ∀ x, x ∈ es.map (·.1) ↔ ∃ ws ∈ t, x ∈ ws
 f : ∀ e ∈ es, H e.2 = some (.lst (nl (pk (rn 0 (rowOf e.1 t 0)))))
theorem lQ.same {H H':Hp}{dr:Addr}{t:List (List Str)}{es:En}(h:lQ H dr t es)(s:eZ H H'):lQ H' dr t es:=⟨s _ _ h.d,h.k,h.w,fun e he=>s _ _ (h.f e he)⟩
structure g8 (C : Addr) (H : Hp) (x : Addr) (ps : List (Str × Str)) : Prop where
 ex : ∃ (dx dn pa sz dr ri : Addr) (xs : List V) (es : En) (ts : List Str), H x = some (.ins C dx (jS dn pa sz dr ri)) /\ H dn = some (.dK (iH (ps.map (·.1)))) /\ H pa = some (.lst xs) /\ gm H xs (ps.map kp) /\
  H sz = some (.lst (nl ((fz ps).map List.length))) /\ lQ H dr (fz ps) es /\ H ri = some (.lst (sl ts)) /\ ts.Perm (es.map (·.1)) /\ sortedS ts = true
theorem g8.same {C:Addr}{H H':Hp}{x:Addr}{ps:List (Str×Str)}(h:g8 C H x ps)(s:eZ H H'):g8 C H' x ps:=by
 obtain⟨dx,dn,pa,sz,dr,ri,xs,es,I,h1,h2,J,U,h5,h6,h7,h8,h9⟩:=h.ex
 exact⟨dx,dn,pa,sz,dr,ri,xs,es,I,s _ _ h1,s _ _ h2,s _ _ J,U.same s,s _ _ h5,h6.same s,s _ _ h7,h8,h9⟩
structure iN (K : W.Frag) (mg : Str -> Option Value) (C : Addr) : Prop where
 cl : jL K C
 nN : jP K C "numbers"
 nP : jP K C "pairs"
 nS : jP K C "sizes"
 nR : jP K C "rows"
 nI : jP K C "rising"
 mgC : mg "Book" = some (.ref C)
theorem sv{α:Type} [DecidableEq α]:∀{l m:List α},l.Nodup->(∀ x∈l,x∈m)->l.length<=m.length
 | [],_,_,_=>Nat.zero_le _
 | a::l,m,hn,h=>by
  obtain⟨J,U⟩:=List.nodup_cons.mp hn
  have ha:=h a List.mem_cons_self
  have:=sv (m:=m.erase a) U fun x I=>(List.mem_erase_of_ne fun z=>J (by rw [<-z];exact I)).mpr (h x (List.mem_cons_of_mem _ I))
  rw [List.length_erase_of_mem ha] at this
  have:=List.length_pos_of_mem ha
  rw [List.length_cons]
  omega
def ng(t:List (List Str)):Prop:=∃ us:List Str,us.length < 64/\∀ ws∈t,∀ x∈ws,x∈us
def Ik(H:Hp)(r:V)(t:List (List Str)):Prop:=r= .non\/∃ d es,r= .ref d/\lQ H d t es
section
variable {P : Program} {w : World} {K : PySem.W.Frag} {mg : Str -> Option Value} {base : Heap} {C CK CT CW : Addr}
def rV(K:W.Frag)(C CK CT CW:Addr):Sp:=fun vs H Q E=>∃(x a dx:Addr) (r:V) (xs:List V) (I:List (V×V)),vs=[.ref x,.ref a,r]/\H x=some (.ins C dx [])/\H a=some (.lst xs)/\gm H xs I/\I.length<=300/\(∀ kt∈I,js K H kt)/\
 (∀ ps,I=ps.map kp->jy ps->iK (fz ps)/\ng (fz ps)/\Ik H r (fz ps))/\
 (∀ i,ik [] I=some i->∀ H',eZ H H'->E (.ref (kX CK CT CW i)) none H')/\
 (∀ ps,I=ps.map kp->jy ps->∀ H',g8 C H' x ps->(∀ J,(∀ b u,H' b=some u->(∀ U,H b≠some (.lst U))->J b=some u)->g8 C J x ps)->(∀ b u,H b=some u->b≠x->r≠ .ref b->H' b=some u)->Q .non H')
theorem Ah:fU ["self","pairs","rows","texts_words"] ["self","pairs","rows"] (fD j8):=⟨rfl,rfl,rfl,dk,rfl,dk,dk⟩
theorem xm:(["key","text"]:List Str).Nodup:=dk
theorem IU:(["words"]:List Str).Nodup:=dk
def Dg:TE:=fun σ H Q=>∃(a:Addr) (xs:List V) (ps:List (Str×Str)),σ[1]? =some (some (.ref a))/\H a=some (.lst xs)/\gm H xs (ps.map kp)/\ps.length<=300/\(∀ p∈ps,gq (.str p.2)=true)/\
 ∀ l ys H',eZ H H'->H l=none->H' l=some (.lst ys)->lh H' ys (fz ps)->Q (.ref l) H'
def CP:TE:=fun σ H Q=>∃(a:Addr) (xs:List V) (t:List (List Str)),σ[3]? =some (some (.ref a))/\H a=some (.lst xs)/\lh H xs t/\t.length<=300/\
 ∀ l,H l=none->Q (.ref l) (upd H l (.lst (nl (t.map List.length))))
theorem Iv:bootBuiltins "sorted"=some (.builtin "sorted"):=dk
abbrev N4:List Str:=["self","pairs","rows","texts_words"]
seal fM PS PE PT PA PG PI fT fS in
theorem Hx{f fn fl fr fc:Addr}{fd fdn fdl fdr fdc:FuncData}(F:lr K "__init__" "Book.__init__" j8 f fd #[.none])(B:iN K mg C)(T:Txt mg)
  (DN:Df K mg "numbers_by_key" og fn fdn)(GN:fx P w K mg base (fQ P w) 4 fn fdn ["pairs"] (vI K CK CT CW))
  (DL:Df K mg "plain_words" nZ fl fdl)(GL:fx P w K mg base (fQ P w) 5 fl fdl ["text"] (xJ K CT))
  (DR:Df K mg "rows_by_word" p1 fr fdr)(GR:fx P w K mg base fE 7 fr fdr ["texts_words"] yE)
  (DC:Df K mg "copied_rows" pT fc fdc)(GC:fx P w K mg base fE 1 fc fdc ["rows"] yf):fx P w K mg base (fQ P w) 8 f fd ["self","pairs","rows"] (rV K C CK CT CW):=by
 have bN:=gu (p:="pairs") DN.F fun _ _ _ _ _ _ _=>rfl
 have bL:=gu (p:="text") DL.F fun _ _ _ _ _ _ _=>rfl
 have bR:=gu (p:="texts_words") DR.F fun _ _ _ _ _ _ _=>rfl
 have bC:=gu (p:="rows") DC.F fun _ _ _ _ _ _ _=>rfl
 refine F.ok1 Ah (fun vs H Q E h=>?_) (fun cdv A outer s H vs Q E hr h=>?_)
 ·obtain⟨x,a,dx,r,xs,a4,rfl,_⟩:=h
  rfl
 ·obtain⟨x,a,dx,r,xs,a4,rfl,hx,hA,hP,hlen,hk,a5,a6,aj⟩:=h
  have hl:(sizeLine:Nat)=16777216:=sizeLine_eq
  refine⟨_,fq (kr (pv 0) (fN (GN.mono (by decide)) hr rfl DN.m DN.F.kp bN .nil (jm (E':=E) (fun _ _ _ h=>h)) (eY (pv 1) fe)) rfl)
   (fq (kr (pv 0) (mm pS rfl T.list kZ (eY (pv 1) fe)) rfl)
   (fq (yu (i:=3) (t':=Dg) Ah.nd rfl (Or.inl rfl) (own:=2) (caps:=[]) (N:=["key","text"]) (N0:=N4) (sc0:=fD j8) rfl (gK (pv 1))
    (fun _ _ _=>jj (n:=2) rfl (gJ (fR (i:=0) xm rfl (Or.inl rfl)) (gJ (fR (i:=1) xm rfl (Or.inl rfl)) jh))) (fun _ _ _=>iL)
    (fun _ _ _=>fN (GL.mono (by decide)) hr rfl DL.m DL.F.kp bL .nil ja (eY (pv 1) fe)) (qR (k9 (gY (by decide)) (k9 (gY (by decide)) rT))) rfl rfl
    dk rfl dk dk rfl dk ?mT)
   (fq (kr (pv 0) (PE.imp (t':=CP) (il (own:=1) (caps:=[]) (N:=["words"]) (N0:=N4) (sc0:=fD j8) rfl (gK (pv 3))
    (fun _ _ _=>fR (i:=0) IU rfl (Or.inl rfl)) (fun _ _ _=>iL) (fun _ _ _=>gn (tR (K:=K) rfl) rfl T.len g9 (eY (pv 0) fe)) (gY (by decide)) rfl rfl
    dk rfl dk dk rfl dk) ?mS) rfl)
   (fq (kr (pv 0) (yy (kI (zM (pv 2))) (fN GR hr rfl DR.m DR.F.kp bR .nil fL (eY (pv 3) fe)) (fN (GC.mono (by decide)) hr rfl DC.m DC.F.kp bC .nil fL (eY (pv 2) fe))) rfl)
   (fA (kr (pv 0) (gn (HA rfl) rfl T.sorted Iv (eY (iP (pv 0) rfl) fe)) rfl)))))),?_⟩
  case mT=>
   rintro σ H1 Q1 ⟨a,xs,ps,h1,hA,hP,hlen,bB,q⟩
   have aE:=Gn.Paired.len hP
   rw [List.length_map] at aE
   refine⟨_,h1,a,rfl,⟨_,fj.of hA⟩,jk (xs:=xs) (fun i ys H'=>eZ H1 H'/\lh H' ys (fz (ps.take i))/\(∀ y∈ys,∃ p,y=V.ref p/\H1 p=none)) (by omega) (fun i ys H' p=>fj.of (p.1 _ _ hA)) ⟨eZ.refl _,.nil,(fun y hy=>nomatch hy)⟩ ?_ ?_⟩
   ·rintro i v ys H' N hv ⟨sm,hW,a7⟩ hN
    obtain⟨kt,aw,p,rfl,hp⟩:=gW hP hv
    rw [List.getElem?_map] at aw
    cases hps:ps[i]? with
    | none=>rw [hps] at aw;cases aw
    | some pr=>
     rw [hps] at aw
     have e:kp pr=kt:=Option.some.inj aw
     subst e
     have ht:=bB pr (List.mem_of_getElem? hps)
     have hd:=qe ht
     refine⟨p,_,rfl,gb.of (sm _ _ hp),rfl,_,_,rfl,_,_,rfl,rfl,sW ?_⟩
     refine⟨_,rfl,.str pr.2,rfl,⟨_,.str _⟩,(fun z e=>by injection e with e;rw [<-e];have:=hd.1;omega),fun z e bY l H2 s2 hl hL=>?_,fun e=>by rw [ht] at e;cases e⟩
     injection e with e
     subst e
     refine hN _ _ ⟨sm.trans s2,?_,fun y hy=>?_⟩
     ·show lh H2 _ ((ps.take (i + 1)).map _)
      rw [take_snoc hps,List.map_append]
      refine Gn.Paired.app (hW.same s2) ⟨l,rfl,?_⟩
      rw [hL,Il]
     ·rcases List.mem_append.mp hy with hy | hy
      ·exact a7 y hy
      ·rw [List.mem_singleton.mp hy]
       exact⟨l,rfl,sm.free hl⟩
   ·rintro ys H' ⟨sm,hW,_⟩ _ l hl
    rw [aE,List.take_length] at hW
    exact q l ys _ (eZ.upd sm hl) (sm.free hl) fv (hW.same (fC hl))
  case mS=>
   rintro σ H1 Q1 ⟨a,xs,t,h3,hA,hW,hlen,q⟩
   have aE:=Gn.Paired.len hW
   refine⟨_,h3,a,rfl,⟨_,fj.of hA⟩,jk (xs:=xs) (fun i ys H'=>H'=H1/\ys=nl ((t.take i).map List.length)) (by omega) (fun i ys H' p=>by rw [p.1];exact fj.of hA) ⟨rfl,rfl⟩ ?_ ?_⟩
   ·rintro i v ys H' N hv ⟨rfl,rfl⟩ hN
    obtain⟨ws,bD,p,rfl,hp⟩:=gW hW hv
    refine g1 ?_
    refine⟨_,rfl,p,_,rfl,.inl (fj.of hp),hN _ _ ⟨rfl,?_⟩⟩
    rw [take_snoc bD,List.map_append,jx]
    show _++[V.int ((sl ws).length:Nat)]=_
    rw [List.length_map]
    rfl
   ·rintro ys H' ⟨rfl,rfl⟩ _ l hl
    rw [aE,List.take_length]
    exact q l hl
  refine⟨_,rfl,a,xs,a4,rfl,hA,hP,by omega,hk,fun hb dn H1 s1 aF aG=>?_,fun i hi H1 s1=>a6 i hi H1 s1⟩
  obtain⟨ps,rfl,bE,_,g3⟩:=vM hb
  have hg:jy ps:=⟨bE,g3⟩
  obtain⟨aP,⟨us,bZ,a8⟩,a9⟩:=a5 ps rfl hg
  replace aj:=aj ps rfl hg
  rw [List.length_map] at hlen
  have aS:((ps.map kp).map fun kt=>jf kt.1)=ps.map (·.1):=by rw [List.map_map];rfl
  rw [aS] at aG
  have ba:=s1 _ _ hx
  refine⟨_,rfl,x,C,dx,[],rfl,ba,B.cl,B.nN,(by show 0 < 1000;decide),?_⟩
  have aT:dn≠x:=fun z=>by rw [z,ba] at aG;cases aG
  have ax:SameBut x H (upd H1 x (.ins C dx (fX "numbers" (.ref dn) []))):=fun b u e hb=>by rw [fB hb];exact s1 _ _ e
  have aU:upd H1 x (.ins C dx (fX "numbers" (.ref dn) [])) x=some (.ins C dx (fX "numbers" (.ref dn) [])):=fv
  have bb:upd H1 x (.ins C dx (fX "numbers" (.ref dn) [])) dn=_:=(fB aT).trans aG
  generalize upd H1 x (.ins C dx (fX "numbers" (.ref dn) []))=H2 at ax aU bb ⊢
  have bc:a≠x:=fun z=>by rw [z,hx] at hA;cases hA
  have bF:=ax _ _ hA bc
  have b0:gm H2 xs (ps.map kp):=Gn.Paired.imp2 hP fun _ _ ⟨p,e,q⟩=>⟨p,e,ax _ _ q fun z=>by rw [z,hx] at q;cases q⟩
  refine⟨_,rfl,a,xs,rfl,.inl (fj.of bF),fun pa bf=>?_⟩
  have s3:eZ H2 (upd H2 pa (.lst xs)):=fC bf
  have aq:upd H2 pa (.lst xs) pa=some (.lst xs):=fv
  generalize upd H2 pa (.lst xs)=H3 at s3 aq ⊢
  have bg:=s3 _ _ aU
  refine⟨_,rfl,x,C,dx,_,rfl,bg,B.cl,B.nP,(by show 1 < 1000;decide),?_⟩
  have bh:pa≠x:=fun z=>by rw [z,bg] at aq;cases aq
  have aH:SameBut x H3 (upd H3 x (.ins C dx (fX "pairs" (.ref pa) (fX "numbers" (.ref dn) [])))):=fun b u e hb=>by rw [fB hb];exact e
  have bj:upd H3 x (.ins C dx (fX "pairs" (.ref pa) (fX "numbers" (.ref dn) []))) x=_:=fv
  generalize upd H3 x (.ins C dx (fX "pairs" (.ref pa) (fX "numbers" (.ref dn) [])))=H4 at aH bj ⊢
  have ar:SameBut x H H4:=(ax.tr s3).trb aH
  have bG:=aH _ _ (s3 _ _ bb) aT
  have bo:=aH _ _ aq bh
  have bH:=ar _ _ hA bc
  have bI:gm H4 xs (ps.map kp):=Gn.Paired.imp2 hP fun _ _ ⟨p,e,q⟩=>⟨p,e,ar _ _ q fun z=>by rw [z,hx] at q;cases q⟩
  refine⟨a,xs,ps,rfl,bH,bI,hlen,fun p hp=>(hg.g p hp).2,fun lt ys H5 s5 b1 aI bp=>?_⟩
  have bq:=ar.tr s5
  have aV:=s5 _ _ bj
  refine⟨lt,ys,fz ps,rfl,aI,bp,aP.l,fun sz hsz=>?_⟩
  have s6:eZ H5 (upd H5 sz (.lst (nl ((fz ps).map List.length)))):=fC hsz
  have au:upd H5 sz (.lst (nl ((fz ps).map List.length))) sz=_:=fv
  generalize upd H5 sz (.lst (nl ((fz ps).map List.length)))=H6 at s6 au ⊢
  have aW:=s6 _ _ aV
  refine⟨_,rfl,x,C,dx,_,rfl,aW,B.cl,B.nS,(by show 2 < 1000;decide),?_⟩
  have bJ:sz≠x:=fun z=>by rw [z,aW] at au;cases au
  have ak:SameBut x H6 (upd H6 x (.ins C dx (fX "sizes" (.ref sz) (fX "pairs" (.ref pa) (fX "numbers" (.ref dn) []))))):=fun b u e hb=>by rw [fB hb];exact e
  have ag:upd H6 x (.ins C dx (fX "sizes" (.ref sz) (fX "pairs" (.ref pa) (fX "numbers" (.ref dn) [])))) x=_:=fv
  generalize upd H6 x (.ins C dx (fX "sizes" (.ref sz) (fX "pairs" (.ref pa) (fX "numbers" (.ref dn) []))))=H7 at ak ag ⊢
  have aX:=s5.trans s6
  have aa:SameBut x H H7:=(ar.tr aX).trb ak
  have br:=ak _ _ (aX _ _ bG) aT
  have aQ:=ak _ _ (aX _ _ bo) bh
  have aR:=ak _ _ au bJ
  have bt:gm H7 xs (ps.map kp):=Gn.Paired.imp2 hP fun _ _ ⟨p,e,q⟩=>⟨p,e,aa _ _ q fun z=>by rw [z,hx] at q;cases q⟩
  have bK:lt≠x:=fun z=>by rw [z,aV] at aI;cases aI
  have bM:=ak _ _ (s6 _ _ aI) bK
  have bO:lh H7 ys (fz ps):=Gn.Paired.imp2 (bp.same s6) fun _ _ ⟨p,e,q⟩=>⟨p,e,ak _ _ q fun z=>by rw [z,aW] at q;cases q⟩
  have nr:∀ p l0,H p=some (.lst l0)->r≠ .ref p:=fun p l0 z e=>by
   rcases a9 with e' | ⟨d,es,e',ab⟩
   ·rw [e'] at e;cases e
   ·rw [e'] at e
    injection e with e
    have:=ab.d
    rw [e,z] at this
    cases this
  have nn:∀{b:Addr},H b=none->∀ l0,H b≠some (.lst l0):=fun{b} e l0 z=>by rw [e] at z;cases z
  have last:∀(dr:Addr) (es:En) (H8:Hp),lQ H8 dr (fz ps) es->H8 x=some (.ins C dx (fX "sizes" (.ref sz) (fX "pairs" (.ref pa) (fX "numbers" (.ref dn) []))))->H8 dn=some (.dK (iH (ps.map (·.1))))->H8 pa=some (.lst xs)->gm H8 xs (ps.map kp)->
    H8 sz=some (.lst (nl ((fz ps).map List.length)))->(∀ b u,H b=some u->b≠x->r≠ .ref b->H8 b=some u)->(H dr=none/\∀ e∈es,H e.2=none)->∀ σ:L2.St,σ[0]? =some (some (.ref x))->
    zZ K (jQ 0) (vN (fun xs H Q=>∃(d:Addr) (kvs:List (Key×V)) (ss:List Str),xs=[.ref d]/\Rd H d (.dK kvs)/\kvs.map (·.1)=ss.map Sum.inr/\ss.length < 64/\∀(l:Addr) (ts:List Str),H l=none->ts.Perm ss->sortedS ts=true->Q (.ref l) (upd H l (.lst (ts.map V.str)))) (mI (uO K (jQ 0) "rows") k8)) "rising"
     {nx:=fun _ H'=>Q .non H',rt:=Q} σ (upd H8 x (.ins C dx (fX "rows" (.ref dr) (fX "sizes" (.ref sz) (fX "pairs" (.ref pa) (fX "numbers" (.ref dn) [])))))):=by
   intro dr es H8 hR aJ bu bw bP bx bz bQ σ h0
   have ae:SameBut x H8 (upd H8 x (.ins C dx (fX "rows" (.ref dr) (fX "sizes" (.ref sz) (fX "pairs" (.ref pa) (fX "numbers" (.ref dn) [])))))):=fun b u e hb=>by rw [fB hb];exact e
   have aK:upd H8 x (.ins C dx (fX "rows" (.ref dr) (fX "sizes" (.ref sz) (fX "pairs" (.ref pa) (fX "numbers" (.ref dn) []))))) x=_:=fv
   generalize upd H8 x (.ins C dx (fX "rows" (.ref dr) (fX "sizes" (.ref sz) (fX "pairs" (.ref pa) (fX "numbers" (.ref dn) [])))))=H9 at ae aK ⊢
   have av:∀{b:Addr} {u:HO},H8 b=some u->(∀ C dx fs,u≠ .ins C dx fs)->b≠x:=fun{b u} e n z=>by rw [z,aJ] at e;exact n _ _ _ (Option.some.inj e).symm
   have aL:lQ H9 dr (fz ps) es:=⟨ae _ _ hR.d (av hR.d (by intro _ _ _ z;cases z)),hR.k,hR.w,fun e he=>ae _ _ (hR.f e he) (av (hR.f e he) (by intro _ _ _ z;cases z))⟩
   refine⟨_,h0,x,C,dx,_,.ref dr,rfl,aK,B.cl,B.nR,(by rw [iu,if_pos rfl]),dr,gw es,es.map (·.1),rfl,.inl aL.d,xK es,?_,fun ri ts aM ay az=>?_⟩
   ·have:=sv aL.k (m:=us) fun y hy=>by
     obtain⟨ws,h1,h2⟩:=(aL.w y).mp hy
     exact a8 ws h1 y h2
    rw [List.length_map] at this ⊢
    omega
   ·have ah:eZ H9 (upd H9 ri (.lst (sl ts))):=fC aM
    have ao:upd H9 ri (.lst (sl ts)) ri=_:=fv
    have aA:=ah _ _ aK
    refine⟨_,h0,x,C,dx,_,rfl,aA,B.cl,B.nI,(by show 4 < 1000;decide),?_⟩
    have aN:ri≠x:=fun z=>by rw [z,aK] at aM;cases aM
    have aB:=ah _ _ (ae _ _ bu (av bu (by intro _ _ _ z;cases z)))
    have aC:=ah _ _ (ae _ _ bw (av bw (by intro _ _ _ z;cases z)))
    have aD:=ah _ _ (ae _ _ bx (av bx (by intro _ _ _ z;cases z)))
    have aY:gm _ xs (ps.map kp):=gm.same (H:=H9) (Gn.Paired.imp2 bP fun _ _ ⟨p,e,q⟩=>⟨p,e,ae _ _ q (av q (by intro _ _ _ z;cases z))⟩) ah
    have J:=aL.same ah
    have fr:∀ b u,H b=some u->b≠x->r≠ .ref b->(upd H9 ri (.lst (sl ts))) b=some u:=fun b u e n1 n2=>ah _ _ (ae _ _ (bz b u e n1 n2) n1)
    have bS:∀ l0,H ri≠some (.lst l0):=fun l0 z=>by
     have:=ae _ _ (bz ri _ z aN (nr ri l0 z)) aN
     rw [aM] at this
     cases this
    generalize upd H9 ri (.lst (sl ts))=aZ at ah ao aA aB aC aD aY J fr ⊢
    have I:SameBut x aZ (upd aZ x (.ins C dx (jS dn pa sz dr ri))):=fun b u e hb=>by rw [fB hb];exact e
    have U:∀{b:Addr} {u:HO},aZ b=some u->(∀ C dx fs,u≠ .ins C dx fs)->b≠x:=fun{b u} e n z=>by rw [z,aA] at e;exact n _ _ _ (Option.some.inj e).symm
    refine aj _ ⟨dx,dn,pa,sz,dr,ri,xs,es,ts,fv,I _ _ aB (U aB (by intro _ _ _ z;cases z)),I _ _ aC (U aC (by intro _ _ _ z;cases z)),?_,I _ _ aD (U aD (by intro _ _ _ z;cases z)),?_,I _ _ ao aN,ay,az⟩ (fun b2 hU=>?_) fun b u e n1 n2=>I _ _ (fr b u e n1 n2) n1
    ·exact Gn.Paired.imp2 aY fun _ _ ⟨p,e,q⟩=>⟨p,e,I _ _ q (U q (by intro _ _ _ z;cases z))⟩
    ·exact⟨I _ _ J.d (U J.d (by intro _ _ _ z;cases z)),J.k,J.w,fun e he=>I _ _ (J.f e he) (U (J.f e he) (by intro _ _ _ z;cases z))⟩
    ·obtain⟨w1,w2⟩:=bQ
     refine⟨dx,dn,pa,sz,dr,ri,xs,es,ts,hU _ _ fv (fun l0 z=>by rw [hx] at z;cases z),hU _ _ (I _ _ aB (U aB (by intro _ _ _ z;cases z))) (nn aF),hU _ _ (I _ _ aC (U aC (by intro _ _ _ z;cases z))) (nn (ax.free aU bf)),?_,hU _ _ (I _ _ aD (U aD (by intro _ _ _ z;cases z))) (nn (bq.free aV hsz)),?_,hU _ _ (I _ _ ao aN) bS,ay,az⟩
     ·exact Gn.Paired.imp2 aY fun _ _ ⟨p,e,q⟩=>⟨p,e,hU _ _ (I _ _ q (U q (by intro _ _ _ z;cases z))) (fun l0 z=>by
       have:=fr p _ z (fun y=>by rw [y,hx] at z;cases z) (nr p l0 z)
       rw [q] at this
       cases this)⟩
     ·exact⟨hU _ _ (I _ _ J.d (U J.d (by intro _ _ _ z;cases z))) (nn w1),J.k,J.w,fun e he=>hU _ _ (I _ _ (J.f e he) (U (J.f e he) (by intro _ _ _ z;cases z))) (nn (w2 e he))⟩
  refine⟨_,rfl,_,rfl,?_⟩
  rcases a9 with rfl | ⟨d,es,rfl,ab⟩
  ·refine fY ⟨_,rfl,lt,ys,fz ps,rfl,bM,bO,aP,fun dr es H8 s8 a0 af _ bT=>?_⟩
   refine⟨_,rfl,x,C,dx,_,rfl,s8 _ _ ag,B.cl,B.nR,(by show 3 < 1000;decide),?_⟩
   exact last dr es H8 ⟨af.d,af.k,bT,af.f⟩ (s8 _ _ ag) (s8 _ _ br) (s8 _ _ aQ) (bt.same s8) (s8 _ _ aR) (fun b u e n1 _=>s8 _ _ (aa _ _ e n1)) ⟨aa.free ag a0,fun e he=>aa.free ag (af.n e he)⟩ _ rfl
  ·have bU:d≠x:=fun z=>by have:=ab.d;rw [z,hx] at this;cases this
   have ai:lQ H7 d (fz ps) es:=⟨aa _ _ ab.d bU,ab.k,ab.w,fun e he=>aa _ _ (ab.f e he) fun z=>by have:=ab.f e he;rw [z,hx] at this;cases this⟩
   have bA:es.length<=9000:=by
    have:=sv ab.k (m:=us) fun y hy=>by
     obtain⟨ws,h1,h2⟩:=(ab.w y).mp hy
     exact a8 ws h1 y h2
    rw [List.length_map] at this
    omega
   refine fO ⟨_,rfl,d,es,fun y=>nl (pk (rn 0 (rowOf y (fz ps) 0))),rfl,ai.d,ai.k,bA,ai.f,fun dr bV H8 a3 a0 af bW=>?_⟩
   have aO:∀{b:Addr} {u:HO},H7 b=some u->(∀ kvs,u≠ .dK kvs)->H8 b=some u:=fun{b u} e n=>a3 _ _ e fun z=>by rw [z,ai.d] at e;exact n _ (Option.some.inj e).symm
   have aJ:=aO ag (by intro _ z;cases z)
   refine⟨_,rfl,x,C,dx,_,rfl,aJ,B.cl,B.nR,(by show 3 < 1000;decide),?_⟩
   have bX:dn≠d:=fun z=>by rw [z] at aF;rw [ab.d] at aF;cases aF
   refine last dr bV H8 ⟨af.d,af.k,fun y=>by rw [bW];exact ai.w y,af.f⟩ aJ (a3 _ _ br bX) (aO aQ (by intro _ z;cases z)) ?_ (aO aR (by intro _ z;cases z)) (fun b u e n1 n2=>a3 _ _ (aa _ _ e n1) fun z=>n2 (by rw [z])) ⟨aa.free ag a0,fun e he=>aa.free ag (af.n e he)⟩ _ rfl
   exact Gn.Paired.imp2 bt fun _ _ ⟨p,e,q⟩=>⟨p,e,aO q (by intro _ z;cases z)⟩
end
section
variable {P : Program} {w : World} {K : PySem.W.Frag} {mg : Str -> Option Value} {base : Heap} {C CN CNo CW : Addr}
def nu(C:Addr):Sp:=fun vs H Q _=>∃(x:Addr) (ps:List (Str×Str)),vs=[.ref x]/\g8 C H x ps/\Q (.int (ps.length:Int)) H
theorem HF:fU ["self"] ["self"] (fD jT):=⟨rfl,rfl,rfl,dk,rfl,dk,dk⟩
seal fM PS PE PT PA PG PI fT fS in
theorem Bp{f:Addr}{fd:FuncData}(F:fV K "many" "Book.many" jT f fd)(B:iN K mg C)(T:Txt mg):fx P w K mg base fE 1 f fd ["self"] (nu C):=by
 refine F.ok HF (fun vs H Q E h=>?_) (fun cdv A outer s H vs Q E hr h=>?_)
 ·obtain⟨x,ps,rfl,_⟩:=h
  rfl
 ·obtain⟨x,ps,rfl,J,k⟩:=h
  obtain⟨dx,dn,pa,sz,dr,ri,xs,es,ts,h1,h2,U,h4,h5,h6,h7,h8,h9⟩:=J.ex
  have I:=Gn.Paired.len h4
  rw [List.length_map] at I
  refine⟨_,fA (fP (gn iE rfl T.len g9 (eY (iP (pv 0) rfl) fe))),?_⟩
  refine⟨_,rfl,x,C,dx,_,_,rfl,h1,B.cl,B.nP,tG,pa,_,rfl,.inl (fj.of U),?_⟩
  rw [I]
  exact k
def z4(K:W.Frag)(C CN:Addr):Sp:=fun vs H Q E=>∃(x:Addr) (ps:List (Str×Str)) (v:V),vs=[.ref x,v]/\g8 C H x ps/\Known K H v/\
 (jd v 0 (some ((ps.length:Int) - 1))=true->Q v H)/\(jd v 0 (some ((ps.length:Int) - 1))=false->E (.ref CN) none H)
theorem D0:fU ["self","number"] ["self","number"] (fD mx):=⟨rfl,rfl,rfl,dk,rfl,dk,dk⟩
seal fM PS PE PT PA PG PI fT fS in
theorem A2{f fm fn:Addr}{fd fdm fdn:FuncData}(F:fV K "need_own" "Book.need_own" mx f fd)(B:iN K mg C)(FM:fV K "many" "Book.many" jT fm fdm)(mM:Meth K C "many" fm)(GM:fx P w K mg base fE 1 fm fdm ["self"] (nu C))
  (DN:iR K mg "need_number" lO fn fdn #[.none])(GN:fx P w K mg base (fQ P w) 2 fn fdn ["thing","least","most"] (uR K CN)):fx P w K mg base (fQ P w) 3 f fd ["self","number"] (z4 K C CN):=by
 have bM:=FM.binds (ps:=["self"]) fun _ _ _ _ _ _ us I=>match us,I with | [_],_=>rfl
 have bN:=DN.binds (ps:=["thing","least","most"]) (ds:=[]) fun T kV doc pm an cdv ct us I=>match us,(show us.length=3 by simpa using I) with | [_,_,_],_=>⟨_,rfl,rfl⟩
 refine F.ok1 D0 (fun vs H Q E h=>?_) (fun cdv A outer s H vs Q E J h=>?_)
 ·obtain⟨x,ps,v,rfl,_⟩:=h
  rfl
 ·obtain⟨x,ps,v,rfl,U,hk,k1,k2⟩:=h
  obtain⟨dx,dn,pa,sz,dr,ri,xs,es,ts,h1,_⟩:=U.ex
  refine⟨_,fA (fP (fN GN J rfl DN.m DN.kp bN .nil (jm (E':=E) (fun _ _ _ h=>h)) (eY (pv 1) (eY fy (eY (fF ly (ji (pv 0) B.cl mM (GM.mono (by decide)) J bM .nil fL) fy) fe))))),?_⟩
  refine⟨_,rfl,_,rfl,x,dx,_,rfl,h1,kb dk dk dk dk dk,?_⟩
  refine⟨x,ps,rfl,U,_,_,rfl,rfl,?_⟩
  exact⟨v,0,some ((ps.length:Int) - 1),rfl,hk,k1,k2⟩
theorem rJ{v:V}{n:Nat}(h:jd v 0 (some ((n:Int) - 1))=true):∃ j:Nat,v= .int (j:Int)/\j < n:=by
 cases v<;>first | cases h | skip
 rename_i i
 have h':(decide ((0:Int)<=i) && decide (i<=(n:Int) - 1))=true:=h
 rw [Bool.and_eq_true] at h'
 have h1:=of_decide_eq_true h'.1
 have h2:=of_decide_eq_true h'.2
 exact⟨i.toNat,by rw [Int.toNat_of_nonneg h1],by omega⟩
def oY(K:W.Frag)(C CN:Addr)(sel:Str×Str->Str):Sp:=fun vs H Q E=>∃(x:Addr) (ps:List (Str×Str)) (v:V),vs=[.ref x,v]/\g8 C H x ps/\Known K H v/\
 (∀(j:Nat) p,v= .int (j:Int)->ps[j]? =some p->Q (.str (sel p)) H)/\(jd v 0 (some ((ps.length:Int) - 1))=false->E (.ref CN) none H)
theorem HY:fU ["self","number"] ["self","number"] (fD nL):=⟨rfl,rfl,rfl,dk,rfl,dk,dk⟩
theorem B7:fU ["self","number"] ["self","number"] (fD lW):=⟨rfl,rfl,rfl,dk,rfl,dk,dk⟩
section
variable {fo : Addr} {fdo : FuncData} (FO : fV K "need_own" "Book.need_own" mx fo fdo) (mO : Meth K C "need_own" fo) (GO : fx P w K mg base (fQ P w) 3 fo fdo ["self", "number"] (z4 K C CN)) (B : iN K mg C)
include FO mO GO B
seal fM PS PE PT PA PG PI fT fS in
theorem IB{f:Addr}{fd:FuncData}(F:fV K "key_of" "Book.key_of" nL f fd):fx P w K mg base (fQ P w) 4 f fd ["self","number"] (oY K C CN (·.1)):=by
 have bO:=FO.binds (ps:=["self","number"]) fun _ _ _ _ _ _ us hl=>match us,hl with | [_,_],_=>rfl
 refine F.ok1 HY (fun vs H Q E h=>?_) (fun cdv A outer s H vs Q E hr h=>?_)
 ·obtain⟨x,ps,v,rfl,_⟩:=h
  rfl
 ·obtain⟨x,ps,v,rfl,J,hk,k1,k2⟩:=h
  obtain⟨dx,dn,pa,sz,dr,ri,xs,es,ts,h1,h2,h3,h4,_⟩:=J.ex
  refine⟨_,fA (fP (gA kR (gA g6 (iP (pv 0) rfl) (jD (pv 0) B.cl mO GO hr bO .nil (jm (E':=E) (fun _ _ _ h=>h)) (eY (pv 1) fe)) (fun _ _=>rfl)) fy (fun _ _=>rfl))),?_⟩
  refine⟨_,rfl,x,C,dx,_,_,rfl,h1,B.cl,B.nP,tG,_,rfl,x,dx,_,rfl,h1,kb dk dk dk dk dk,_,rfl,?_⟩
  refine⟨x,ps,v,rfl,J,hk,fun hg=>?_,k2⟩
  obtain⟨j,rfl,hj⟩:=rJ hg
  have U:ps[j]? =some ps[j]:=List.getElem?_eq_getElem hj
  obtain⟨y,hy,p,rfl,I⟩:=Gn.Paired.at h4 (i:=j) (by rw [List.getElem?_map,U];rfl)
  exact⟨pa,_,_,_,rfl,rfl,fj.of h3,gR hy,p,_,_,_,rfl,rfl,gb.of I,gR (j:=0) rfl,k1 j _ rfl U⟩
seal fM PS PE PT PA PG PI fT fS in
theorem CY{f:Addr}{fd:FuncData}(F:fV K "text_of" "Book.text_of" lW f fd):fx P w K mg base (fQ P w) 4 f fd ["self","number"] (oY K C CN (·.2)):=by
 have bO:=FO.binds (ps:=["self","number"]) fun _ _ _ _ _ _ us hl=>match us,hl with | [_,_],_=>rfl
 refine F.ok1 B7 (fun vs H Q E h=>?_) (fun cdv A outer s H vs Q E hr h=>?_)
 ·obtain⟨x,ps,v,rfl,_⟩:=h
  rfl
 ·obtain⟨x,ps,v,rfl,J,hk,k1,k2⟩:=h
  obtain⟨dx,dn,pa,sz,dr,ri,xs,es,ts,h1,h2,h3,h4,_⟩:=J.ex
  refine⟨_,fA (fP (gA kR (gA g6 (iP (pv 0) rfl) (jD (pv 0) B.cl mO GO hr bO .nil (jm (E':=E) (fun _ _ _ h=>h)) (eY (pv 1) fe)) (fun _ _=>rfl)) fy (fun _ _=>rfl))),?_⟩
  refine⟨_,rfl,x,C,dx,_,_,rfl,h1,B.cl,B.nP,tG,_,rfl,x,dx,_,rfl,h1,kb dk dk dk dk dk,_,rfl,?_⟩
  refine⟨x,ps,v,rfl,J,hk,fun hg=>?_,k2⟩
  obtain⟨j,rfl,hj⟩:=rJ hg
  have U:ps[j]? =some ps[j]:=List.getElem?_eq_getElem hj
  obtain⟨y,hy,p,rfl,I⟩:=Gn.Paired.at h4 (i:=j) (by rw [List.getElem?_map,U];rfl)
  exact⟨pa,_,_,_,rfl,rfl,fj.of h3,gR hy,p,_,_,_,rfl,rfl,gb.of I,gR (j:=1) rfl,k1 j _ rfl U⟩
end
theorem zO:∀(ks:List Str) (n j:Nat) (z:Str),ks.Nodup->ks[j]? =some z->gg ((ks.zipIdx n).map fun p=>((Sum.inr p.1:Key),V.int (p.2:Int))) (Sum.inr z)=some (.int ((n + j:Nat):Int))
 | [],_,j,_,_,h=>by cases j<;>cases h
 | x::r,n,0,z,_,h=>by
  have e:x=z:=Option.some.inj h
  subst e
  exact jJ (p:=((Sum.inr x:Key),V.int (n:Int))) rfl
 | x::r,n,j + 1,z,hn,h=>by
  obtain⟨J,U⟩:=List.nodup_cons.mp hn
  have h':r[j]? =some z:=h
  have I:¬ x=z:=fun e=>J (by rw [e];exact List.mem_of_getElem? h')
  have:=zO r (n + 1) j z U h'
  show gg (((Sum.inr x:Key),V.int (n:Int))::(r.zipIdx (n + 1)).map fun p=>((Sum.inr p.1:Key),V.int (p.2:Int))) (Sum.inr z)=_
  rw [jt (fun e=>I (Sum.inr.inj e)),this]
  congr 3
  omega
theorem yG{ks:List Str}{j:Nat}{z:Str}(hn:ks.Nodup)(h:ks[j]? =some z):gg (iH ks) (Sum.inr z)=some (.int (j:Int)):=by
 have:=zO ks 0 j z hn h
 rw [Nat.zero_add] at this
 exact this
def zD(K:W.Frag)(C CNo:Addr):Sp:=fun vs H Q E=>∃(x:Addr) (ps:List (Str×Str)) (v:V),vs=[.ref x,v]/\g8 C H x ps/\Known K H v/\jq v/\(∀ p∈ps,fZ 12 (.str p.1)=true)/\(ps.map (·.1)).Nodup/\
 (∀(j:Nat) z H',v= .str z->(ps.map (·.1))[j]? =some z->eZ H H'->Q (.int (j:Int)) H')/\((∀ z,v= .str z->z∉ps.map (·.1))->∀ H',eZ H H'->E (.ref CNo) none H')
theorem HW:fU ["self","key"] ["self","key"] (fD mD):=⟨rfl,rfl,rfl,dk,rfl,dk,dk⟩
seal fM PS PE PT PA PG PI fT fS in
theorem G9{f fk:Addr}{fd fdk:FuncData}(F:fV K "number_of" "Book.number_of" mD f fd)(B:iN K mg C)(DK:Df K mg "is_key" mX fk fdk)(GK:fx P w K mg base fE 2 fk fdk ["thing"] (oW K 12))(X:Ex K mg "NoText" CNo):fx P w K mg base (fQ P w) 3 f fd ["self","key"] (zD K C CNo):=by
 have bK:=gu (p:="thing") DK.F fun _ _ _ _ _ _ _=>rfl
 refine F.ok1 HW (fun vs H Q E h=>?_) (fun cdv A outer s H vs Q E hr h=>?_)
 ·obtain⟨x,ps,v,rfl,_⟩:=h
  rfl
 ·obtain⟨x,ps,v,rfl,hB,hk,I,J,U,k1,k2⟩:=h
  have hu:=kq hr
  refine⟨_,fq (gj (PW.pt (jr (hJ (gT (fN GK hr rfl DK.m DK.F.kp bK .nil fL (eY (pv 1) fe)))) (kf (kI (xo hu (pv 1) (iP (pv 0) rfl))))))
    (fA (ki rfl X.q PySem.F.excBase_ValueError dk PySem.F.excBase_ValueError rfl X.m (eY gd fe) kg)) gh)
   (fA (fP (qw hu (iP (pv 0) rfl) (pv 1) (fun _ _=>rfl)))),?_⟩
  refine⟨_,rfl,v,rfl,hk,I,fun H1 s1=>?_⟩
  obtain⟨dx,dn,pa,sz,dr,ri,xs,es,ts,h1,h2,h3,h4,_⟩:=(hB.same s1).ex
  refine⟨_,rfl,?_⟩
  cases hr12:fZ 12 v with
  | false=>
   refine fY (fY ⟨by show 1<=sizeLine;decide,k2 (fun z e hz=>?_) H1 s1⟩)
   obtain⟨p,hp,e2⟩:=List.mem_map.mp hz
   have:=J p hp
   rw [e2,<-e,hr12] at this
   cases this
  | true=>
   obtain⟨z,rfl⟩:=sI hr12
   refine fO ⟨_,rfl,_,rfl,x,C,dx,_,_,rfl,h1,B.cl,B.nN,vU,dn,_,rfl,iF.k (k:=Sum.inr z) h2,_,rfl,?_⟩
   by_cases hz:z∈ps.map (·.1)
   ·obtain⟨j,hj⟩:=List.getElem?_of_mem hz
    rw [yG U hj]
    exact fO ⟨_,rfl,x,C,dx,_,_,rfl,h1,B.cl,B.nN,vU,_,rfl,dn,_,rfl,.inl ⟨_,Sum.inr z,.inl h2,rfl,(yG U hj).symm⟩,k1 j z H1 rfl hj s1⟩
   ·rw [qS hz]
    exact fY ⟨by show 1<=sizeLine;decide,k2 (fun y e=>by injection e with e;rw [<-e];exact hz) H1 s1⟩
def Aq(C:Addr):Sp:=fun vs H Q _=>∃(x:Addr) (ps:List (Str×Str)),vs=[.ref x]/\g8 C H x ps/\∀ l I H',eZ H H'->H l=none->H' l=some (.lst (sl I))->I.Nodup->(∀ y,y∈I↔∃ ws∈fz ps,y∈ws)->sortedS I=true->Q (.ref l) H'
theorem GQ:fU ["self"] ["self"] (fD mJ):=⟨rfl,rfl,rfl,dk,rfl,dk,dk⟩
seal fM PS PE PT PA PG PI fT fS in
theorem Cr{f:Addr}{fd:FuncData}(F:fV K "words" "Book.words" mJ f fd)(B:iN K mg C)(T:Txt mg):fx P w K mg base fE 1 f fd ["self"] (Aq C):=by
 refine F.ok GQ (fun vs H Q E h=>?_) (fun cdv A outer s H vs Q E hr h=>?_)
 ·obtain⟨x,ps,rfl,_⟩:=h
  rfl
 ·obtain⟨x,ps,rfl,hB,k⟩:=h
  obtain⟨dx,dn,pa,sz,dr,ri,xs,es,ts,h1,h2,h3,h4,h5,I,h7,J,h9⟩:=hB.ex
  refine⟨_,fA (fP (mm pS rfl T.list kZ (eY (iP (pv 0) rfl) fe))),?_⟩
  refine⟨_,rfl,x,C,dx,_,_,rfl,h1,B.cl,B.nI,Hj,ri,_,rfl,.inl (fj.of h7),fun l U=>?_⟩
  exact k l ts _ (fC U) U fv (J.nodup_iff.mpr I.k) (fun y=>by rw [J.mem_iff];exact I.w y) h9
def vJ(ps:List (Str×Str))(z:Str):List Nat:=pk (rn 0 (rowOf z (fz ps) 0))
def xU(K:W.Frag)(C CW:Addr):Sp:=fun vs H Q E=>∃(x:Addr) (ps:List (Str×Str)) (v:V),vs=[.ref x,v]/\g8 C H x ps/\Known K H v/\jq v/\
 (∀ z l H',v= .str z->fZ 2000 v=true->eZ H H'->H l=none->H' l=some (.lst (nl (vJ ps z)))->Q (.ref l) H')/\(fZ 2000 v=false->∀ H',eZ H H'->E (.ref CW) none H')
theorem BM:fU ["self","word"] ["self","word"] (fD mF):=⟨rfl,rfl,rfl,dk,rfl,dk,dk⟩
seal fM PS PE PT PA PG PI fT fS in
theorem Hi{f fw:Addr}{fd fdw:FuncData}(F:fV K "parts_of" "Book.parts_of" mF f fd)(B:iN K mg C)(DW:Df K mg "need_word" oX fw fdw)(GW:fx P w K mg base (fQ P w) 3 fw fdw ["thing"] (kM K (fZ 2000) CW))(T:Txt mg):fx P w K mg base (fQ P w) 4 f fd ["self","word"] (xU K C CW):=by
 have bW:=gu (p:="thing") DW.F fun _ _ _ _ _ _ _=>rfl
 refine F.ok1 BM (fun vs H Q E h=>?_) (fun cdv A outer s H vs Q E hr h=>?_)
 ·obtain⟨x,ps,v,rfl,_⟩:=h
  rfl
 ·obtain⟨x,ps,v,rfl,hB,hk,J,k1,k2⟩:=h
  have hu:=kq hr
  obtain⟨dx,dn,pa,sz,dr,ri,xs,es,ts,h1,h2,h3,h4,h5,h6,h7,h8,h9⟩:=hB.ex
  refine⟨_,fA (fP (mm pS rfl T.list kZ (eY (gQ PySem.F.plainAttrs_dict PySem.F.slot_dict_get PySem.F.type_dict_get (Cg hu) (iP (pv 0) rfl)
   (eY (fN GW hr rfl DW.m DW.F.kp bW .nil (jm (E':=E) (fun _ _ _ h=>h)) (eY (pv 1) fe)) (eY (gf fe) fe))) fe))),?_⟩
  refine⟨_,rfl,x,C,dx,_,_,rfl,h1,B.cl,B.nR,ED,xM h6.d,_,rfl,v,rfl,hk,J,fun U H1 s1=>?_,fun U H1 s1=>k2 U H1 s1⟩
  obtain⟨z,rfl⟩:=sI U
  refine⟨(by show 0<=sizeLine;decide),fun q hq=>?_⟩
  have s2:eZ H1 (upd H1 q (.lst [])):=fC hq
  have aa:upd H1 q (.lst []) q=some (.lst []):=fv
  generalize upd H1 q (.lst [])=H2 at s2 aa ⊢
  have I:=s1.trans s2
  refine⟨dr,.str z,.ref q,_,rfl,rfl,iF.k (k:=Sum.inr z) (I _ _ h6.d),?_⟩
  by_cases hz:z∈es.map (·.1)
  ·obtain⟨a,e1,e2⟩:=tL hz
   rw [e1]
   refine⟨a,_,rfl,.inl (fj.of (I _ _ (h6.f _ e2))),fun l hl=>k1 z l _ rfl U (I.trans (fC hl)) (I.free hl) fv⟩
  ·rw [qQ hz]
   have h0:vJ ps z=[]:=by
    unfold vJ
    rw [(nX z (fz ps) 0).mpr fun ws hw q=>hz ((h6.w z).mpr ⟨ws,hw,q⟩)]
    rfl
   refine⟨q,_,rfl,.inl (fj.of aa),fun l hl=>k1 z l _ rfl U (I.trans (fC hl)) (I.free hl) ?_⟩
   rw [fv,h0]
   rfl
def yK(K:W.Frag)(C CW:Addr):Sp:=fun vs H Q E=>∃(x:Addr) (ps:List (Str×Str)) (v:V),vs=[.ref x,v]/\g8 C H x ps/\iK (fz ps)/\Known K H v/\jq v/\
 (∀ z l H',v= .str z->fZ 2000 v=true->eZ H H'->H l=none->gC H' l (rowOf z (fz ps) 0)->Q (.ref l) H')/\(fZ 2000 v=false->∀ H',eZ H H'->E (.ref CW) none H')
theorem Bi:fU ["self","word"] ["self","word"] (fD m5):=⟨rfl,rfl,rfl,dk,rfl,dk,dk⟩
seal fM PS PE PT PA PG PI fT fS in
theorem Hd{f fp fu:Addr}{fd fdp fdu:FuncData}(F:fV K "row_of" "Book.row_of" m5 f fd)(B:iN K mg C)(FP:fV K "parts_of" "Book.parts_of" mF fp fdp)(mP:Meth K C "parts_of" fp)(GP:fx P w K mg base (fQ P w) 4 fp fdp ["self","word"] (xU K C CW))
  (DU:Df K mg "unpacked_row" pJ fu fdu)(GU:fx P w K mg base fE 4 fu fdu ["parts"] yH):fx P w K mg base (fQ P w) 5 f fd ["self","word"] (yK K C CW):=by
 have bP:=FP.binds (ps:=["self","word"]) fun _ _ _ _ _ _ us J=>match us,J with | [_,_],_=>rfl
 have bU:=gu (p:="parts") DU.F fun _ _ _ _ _ _ _=>rfl
 refine F.ok1 Bi (fun vs H Q E h=>?_) (fun cdv A outer s H vs Q E U h=>?_)
 ·obtain⟨x,ps,v,rfl,_⟩:=h
  rfl
 ·obtain⟨x,ps,v,rfl,hB,hF,hk,I,k1,k2⟩:=h
  obtain⟨dx,dn,pa,sz,dr,ri,xs,es,ts,h1,_⟩:=hB.ex
  refine⟨_,fA (fP (fN GU U rfl DU.m DU.F.kp bU .nil fL (eY (jD (pv 0) B.cl mP GP U bP .nil (jm (E':=E) (fun _ _ _ h=>h)) (eY (pv 1) fe)) fe))),?_⟩
  refine⟨_,rfl,x,dx,_,rfl,h1,kb dk dk dk dk dk,_,rfl,?_⟩
  refine⟨x,ps,v,rfl,hB,hk,I,fun z l H1 e hg s1 J hL=>?_,k2⟩
  subst e
  exact⟨l,rowOf z (fz ps) 0,rfl,hL,iK.ok z,hF.sz z,fun p H2 s2 hp hR=>k1 z p H2 rfl hg (s1.trans s2) (s1.free hp) hR⟩
end
section
variable {P : Program} {w : World} {K : PySem.W.Frag} {mg : Str -> Option Value} {base : Heap} {C CN CNo CW CWk : Addr}
theorem ES{H:Hp}{x:V}{n:String}(h:ir K H x (.type n))(hn:n≠"tuple"):W.kitOne K (.type n) (.type "tuple")=some false:=by
 cases h<;>first | exact absurd rfl hn | kernel_rfl
inductive GV (K : W.Frag) (H : Hp) : V -> Option (V × V) -> Prop where
 | no {v : V} {n : String} (h : ir K H v (.type n)) (hn : n ≠ "tuple") : GV K H v none
 | len {p : Addr} {ys : List V} (h : H p = some (.tup ys)) (hl : ys.length ≠ 2) : GV K H (.ref p) none
 | two {p : Addr} {a b : V} (h : H p = some (.tup [a, b])) (ha : Known K H a) (hb : Known K H b) : GV K H (.ref p) (some (a, b))
def lA(lens:List Nat):Option (V×V)->Bool
 | some (.int i,b)=>jd (.int i) 0 (some ((lens.length:Int) - 1)) && jd b 0 (some (((lens.getD i.toNat 0:Nat):Int) - 1))
 | _=>false
def iz(C:Addr)(H:Hp):List V->List (List (Str×Str))->Prop:=Paired fun v ps=>∃ x,v= .ref x/\g8 C H x ps
theorem iz.same {H H':Hp}{xs:List V}{t:List (List (Str×Str))}(h:iz C H xs t)(s:eZ H H'):iz C H' xs t:=Gn.Paired.imp2 h fun _ _ ⟨p,e,q⟩=>⟨p,e,q.same s⟩
theorem EY{H H':Hp}{x:V}{n:String}(h:ir K H x (.type n))(s:eZ H H'):ir K H' x (.type n):=by
 cases h with
 | non=>exact .non
 | bl b=>exact .bl b
 | int i=>exact .int i
 | str z=>exact .str z
 | flt z=>exact .flt z
 | lst q=>exact .lst (s _ _ q)
 | frz q=>exact .frz (s _ _ q)
 | tup q=>exact .tup (s _ _ q)
 | dK q=>exact .dK (s _ _ q)
 | dT q=>exact .dT (s _ _ q)
abbrev ij(i j:Nat):List Key:=[Sum.inl (i:Int),Sum.inl (j:Int)]
theorem BS{a b c d:Nat}(h:ij a b=ij c d):a=c/\b=d:=by
 injection h with h1 h2
 injection h2 with h2 _
 have I:(a:Int)=c:=Sum.inl.inj h1
 have J:(b:Int)=d:=Sum.inl.inj h2
 exact⟨by omega,by omega⟩
def Aw(K:W.Frag)(C CN:Addr):Sp:=fun vs H Q E=>∃(bl gl:Addr) (bs J:List V) (I:List (List (Str×Str))) (gvs:List (Option (V×V))),vs=[.ref bl,.ref gl]/\H bl=some (.lst bs)/\H gl=some (.lst J)/\iz C H bs I/\Paired (GV K H) J gvs/\J.length<=1000/\
 (gvs.all (lA (I.map List.length))=true->∀ p H' kvs,eZ H H'->H p=none->H' p=some (.dT kvs)->(∀ i j:Nat,(gg kvs (ij i j)).isSome=true↔some (V.int i,V.int j)∈gvs)->Q (.ref p) H')/\
 (gvs.all (lA (I.map List.length))=false->∀ H',eZ H H'->E (.ref CN) none H')
theorem rB:fU ["books","gone","found","thing","book"] ["books","gone"] (fD pP):=⟨rfl,rfl,rfl,dk,rfl,dk,dk⟩
theorem sX{α:Type}{xs:List α}{f:α->Bool}{i:Nat}{x:α}(h:xs[i]? =some x)(hx:f x=false):xs.all f=false:=by
 cases e:xs.all f with
 | false=>rfl
 | true=>rw [List.all_eq_true.mp e x (List.mem_of_getElem? h)] at hx;cases hx
seal fM PS PE PT PA PG PI fT fS in
theorem AH{f fm fn:Addr}{fd fdm fdn:FuncData}(D:Df K mg "need_gone" pP f fd)(B:iN K mg C)(FM:fV K "many" "Book.many" jT fm fdm)(mM:Meth K C "many" fm)(GM:fx P w K mg base fE 1 fm fdm ["self"] (nu C))
  (DN:iR K mg "need_number" lO fn fdn #[.none])(GN:fx P w K mg base (fQ P w) 2 fn fdn ["thing","least","most"] (uR K CN))(X:Ex K mg "BadNumber" CN)(T:Txt mg):fx P w K mg base (fQ P w) 3 f fd ["books","gone"] (Aw K C CN):=by
 have bM:=FM.binds (ps:=["self"]) fun _ _ _ _ _ _ us hl=>match us,hl with | [_],_=>rfl
 have bN:=DN.binds (ps:=["thing","least","most"]) (ds:=[]) fun T kV doc pm an cdv ct us hl=>match us,(show us.length=3 by simpa using hl) with | [_,_,_],_=>⟨_,rfl,rfl⟩
 refine D.F.ok1 rB (fun vs H Q E h=>?_) (fun cdv A outer s H vs Q E hr h=>?_)
 ·obtain⟨bl,gl,bs,gs,I,gvs,rfl,_⟩:=h
  rfl
 ·obtain⟨bl,gl,bs,gs,I,gvs,rfl,aj,ak,ao,aq,hlen,k1,k2⟩:=h
  have hl:(sizeLine:Nat)=16777216:=sizeLine_eq
  have hu:=kq hr
  have av:=Gn.Paired.len ao
  have aw:=Gn.Paired.len aq
  refine⟨_,fq (fG (i:=2) rB.nd rfl (Or.inl rfl) DJ)
   (fq (gO PassesOwn.leaving rfl (gK (pv 1)) (fR (i:=3) rB.nd rfl (Or.inl rfl))
    (fq (gj (PW.pt (jr (hJ (gT (gn kx rfl T.isi i9 (eY (pv 3) (eY (jN (v:= .ty "tuple") rfl T.tuple px rfl) fe)))))
     (kf (gi qL (gn iE rfl T.len g9 (eY (pv 3) fe)) fy (f9 _))))) (fA (ki rfl X.q F.excBase_ValueError dk F.excBase_ValueError rfl X.m (eY gd fe) kg)) gh)
    (fq (fG (i:=4) rB.nd rfl (Or.inl rfl) (gA g6 (pv 0) (fN GN hr rfl DN.m DN.kp bN .nil (jm (E':=E) (fun _ _ _ h=>h)) (eY (gA kR (pv 3) fy (fun _ _=>rfl)) (eY fy (eY (fF ly (gn iE rfl T.len g9 (eY (pv 0) fe)) fy) fe)))) (fun _ _=>rfl)))
    (fq (gB (fN GN hr rfl DN.m DN.kp bN .nil (jm (E':=E) (fun _ _ _ h=>h)) (eY (gA kR (pv 3) fy (fun _ _=>rfl)) (eY fy (eY (fF ly (ji (pv 4) B.cl mM (GM.mono (by decide)) hr bM .nil fL) fy) fe)))))
    (fA (qF hu (pv 2) (pv 3) iG rfl))))))
   (fA (fP (pv 2)))),?_⟩
  intro d hd
  refine⟨_,rfl,gl,rfl,⟨_,fj.of (fC hd _ _ ak)⟩,?_⟩
  refine jl (xs:=gs) (fun i σ H'=>∃(kvs:List (List Key×V)) (o3 o4:Option V),σ=[some (.ref bl),some (.ref gl),some (.ref d),o3,o4]/\eZ H H'/\H' d=some (.dT kvs)/\kvs.length<=i/\(gvs.take i).all (lA (I.map List.length))=true/\(∀ i' j':Nat,(gg kvs (ij i' j')).isSome=true↔some (V.int i',V.int j')∈gvs.take i)) ?_ ?_ ?_ ?_
  ·exact⟨[],none,none,rfl,fC hd,fv,Nat.le_refl _,rfl,fun i' j'=>⟨fun z=>(by cases z),fun z=>nomatch z⟩⟩
  ·rintro i σ H' _ ⟨_,_,_,_,J,_⟩
   exact fj.of (J _ _ ak)
  ·rintro i v σ H' hv ⟨kvs,o3,o4,rfl,J,ai,ar,U,ae⟩
   obtain⟨gv,aa,hG⟩:=gW aq hv
   have aB:=(List.getElem?_eq_some_iff.mp hv).1
   cases hG with
   | no h hn=>
    refine⟨_,rfl,v,.ty "tuple",_,_,rfl,EY h J,.inl ⟨_,rfl,ES h hn⟩,_,rfl,fY (fY ⟨by show 1<=sizeLine;decide,k2 (sX aa rfl) H' J⟩)⟩
   | len h aC=>
    rename_i p ys
    refine⟨_,rfl,.ref p,.ty "tuple",_,_,rfl,.tup (J _ _ h),.inl ⟨_,rfl,rZ⟩,_,rfl,fO ?_⟩
    refine⟨_,rfl,p,_,rfl,.inr (gb.of (J _ _ h)),rfl,_,rfl,?_⟩
    rw [xR (show((ys.length:Nat):Int)≠2 by omega)]
    exact fY ⟨by show 1<=sizeLine;decide,k2 (sX aa rfl) H' J⟩
   | two h ha hb=>
    rename_i p a b
    have h':=J _ _ h
    refine⟨_,rfl,.ref p,.ty "tuple",_,_,rfl,.tup h',.inl ⟨_,rfl,rZ⟩,_,rfl,fO ?_⟩
    refine⟨_,rfl,p,_,rfl,.inr (gb.of h'),rfl,_,rfl,fO ?_⟩
    refine⟨_,rfl,_,rfl,p,_,_,_,rfl,rfl,gb.of h',gR (j:=0) rfl,_,rfl,bl,_,rfl,.inl (fj.of (J _ _ aj)),_,_,rfl,rfl,?_⟩
    have ag:bs.length=(I.map List.length).length:=by rw [av,List.length_map]
    refine⟨a,0,some (((bs.length:Nat):Int) - 1),rfl,ha.same J,fun hg=>?_,fun hg=>k2 (sX aa ?_) H' J⟩
    ·obtain⟨i0,rfl,aD⟩:=rJ hg
     obtain⟨ps,au⟩:∃ ps,I[i0]? =some ps:=⟨I[i0]'(by omega),List.getElem?_eq_getElem (by omega)⟩
     obtain⟨bv,ax,x,rfl,ay⟩:=Gn.Paired.at ao au
     have ah:=ay.same J
     obtain⟨dx,dn,pa,sz,dr,ri,xs,es,ts,az,_⟩:=ah.ex
     refine⟨bl,_,_,_,rfl,rfl,fj.of (J _ _ aj),gR ax,?_⟩
     refine⟨_,rfl,p,_,_,_,rfl,rfl,gb.of h',gR (j:=1) rfl,_,rfl,x,dx,_,rfl,az,kb dk dk dk dk dk,?_⟩
     refine⟨x,ps,rfl,ah,_,_,rfl,rfl,?_⟩
     have ab:(I.map List.length).getD i0 0=ps.length:=by
      rw [List.getD_eq_getElem?_getD,List.getElem?_map,au]
      rfl
     refine⟨b,0,some ((ps.length:Int) - 1),rfl,hb.same J,fun af=>?_,fun af=>k2 (sX aa ?_) H' J⟩
     ·obtain⟨j0,rfl,aE⟩:=rJ af
      refine⟨_,rfl,_,rfl,d,_,rfl,j7.t (k:=ij i0 j0) ai h' (by omega),?_⟩
      have aA:lA (I.map List.length) (some (V.int i0,V.int j0))=true:=by
       show(jd (.int (i0:Int)) 0 _ && jd (.int (j0:Int)) 0 (some ((((I.map List.length).getD (i0:Int).toNat 0:Nat):Int) - 1)))=true
       rw [Int.toNat_natCast,ab,af,<-ag,hg]
       rfl
      refine⟨_,_,_,rfl,fun q u e=>?_,fv,Nat.le_trans (qB _ _ _) (Nat.succ_le_succ ar),?_,fun i' j'=>?_⟩
      ·rw [fB (fW e hd)]
       exact J _ _ e
      ·rw [take_snoc aa,List.all_append,U]
       show(true && (lA _ _ && true))=true
       rw [aA]
       rfl
      ·rw [zf,take_snoc aa,List.mem_append,List.mem_singleton,<-ae]
       by_cases e:ij i' j'=ij i0 j0
       ·obtain⟨rfl,rfl⟩:=BS e
        rw [if_pos rfl]
        exact⟨fun _=> .inr rfl,fun _=>rfl⟩
       ·rw [if_neg e]
        refine⟨.inl,fun z=>z.elim id fun z=>absurd ?_ e⟩
        have z':=Prod.mk.inj (Option.some.inj z)
        have z1:(i':Int)=i0:=V.int.inj z'.1
        have z2:(j':Int)=j0:=V.int.inj z'.2
        show [Sum.inl (i':Int),Sum.inl (j':Int)]=[Sum.inl (i0:Int),Sum.inl (j0:Int)]
        rw [z1,z2]
     ·show(jd (.int (i0:Int)) 0 _ && jd b 0 (some ((((I.map List.length).getD (i0:Int).toNat 0:Nat):Int) - 1)))=false
      rw [Int.toNat_natCast,ab,af,Bool.and_false]
    ·cases a with
     | int i0=>
      show(jd (.int i0) 0 (some (((I.map List.length).length:Int) - 1)) && _)=false
      rw [<-ag,hg]
      rfl
     | _=>rfl
  ·rintro σ H' ⟨kvs,o3,o4,rfl,J,ai,ar,U,ae⟩
   rw [aw,List.take_length] at U ae
   exact⟨_,rfl,k1 U d H' kvs J hd ai ae⟩
end
def FC(cur:Str->List Pr):Hp->Addr->Str->Prop:=fun H a y=>gC H a (cur y)
structure iQ (B H : Hp) (d : Addr) (es : En) (cur : Str -> List Pr) : Prop where
 l : DL B H d es (FC cur)
 k : ∀ y, y ∈ es.map (·.1) ↔ cur y ≠ []
def more(cur:Str->List Pr)(x:Str)(r:Pr):Str->List Pr:=fun y=>if y=x then cur x++[r] else cur y
theorem iQ.app {B H2 H3:Hp}{d p:Addr}{es:En}{cur:Str->List Pr}{x:Str}{v:V}{r:Pr}{ys:List V}(hD:DL B H2 d es (FC cur))(hp:(x,p)∈es)(hk:∀ y,y∈es.map (·.1)↔cur y≠[]\/y=x)(s:eZ H2 H3)
  (hys:H2 p=some (.lst ys))(hpr:Paired (ip H2) ys (cur x))(hv:ip H3 v r):iQ B (upd H3 p (.lst (ys++[v]))) d es (more cur x r):=by
 have J:SameBut p H2 (upd H3 p (.lst (ys++[v]))):=fun b u q hb=>by rw [fB hb];exact s _ _ q
 have U:=gC.snoc (s _ _ hys) (Gn.Paired.imp2 hpr fun _ _ q=>q.same s) hv
 have I:d≠p:=fun q=>by rw [<-q,hD.d] at hys;cases hys
 refine⟨hD.put hp (J _ _ hD.d I) (fun e he n1 n2 hf=>?_) ?_,fun y=>?_⟩
 ·show gC _ e.2 (more cur x r e.1)
  rw [more,if_neg n1]
  exact gC.but hf J n2 fun ts q=>by rw [hys] at q;cases q
 ·show gC _ p (more cur x r x)
  rw [more,if_pos rfl]
  exact U
 ·rw [hk]
  unfold more
  by_cases e:y=x
  ·rw [if_pos e]
   exact⟨fun _=>by simp,fun _=> .inr e⟩
  ·rw [if_neg e]
   exact⟨fun z=>z.elim id fun z=>absurd z e,.inl⟩
theorem iQ.cong {B H:Hp}{d:Addr}{es:En}{cur cur':Str->List Pr}(h:iQ B H d es cur)(e:∀ y,cur y=cur' y):iQ B H d es cur':=by
 have:cur=cur':=funext e
 rw [<-this]
 exact h
theorem G6{z y:Str}(hz:Drawn z)(h:y∈tw z):fZ 2000 (.str y)=true:=by
 unfold tw at h
 obtain⟨x,J,rfl⟩:=List.mem_map.mp h
 obtain⟨h1,h2,h3,h4⟩:=ET (codes z) x J
 have I:(codes z).length=z.length:=by unfold codes;simp [Str.length]
 have U:=hz.1
 show(decide (1<=(⟨x.1.toArray⟩:Str).length) && decide ((⟨x.1.toArray⟩:Str).length<=2000) && x.1.toArray.toList.all gc)=true
 rw [jU]
 have hp:0 < x.1.length:=List.length_pos_iff.mpr h1
 rw [decide_eq_true (by omega),decide_eq_true (by omega)]
 simpa using h2
section
variable {P : Program} {w : World} {K : PySem.W.Frag} {mg : Str -> Option Value} {base : Heap} {C CN CW : Addr}
def x6(C:Addr):Sp:=fun vs H Q _=>∃(d x dn:Addr) (J B:Hp) (es:En) (ta:List (List Str)) (ps:List (Str×Str)) (ks:List Bool) (kvs:List (Key×V)),vs=[.ref d,.ref x,.ref dn]/\eZ J H/\g8 C J x ps/\jy ps/\iK (fz ps)/\
 (∀ z,B z=none->J z=none)/\(∀ z,H z=none->B z=none)/\B d=none/\iQ B H d es (fun y=>rowOf y ta 0)/\H dn=some (.dK kvs)/\dn≠d/\ks.length=ps.length/\
 (∀ n:Nat,gg kvs (Sum.inl (n:Int))=if ks[n]? =some true then some (.int ((ta.length + cnt ks n:Nat):Int)) else none)/\es.length<=2000/\ta.length<=1000/\
 ∀ I H',eZ J H'->(∀ b u o,H b=some u->B b=some o->H' b=some u)->(∀ b q,H b=some (.tup q)->H' b=some (.tup q))->iQ B H' d I (fun y=>rowOf y (ta++gk ks (fz ps)) 0)->I.length<=es.length + gx (fz ps)->Q .non H'
theorem rf:fU ["rows","book","new_numbers","word","number","places"] ["rows","book","new_numbers"] (fD qm):=⟨rfl,rfl,rfl,dk,rfl,dk,dk⟩
seal fM PS PE PT PA PG PI fT fS in
theorem Fc{f fw fr:Addr}{fd fdw fdr:FuncData}(D:Df K mg "pour_rows" qm f fd)(B:iN K mg C)(FW:fV K "words" "Book.words" mJ fw fdw)(mW:Meth K C "words" fw)(GW:fx P w K mg base fE 1 fw fdw ["self"] (Aq C))
  (FR:fV K "row_of" "Book.row_of" m5 fr fdr)(mR:Meth K C "row_of" fr)(GR:fx P w K mg base (fQ P w) 5 fr fdr ["self","word"] (yK K C CW)):fx P w K mg base fE 6 f fd ["rows","book","new_numbers"] (x6 C):=by
 have bW:=FW.binds (ps:=["self"]) fun _ _ _ _ _ _ us hl=>match us,hl with | [_],_=>rfl
 have bR:=FR.binds (ps:=["self","word"]) fun _ _ _ _ _ _ us hl=>match us,hl with | [_,_],_=>rfl
 refine D.F.ok rf (fun vs H Q E h=>?_) (fun cdv A outer s H vs Q E hr h=>?_)
 ·obtain⟨d,x,dn,B0,Bs,es,ta,ps,ks,kvs,rfl,_⟩:=h
  rfl
 ·obtain⟨d,x,dn,B0,Bs,aD,ta,ps,ks,kvs,rfl,s0,aE,hg,av,aZ,bh,aR,aj,bj,bo,a0,a3,bG,bH,k⟩:=h
  have hl:(sizeLine:Nat)=16777216:=sizeLine_eq
  have hu:=kq hr
  have bI:=aE.ex
  refine⟨_,fA (gO PassesOwn.never rfl (gK (ji (pv 1) B.cl mW (GW.mono (by decide)) hr bW .nil fL)) (fR (i:=3) rf.nd rfl (Or.inl rfl))
   (fA (gO PassesOwn.never rfl (gK (jD (pv 1) B.cl mR GR hr bR .nil ja (eY (pv 3) fe))) (jj (n:=2) rfl (gJ (fR (i:=4) rf.nd rfl (Or.inl rfl)) (gJ (fR (i:=5) rf.nd rfl (Or.inl rfl)) jh)))
    (fA (gj (kI (vd hu (pv 4) (pv 2)))
     (fA (gB (gQ F.plainAttrs_list F.slot_list_append F.type_list_append iO
      (PE.imp (t':=sO 0 3) (gQ F.plainAttrs_dict F.slot_dict_setdefault F.type_dict_setdefault uY (pv 0) (eY (pv 3) (eY (gf fe) fe))) fun _ _ _=>getL)
      (eY (iV (eY (qw hu (pv 2) (pv 4) (fun _ _=>rfl)) (eY (pv 5) fe))) fe)))) gh))))),?_⟩
  obtain⟨dx,bJ,pa,sz,dr,ri,bp,ar,bq,aS,_⟩:=(aE.same s0).ex
  refine⟨_,rfl,x,dx,_,rfl,aS,kb dk dk dk dk dk,?_⟩
  refine⟨x,ps,rfl,aE.same s0,fun lw U H1 s1 br hL a4 aT _=>?_⟩
  have aU:ks.length=(fz ps).length:=by rw [a0];unfold fz;rw [List.length_map]
  have bK:U.length<=gx (fz ps):=by
   have h1:=sv a4 (m:=(fz ps).flatten) fun y hy=>by
    obtain⟨ws,a,b⟩:=(aT y).mp hy
    exact List.mem_flatten.mpr ⟨ws,a,b⟩
   rw [List.length_flatten] at h1
   exact h1
  have bL:=av.t
  have bM:=av.l
  refine⟨lw,rfl,⟨_,fj.of hL⟩,?_⟩
  have a5:∀ y,rowOf y (ta++gk ks (fz ps)) 0=rowOf y ta 0++gM ks ta.length (rowOf y (fz ps) 0):=fun y=>by
   rw [zX,Nat.zero_add,CG y ta.length ks (fz ps) aU]
  have e0:(sl U).length=U.length:=List.length_map _
  refine jl (xs:=sl U) (fun i σ H'=>∃(es:En) (o3 o4 o5:Option V),σ=[some (.ref d),some (.ref x),some (.ref dn),o3,o4,o5]/\eZ B0 H'/\(∀ b u o,H b=some u->Bs b=some o->H' b=some u)/\(∀ b q,H b=some (.tup q)->H' b=some (.tup q))/\(∀ z,H' z=none->Bs z=none)/\H' dn=some (.dK kvs)/\H' lw=some (.lst (sl U))/\(∀ e∈es,e.2≠lw)/\
   iQ Bs H' d es (fun y=>if y∈U.take i then rowOf y ta 0++gM ks ta.length (rowOf y (fz ps) 0) else rowOf y ta 0)/\es.length<=aD.length + i) ?_ ?_ ?_ ?_
  ·refine⟨aD,none,none,none,rfl,s0.trans s1,fun b u o e _=>s1 _ _ e,fun b q e=>s1 _ _ e,fun z hz=>bh z (s1.free hz),s1 _ _ bj,hL,fun e he q=>?_,⟨⟨s1 _ _ aj.l.d,aj.l.k,aj.l.a,aj.l.n,fun e he=>?_⟩,fun y=>?_⟩,Nat.le_refl _⟩
   ·obtain⟨ys,h1,_⟩:=aj.l.f e he
    rw [q,br] at h1
    cases h1
   ·show gC H1 e.2 (if e.1∈U.take 0 then _ else rowOf e.1 ta 0)
    rw [if_neg (by simp)]
    exact(aj.l.f e he).same s1
   ·rw [if_neg (by simp)]
    exact aj.k y
  ·rintro i σ H' _ ⟨_,_,_,_,_,_,_,_,_,_,h,_⟩
   exact fj.of h
  ·rintro i v σ H' hv ⟨es,o3,o4,o5,rfl,sB,fr,tp,a6,aJ,aK,a7,hR,aF⟩
   obtain⟨I,aG,rfl⟩:=xq hv
   have bN:=(List.getElem?_eq_some_iff.mp aG).1
   have bt:I∈U:=List.mem_of_getElem? aG
   have aL:I∉U.take i:=p5 a4 aG
   have aM:=aE.same sB
   obtain⟨dx,bO,pa,sz,dr,ri,bp,ar,bq,aS,_⟩:=aM.ex
   have aw:fZ 2000 (.str I)=true:=by
    obtain⟨ws,a,b⟩:=(aT I).mp bt
    unfold fz at a
    obtain⟨p,hp,rfl⟩:=List.mem_map.mp a
    exact G6 (qe (hg.g p hp).2) b
   have bP:I.length<=2000:=by
    have h1:(decide (1<=I.length) && decide (I.length<=2000) && I.cps.toList.all gc)=true:=aw
    rw [Bool.and_eq_true,Bool.and_eq_true] at h1
    exact of_decide_eq_true h1.1.2
   refine⟨_,rfl,x,dx,_,rfl,aS,kb dk dk dk dk dk,_,rfl,?_⟩
   refine⟨x,ps,.str I,rfl,aM,av,⟨_,.str _⟩,(fun z e=>by injection e with e;rw [<-e];omega),fun z l H2 e _ s2 bu bw=>?_,fun e=>by rw [aw] at e;cases e⟩
   injection e with e
   subst e
   obtain⟨ys,a8,a9⟩:=bw
   have bx:=Gn.Paired.len a9
   have bQ:=(pQ I (fz ps) 0).1
   refine⟨l,rfl,⟨_,fj.of a8⟩,?_⟩
   refine jl (xs:=ys) (fun j σ H3=>∃(es:En) (o4 o5:Option V),σ=[some (.ref d),some (.ref x),some (.ref dn),some (.str I),o4,o5]/\eZ B0 H3/\(∀ b u o,H b=some u->Bs b=some o->H3 b=some u)/\(∀ b q,H b=some (.tup q)->H3 b=some (.tup q))/\(∀ z,H3 z=none->Bs z=none)/\H3 dn=some (.dK kvs)/\H3 lw=some (.lst (sl U))/\(∀ e∈es,e.2≠lw)/\
    H3 l=some (.lst ys)/\Paired (ip H3) ys (rowOf I (fz ps) 0)/\(∀ e∈es,e.2≠l)/\
    iQ Bs H3 d es (fun y=>if y=I then rowOf I ta 0++gM ks ta.length ((rowOf I (fz ps) 0).take j) else if y∈U.take i then rowOf y ta 0++gM ks ta.length (rowOf y (fz ps) 0) else rowOf y ta 0)/\es.length<=aD.length + i + 1/\(I∉es.map (·.1)->es.length<=aD.length + i)) ?_ ?_ ?_ ?_
   ·refine⟨es,_,_,rfl,sB.trans s2,fun b u o e1 e2=>s2 _ _ (fr b u o e1 e2),fun b q e=>s2 _ _ (tp b q e),fun z hz=>a6 z (s2.free hz),s2 _ _ aJ,s2 _ _ aK,a7,a8,a9,fun e he q=>?_,⟨⟨s2 _ _ hR.l.d,hR.l.k,hR.l.a,hR.l.n,fun e he=>?_⟩,fun y=>?_⟩,Nat.le_succ_of_le aF,fun _=>aF⟩
    ·obtain⟨zs,h1,_⟩:=hR.l.f e he
     rw [q,bu] at h1
     cases h1
    ·have hf:gC H' e.2 (if e.1∈U.take i then rowOf e.1 ta 0++gM ks ta.length (rowOf e.1 (fz ps) 0) else rowOf e.1 ta 0):=hR.l.f e he
     show gC H2 e.2 (if e.1=I then _ else _)
     by_cases q:e.1=I
     ·rw [if_pos q]
      rw [q,if_neg aL] at hf
      show gC H2 e.2 (rowOf I ta 0++[])
      rw [List.append_nil]
      exact hf.same s2
     ·rw [if_neg q]
      exact hf.same s2
    ·rw [hR.k y]
     by_cases q:y=I
     ·rw [if_pos q,q,if_neg aL]
      show _↔rowOf I ta 0++[]≠[]
      rw [List.append_nil]
     ·rw [if_neg q]
   ·rintro j σ H3 _ ⟨_,_,_,_,_,_,_,_,_,_,_,h,_⟩
    exact fj.of h
   ·rintro j v σ H3 hv ⟨es,o4,o5,rfl,aH,aI,ax,ae,af,aa,ag,ah,ak,ab,J,ao,ay⟩
    obtain⟨r,bz,ba⟩:=gW ak hv
    obtain⟨n,pl⟩:=r
    cases ba with
    | mk h ht=>
     rename_i p t
     have bb:(rowOf I (fz ps) 0).take (j + 1)=(rowOf I (fz ps) 0).take j++[(n,pl)]:=take_snoc bz
     refine⟨p,_,rfl,gb.of h,rfl,_,_,rfl,_,_,rfl,rfl,?_⟩
     refine⟨_,rfl,_,rfl,dn,_,rfl,iF.k (k:=Sum.inl (n:Int)) af,_,rfl,?_⟩
     rw [a3 n]
     by_cases az:ks[n]? =some true
     ·rw [if_pos az]
      refine fY ?_
      have aA:gM ks ta.length ((rowOf I (fz ps) 0).take (j + 1))=gM ks ta.length ((rowOf I (fz ps) 0).take j)++[(ta.length + cnt ks n,pl)]:=by
       rw [bb,vP]
       congr 1
       show(if ks[n]? =some true then _ else _)=_
       rw [if_pos az]
       rfl
      have bA:∀ e'∈es,∃ q,H3 e'.2=some (.lst q):=fun e' bB=>let ⟨zs,h1,_⟩:=J.l.f e' bB;⟨zs,h1⟩
      refine⟨Bs,d,es,I,FC _,rfl,rfl,J.l,by omega,ae,bA,?_,?_,?_⟩
      ·intro G b y q sb hb hf
       exact gC.but hf sb (fun e=>by rw [e,J.l.d] at hb;cases hb) fun U e=>by rw [J.l.d] at e;cases e
      ·intro G z hn hz
       refine⟨[],hz,?_⟩
       have:¬ _≠[]:=fun e=>hn ((J.k I).mpr e)
       have h0:=Classical.not_not.mp this
       dsimp only
       rw [h0]
       exact .nil
      ·rintro pp ar H4 sb aV hp aW ⟨q,bS⟩
       obtain⟨zs,au,bc⟩:=aV.f _ hp
       have aq:=sb _ _ af bo
       have aB:∀{b:Addr} {q:List V},H3 b=some (.lst q)->b≠d:=fun e z=>by rw [z,J.l.d] at e;cases e
       have aN:∀{b:Addr} {q:List V},H3 b=some (.tup q)->b≠d:=fun e z=>by rw [z,J.l.d] at e;cases e
       refine⟨.inl ⟨rfl,_,fj.of au⟩,?_⟩
       have bC:some (V.int ((ta.length + cnt ks n:Nat):Int))=gg kvs (Sum.inl (n:Int)):=by rw [a3 n,if_pos az]
       refine⟨_,rfl,_,rfl,dn,_,rfl,.inl ⟨kvs,Sum.inl (n:Int),.inl aq,rfl,bC⟩,_,rfl,(by show 2<=sizeLine;decide),fun pt bD=>?_⟩
       have s5:eZ H4 (upd H4 pt (.tup [.int ((ta.length + cnt ks n:Nat):Int),.ref t])):=fC bD
       have h5:upd H4 pt (.tup [.int ((ta.length + cnt ks n:Nat):Int),.ref t]) pt=some (.tup [.int ((ta.length + cnt ks n:Nat):Int),.ref t]):=fv
       generalize upd H4 pt (.tup [.int ((ta.length + cnt ks n:Nat):Int),.ref t])=H5 at s5 h5 ⊢
       have bE:ip H5 (.ref pt) (ta.length + cnt ks n,pl):= .mk h5 (s5 _ _ (sb _ _ ht (aN ht)))
       have bT:zs.length<=10000:=by
        have h1:=Gn.Paired.len bc
        rw [h1]
        show(if I=I then rowOf I ta 0++gM ks ta.length ((rowOf I (fz ps) 0).take j) else _).length<=_
        rw [if_pos rfl,List.length_append]
        have h2:=(pQ I ta 0).1
        have h3:∀(l:List Pr),(gM ks ta.length l).length<=l.length:=fun l=>by
         induction l with
         | nil=>exact Nat.le_refl _
         | cons a l ih=>
          obtain⟨a1,a2⟩:=a
          show(if ks[a1]? =some true then _::gM ks ta.length l else gM ks ta.length l).length<=l.length + 1
          by_cases e:ks[a1]? =some true
          ·rw [if_pos e];exact Nat.succ_le_succ ih
          ·rw [if_neg e];exact Nat.le_succ_of_le ih
        have h4:=h3 ((rowOf I (fz ps) 0).take j)
        rw [List.length_take] at h4
        omega
       refine⟨pp,zs,_,rfl,rfl,s5 _ _ au,by omega,?_⟩
       have aC:∀ e∈ar,e.2≠lw/\e.2≠l:=fun e he=>by
        rcases aW with rfl | ⟨_,rfl,bf⟩
        ·exact⟨ag e he,ab e he⟩
        ·rcases List.mem_append.mp he with he | he
         ·exact⟨ag e he,ab e he⟩
         ·rw [List.mem_singleton.mp he]
          exact⟨Ne.symm (fW aa bf),Ne.symm (fW ah bf)⟩
       have aO:=aC _ hp
       have aX:∀ y,y∈ar.map (·.1)↔(if y=I then rowOf I ta 0++gM ks ta.length ((rowOf I (fz ps) 0).take j) else if y∈U.take i then rowOf y ta 0++gM ks ta.length (rowOf y (fz ps) 0) else rowOf y ta 0)≠[]\/y=I:=fun y=>by
        have hm:y∈ar.map (·.1)↔y∈es.map (·.1)\/y=I:=by
         rcases aW with rfl | ⟨_,rfl,_⟩
         ·exact⟨.inl,fun q=>q.elim id fun z=>by rw [z];exact List.mem_map.mpr ⟨_,hp,rfl⟩⟩
         ·rw [List.map_append,List.mem_append]
          show(_\/y∈[I])↔_
          rw [List.mem_singleton]
        rw [hm,J.k y]
       have aP:=iQ.app aV hp aX s5 au bc bE
       have ai:SameBut pp H4 (upd H5 pp (.lst (zs++[.ref pt]))):=fun b u q hb=>by rw [fB hb];exact s5 _ _ q
       have aY:Bs pp=none:=aV.n _ hp
       have bg:∀ b u,B0 b=some u->H4 b=some u:=fun b u e=>sb _ _ (aH _ _ e) fun q=>by
        have:=aZ d aR
        rw [<-q,e] at this
        cases this
       have aQ:∀ z,(upd H5 pp (.lst (zs++[.ref pt]))) z=none->Bs z=none:=fun z hz=>by
        by_cases e:z=pp
        ·rw [e];exact aY
        ·rw [fB e] at hz
         by_cases e2:z=d
         ·rw [e2];exact aR
         ·refine ae z ?_
          cases q:H3 z with
          | none=>rfl
          | some u=>rw [s5 _ _ (sb _ _ q e2)] at hz;cases hz
       generalize upd H5 pp (.lst (zs++[.ref pt]))=H7 at aP ai aQ ⊢
       refine⟨ar,_,_,rfl,fun b u e=>?_,fun b u o e1 e2=>?_,fun b q e=>?_,aQ,?_,?_,fun e he=>(aC e he).1,?_,?_,fun e he=>(aC e he).2,aP.cong fun y=>?_,?_,fun hn=>?_⟩
       ·exact ai _ _ (bg b u e) fun q=>by
         have:=aZ pp aY
         rw [<-q,e] at this
         cases this
       ·exact ai _ _ (sb _ _ (aI b u o e1 e2) fun q=>by rw [q,aR] at e2;cases e2) fun q=>by rw [q,aY] at e2;cases e2
       ·have h4:=sb _ _ (ax b q e) (aN (ax b q e))
        exact ai _ _ h4 fun q=>by rw [q,au] at h4;cases h4
       ·exact ai _ _ aq fun q=>by rw [q,au] at aq;cases aq
       ·exact ai _ _ (sb _ _ aa (aB aa)) (Ne.symm aO.1)
       ·exact ai _ _ (sb _ _ ah (aB ah)) (Ne.symm aO.2)
       ·exact Gn.Paired.imp2 ak fun _ _ q=>(q.but sb (fun U e=>by rw [J.l.d] at e;cases e)).but ai fun U e=>by rw [au] at e;cases e
       ·unfold more
        dsimp only
        by_cases e:y=I
        ·rw [if_pos e,if_pos e,if_pos rfl,aA,List.append_assoc]
        ·rw [if_neg e,if_neg e,if_neg e]
       ·rcases aW with rfl | ⟨bF,rfl,_⟩
        ·exact ao
        ·have:=ay bF
         rw [List.length_append]
         show es.length + 1<=_
         omega
       ·exact absurd (List.mem_map.mpr ⟨_,hp,rfl⟩) hn
     ·rw [if_neg az]
      refine fO ?_
      have aA:gM ks ta.length ((rowOf I (fz ps) 0).take (j + 1))=gM ks ta.length ((rowOf I (fz ps) 0).take j):=by
       rw [bb,vP]
       show _++(if ks[n]? =some true then _ else _)=_
       rw [if_neg az]
       exact List.append_nil _
      exact⟨es,_,_,rfl,aH,aI,ax,ae,af,aa,ag,ah,ak,ab,J.cong fun y=>by rw [aA],ao,ay⟩
   ·rintro σ H3 ⟨es,o4,o5,rfl,aH,aI,ax,ae,af,aa,ag,ah,ak,ab,J,ao,_⟩
    rw [bx,List.take_length] at J
    refine⟨es,_,_,_,rfl,aH,aI,ax,ae,af,aa,ag,J.cong fun y=>?_,ao⟩
    have em:y∈U.take (i + 1)↔y∈U.take i\/y=I:=by rw [take_snoc aG,List.mem_append,List.mem_singleton]
    by_cases q:y=I
    ·rw [if_pos q,if_pos (em.mpr (.inr q)),q]
    ·rw [if_neg q]
     by_cases q2:y∈U.take i
     ·rw [if_pos q2,if_pos (em.mpr (.inl q2))]
     ·rw [if_neg q2,if_neg fun z=>(em.mp z).elim q2 q]
  ·rintro σ H' ⟨es,o3,o4,o5,rfl,sB,fr,tp,a6,aJ,aK,a7,hR,aF⟩
   rw [e0,List.take_length] at hR
   rw [e0] at aF
   refine k es H' sB fr tp (hR.cong fun y=>?_) (by omega)
   rw [a5 y]
   by_cases q:y∈U
   ·rw [if_pos q]
   ·rw [if_neg q,(nX y (fz ps) 0).mpr fun ws hw z=>q ((aT y).mpr ⟨ws,hw,z⟩)]
    exact(List.append_nil _).symm
end
def g0(gvs:List (Option (V×V)))(i n:Nat):List Bool:=(List.range n).map fun(j:Nat)=> !decide (some (V.int (i:Int),V.int (j:Int))∈gvs)
theorem su(gvs:List (Option (V×V)))(i n:Nat):(g0 gvs i n).length=n:=by unfold g0;simp
theorem BI{gvs:List (Option (V×V))}{i n j:Nat}(h:j < n):(g0 gvs i n)[j]? =some (!decide (some (V.int (i:Int),V.int (j:Int))∈gvs)):=by
 unfold g0
 rw [List.getElem?_map,List.getElem?_range h]
 rfl
def kept(gvs:List (Option (V×V))):Nat->List (List (Str×Str))->List (Str×Str)
 | _,[]=>[]
 | i,ps::r=>gk (g0 gvs i ps.length) ps++kept gvs (i + 1) r
theorem yZ(gvs:List (Option (V×V)))(ps:List (Str×Str)):∀(a:List (List (Str×Str))) (s:Nat),kept gvs s (a++[ps])=kept gvs s a++gk (g0 gvs (s + a.length) ps.length) ps
 | [],s=>by
  show gk _ ps++[]=[]++_
  rw [List.append_nil,List.nil_append]
  rfl
 | x::a,s=>by
  show gk _ x++kept gvs (s + 1) (a++[ps])=(gk _ x++kept gvs (s + 1) a)++_
  rw [yZ gvs ps a (s + 1),List.append_assoc]
  have e:s + 1 + a.length=s + (x::a).length:=by rw [List.length_cons];omega
  rw [e]
theorem uK(gvs:List (Option (V×V))):∀(a:List (List (Str×Str))) (s:Nat),(kept gvs s a).Sublist a.flatten
 | [],s=>List.nil_sublist _
 | x::a,s=>by
  show(gk _ x++kept gvs (s + 1) a).Sublist (x++a.flatten)
  exact(sy _ x).append (uK gvs a (s + 1))
theorem ud{α:Type}:∀{a b:List (List α)},a.Sublist b->gx a<=gx b
 | _,_,.slnil=>Nat.le_refl _
 | _,_,.cons x h=>by
  have:=ud h
  show _<=x.length + gx _
  omega
 | _,_,.cons_cons x h=>by
  have:=ud h
  show x.length + gx _<=x.length + gx _
  omega
theorem iK.sub {a b:List (Str×Str)}(h:iK (fz b))(s:a.Sublist b):iK (fz a):=by
 have s2:(fz a).Sublist (fz b):=s.map _
 exact⟨Nat.le_trans s2.length_le h.l,Nat.le_trans (ud s2) h.t⟩
theorem ng.sub {a b:List (Str×Str)}(h:ng (fz b))(s:a.Sublist b):ng (fz a):=by
 obtain⟨us,h1,h2⟩:=h
 exact⟨us,h1,fun ws hw=>h2 ws ((s.map (fun p:Str×Str=>tw p.2)).mem hw)⟩
theorem lZ:∀{a b:List (Str×Str)},a.map kp=b.map kp->a=b
 | [],[],_=>rfl
 | [],_::_,h=>by cases h
 | _::_,[],h=>by cases h
 | x::a,y::b,h=>by
  rw [List.map_cons,List.map_cons] at h
  obtain⟨h1,h2⟩:=List.cons.inj h
  obtain⟨I,J⟩:=Prod.mk.inj h1
  have e:x=y:=Prod.ext (V.str.inj I) (V.str.inj J)
  rw [e,lZ h2]
theorem uU:∀{ps:List (Str×Str)} {seen:List Str} {i:Nat},(∀ p∈ps,fZ 12 (.str p.1)=true/\gq (.str p.2)=true)->ik seen (ps.map kp)=some i->i=2/\¬ ((ps.map (·.1)).Nodup/\∀ p∈ps,p.1∉seen)
 | [],_,_,_,h=>by cases h
 | p::ps,seen,i,J,h=>by
  obtain⟨g1,g2⟩:=J p List.mem_cons_self
  have h':(if fZ 12 (.str p.1)=false then some 0 else if gq (.str p.2)=false then some 1 else if p.1∈seen then some 2 else ik (seen++[p.1]) (ps.map kp))=some i:=h
  rw [if_neg (by rw [g1];decide),if_neg (by rw [g2];decide)] at h'
  by_cases hs:p.1∈seen
  ·rw [if_pos hs] at h'
   exact⟨(Option.some.inj h').symm,fun z=>z.2 p List.mem_cons_self hs⟩
  ·rw [if_neg hs] at h'
   obtain⟨e,hn⟩:=uU (fun q I=>J q (List.mem_cons_of_mem _ I)) h'
   refine⟨e,fun z=>hn ?_⟩
   have U:(p.1::ps.map (·.1)).Nodup:=z.1
   obtain⟨n1,n2⟩:=List.nodup_cons.mp U
   refine⟨n2,fun q I hm=>?_⟩
   rcases List.mem_append.mp hm with hm | hm
   ·exact z.2 q (List.mem_cons_of_mem _ I) hm
   ·exact n1 (by rw [<-List.mem_singleton.mp hm];exact List.mem_map.mpr ⟨q,I,rfl⟩)
section
variable {P : Program} {w : World} {K : PySem.W.Frag} {mg : Str -> Option Value} {base : Heap} {C CN CK CT CW : Addr}
theorem iQ.but {B H H':Hp}{d x:Addr}{es:En}{cur:Str->List Pr}(h:iQ B H d es cur)(s:SameBut x H H')(nd:d≠x)(nt:∀ ts,H x≠some (.tup ts))(ne:∀ e∈es,e.2≠x):iQ B H' d es cur:=
 ⟨⟨s _ _ h.l.d nd,h.l.k,h.l.a,h.l.n,fun e he=>gC.but (h.l.f e he) s (ne e he) nt⟩,h.k⟩
theorem iQ.same {B H H':Hp}{d:Addr}{es:En}{cur:Str->List Pr}(h:iQ B H d es cur)(s:eZ H H'):iQ B H' d es cur:=
 ⟨⟨s _ _ h.l.d,h.l.k,h.l.a,h.l.n,fun e he=>gC.same (h.l.f e he) s⟩,h.k⟩
def wV(K:W.Frag)(H:Hp)(g:V)(gvs:List (Option (V×V))):Prop:=(g= .non/\gvs=[])\/∃ gl I,g= .ref gl/\H gl=some (.lst I)/\Paired (GV K H) I gvs/\I.length<=1000
def p3(K:W.Frag)(C CN CW:Addr):Sp:=fun vs H Q E=>∃(bl:Addr) (g:V) (bs:List V) (I:List (List (Str×Str))) (gvs:List (Option (V×V))),vs=[.ref bl,g]/\H bl=some (.lst bs)/\iz C H bs I/\(∀ ps∈I,jy ps)/\iK (fz I.flatten)/\ng (fz I.flatten)/\I.length<=100/\wV K H g gvs/\
 (gvs.all (lA (I.map List.length))=false->∀ H',eZ H H'->E (.ref CN) none H')/\
 (gvs.all (lA (I.map List.length))=true->((kept gvs 0 I).map (·.1)).Nodup->∀ x H',eZ H H'->H x=none->g8 C H' x (kept gvs 0 I)->(∀ J,(∀ b u,H' b=some u->(∀ U,H b≠some (.lst U))->J b=some u)->g8 C J x (kept gvs 0 I))->Q (.ref x) H')/\
 (gvs.all (lA (I.map List.length))=true->¬ ((kept gvs 0 I).map (·.1)).Nodup->∀ H',eZ H H'->E (.ref CW) none H')
theorem lG:fU ["books","gone","without","pairs","rows","place","book","new_numbers","number"] ["books","gone"] (fD m9):=⟨rfl,rfl,rfl,dk,rfl,dk,dk⟩
theorem uW(a b:List (Str×Str)):fz (a++b)=fz a++fz b:=List.map_append
theorem xA{α:Type}(a b:List (List α)):gx (a++b)=gx a + gx b:=by
 unfold gx
 rw [List.map_append,List.sum_append]
theorem qr{α:Type}{xs:List (List α)}{i:Nat}{x:List α}(h:xs[i]? =some x):(xs.take (i + 1)).flatten=(xs.take i).flatten++x:=by
 rw [take_snoc h,List.flatten_append]
 simp
theorem rA{α:Type}:∀(xs:List (List α)) (i:Nat),((xs.take i).flatten).Sublist xs.flatten
 | [],i=>by rw [List.take_nil];exact List.Sublist.refl _
 | x::xs,0=>List.nil_sublist _
 | x::xs,i + 1=>by
  show(x++(xs.take i).flatten).Sublist (x++xs.flatten)
  exact(List.Sublist.refl x).append (rA xs i)
theorem j3{α:Type}:∀{xs:List (List α)} {x:List α},x∈xs->x.Sublist xs.flatten
 | [],_,h=>nomatch h
 | y::xs,x,h=>by
  show x.Sublist (y++xs.flatten)
  rcases List.mem_cons.mp h with h | h
  ·rw [h];exact List.sublist_append_left _ _
  ·exact(j3 h).trans (List.sublist_append_right _ _)
def Hh(K:W.Frag):TE:=fun σ H Q=>∃(g:V) (gvs:List (Option (V×V))),σ[1]? =some (some g)/\wV K H g gvs/\∀ gl I H',eZ H H'->H' gl=some (.lst I)->Paired (GV K H') I gvs->I.length<=1000->Q (.ref gl) H'
theorem zq{H:Hp}{pa:Addr}{xs:List V}{qs:List (Str×Str)}{p:Addr}{q:Str×Str}(ha:H pa=some (.lst xs))(h:gm H xs (qs.map kp))(hp:H p=some (.tup [.str q.1,.str q.2])):gm (upd H pa (.lst (xs++[.ref p]))) (xs++[.ref p]) ((qs++[q]).map kp):=by
 have I:∀{b:Addr} {J:List V},H b=some (.tup J)->b≠pa:=fun e z=>by rw [z,ha] at e;cases e
 rw [List.map_append]
 exact Gn.Paired.app (Gn.Paired.imp2 h fun _ _ ⟨b,e,z⟩=>⟨b,e,by rw [fB (I z)];exact z⟩) ⟨p,rfl,by rw [fB (I hp)];exact hp⟩
seal fM PS PE PT PA PG PI fT fS in
theorem E7{f fg fm fk ft fp fr fi:Addr}{fd fdg fdm fdk fdt fdp fdr fdi:FuncData}(D:iR K mg "poured" m9 f fd #[.none])(B:iN K mg C)(T:Txt mg)
  (DG:Df K mg "need_gone" pP fg fdg)(GG:fx P w K mg base (fQ P w) 3 fg fdg ["books","gone"] (Aw K C CN))
  (FM:fV K "many" "Book.many" jT fm fdm)(mM:Meth K C "many" fm)(GM:fx P w K mg base fE 1 fm fdm ["self"] (nu C))
  (FK':fV K "key_of" "Book.key_of" nL fk fdk)(mK:Meth K C "key_of" fk)(GK:fx P w K mg base (fQ P w) 4 fk fdk ["self","number"] (oY K C CN (·.1)))
  (FT:fV K "text_of" "Book.text_of" lW ft fdt)(mT:Meth K C "text_of" ft)(GT:fx P w K mg base (fQ P w) 4 ft fdt ["self","number"] (oY K C CN (·.2)))
  (DP:Df K mg "pour_rows" qm fp fdp)(GP:fx P w K mg base fE 6 fp fdp ["rows","book","new_numbers"] (x6 C))
  (DR:Df K mg "packed_rows" oR fr fdr)(GR:fx P w K mg base fE 6 fr fdr ["rows"] uE)
  (FI:lr K "__init__" "Book.__init__" j8 fi fdi #[.none])(M:L2.Mk K C fi)(GI:fx P w K mg base (fQ P w) 8 fi fdi ["self","pairs","rows"] (rV K C CK CT CW)):fx P w K mg base (fQ P w) 10 f fd ["books","gone"] (p3 K C CN CW):=by
 have bG:=DG.F.binds (ps:=["books","gone"]) fun _ _ _ _ _ _ us hl=>match us,hl with | [_,_],_=>rfl
 have bM:=FM.binds (ps:=["self"]) fun _ _ _ _ _ _ us hl=>match us,hl with | [_],_=>rfl
 have bK:=FK'.binds (ps:=["self","number"]) fun _ _ _ _ _ _ us hl=>match us,hl with | [_,_],_=>rfl
 have bT:=FT.binds (ps:=["self","number"]) fun _ _ _ _ _ _ us hl=>match us,hl with | [_,_],_=>rfl
 have bP:=DP.F.binds (ps:=["rows","book","new_numbers"]) fun _ _ _ _ _ _ us hl=>match us,hl with | [_,_,_],_=>rfl
 have bR:=gu (p:="rows") DR.F fun _ _ _ _ _ _ _=>rfl
 have bI:=FI.binds (ps:=["self","pairs","rows"]) (ds:=[]) fun T kV doc pm an cdv ct us hl=>match us,(show us.length=3 by simpa using hl) with | [_,_,_],_=>⟨_,rfl,rfl⟩
 refine D.ok1 lG (fun vs H Q E h=>?_) (fun cdv A outer s H vs Q E hr h=>?_)
 ·obtain⟨bl,g,bs,I,gvs,rfl,_⟩:=h
  rfl
 ·obtain⟨bl,g,bs,I,gvs,rfl,a5,a6,ax,aa,a7,cv,a8,k1,k2,k3⟩:=h
  have hl:(sizeLine:Nat)=16777216:=sizeLine_eq
  have hu:=kq hr
  have bU:=Gn.Paired.len a6
  refine⟨_,fq (fG (i:=2) lG.nd rfl (Or.inl rfl) (fN (GG.mono (by decide)) hr rfl DG.m DG.F.kp bG .nil (jm (E':=E) (fun _ _ _ h=>h)) (eY (pv 0) (eY (PE.imp (t':=Hh K) (yy (kI (zM (pv 1))) (gf fe) (pv 1)) ?mG) fe))))
   (fq (fG (i:=3) lG.nd rfl (Or.inl rfl) (gf fe))
   (fq (fG (i:=4) lG.nd rfl (Or.inl rfl) mE)
   (fq (gO PassesOwn.leaving rfl (oq rfl T.enum (eY (pv 0) fe)) (jj (n:=2) rfl (gJ (fR (i:=5) lG.nd rfl (Or.inl rfl)) (gJ (fR (i:=6) lG.nd rfl (Or.inl rfl)) jh)))
    (fq (fG (i:=7) lG.nd rfl (Or.inl rfl) mE)
    (fq (gO PassesOwn.leaving rfl (lp rfl T.range (eY (ji (pv 6) B.cl mM (GM.mono (by decide)) hr bM .nil fL) fe)) (fR (i:=8) lG.nd rfl (Or.inl rfl))
     (fA (gj (kI (xo hu (iV (eY (pv 5) (eY (pv 8) fe))) (pv 2)))
      (fq (qF hu (pv 7) (pv 8) (gn iE rfl T.len g9 (eY (pv 3) fe)) rfl)
      (fA (gB (gQ F.plainAttrs_list F.slot_list_append F.type_list_append iO (pv 3)
       (eY (iV (eY (jD (pv 6) B.cl mK (GK.mono (by decide)) hr bK .nil ja (eY (pv 8) fe)) (eY (jD (pv 6) B.cl mT (GT.mono (by decide)) hr bT .nil ja (eY (pv 8) fe)) fe))) fe))))) gh)))
    (fA (gB (fN (GP.mono (by decide)) hr rfl DP.m DP.F.kp bP .nil fL (eY (pv 4) (eY (pv 6) (eY (pv 7) fe)))))))))
   (fA (fP (uP M GI hr rfl B.mgC bI .nil (jm (E':=E) (fun _ _ _ h=>h)) (eY (pv 3) (eY (fN (GR.mono (by decide)) hr rfl DR.m DR.F.kp bR .nil fL (eY (pv 4) fe)) fe)))))))),?_⟩
  case mG=>
   rintro σ H1 Q1 ⟨g,gvs,h1,a8,q⟩
   refine⟨_,h1,_,rfl,?_⟩
   rcases a8 with ⟨rfl,rfl⟩ | ⟨gl,gs,rfl,a9,ba,bb⟩
   ·exact fY ⟨(by show 0<=sizeLine;decide),fun z U=>q z [] _ (fC U) fv .nil (Nat.zero_le _)⟩
   ·exact fO ⟨_,h1,q gl gs H1 (eZ.refl _) a9 ba bb⟩
  refine⟨_,rfl,g,gvs,rfl,a8,fun gl gs H1 s1 a9 ba bb=>?_⟩
  refine⟨bl,gl,bs,gs,I,gvs,rfl,s1 _ _ a5,a9,a6.same s1,ba,bb,fun ai wo H2 kvs s2 cw hW bo=>?_,fun ai H2 s2=>k1 ai H2 (s1.trans s2)⟩
  replace k2:=k2 ai
  replace k3:=k3 ai
  have bp:=s1.trans s2
  refine⟨(by show 0<=sizeLine;decide),fun pa bq=>?_⟩
  have s3:eZ H2 (upd H2 pa (.lst [])):=fC bq
  have aj:upd H2 pa (.lst []) pa=some (.lst []):=fv
  generalize upd H2 pa (.lst [])=H3 at s3 aj ⊢
  have aO:=bp.trans s3
  intro d hd
  have br:H3 d=none:=hd
  have ay:∀ i,iK (fz (I.take i).flatten):=fun i=>aa.sub (rA I i)
  refine⟨_,rfl,bl,bs,rfl,fC hd _ _ (aO _ _ a5),?_⟩
  refine oA (xs:=bs) (fun i σ H'=>∃(es:En) (xs:List V) (o5 o6 o7 o8:Option V),σ=[some (.ref bl),some g,some (.ref wo),some (.ref pa),some (.ref d),o5,o6,o7,o8]/\eZ H H'/\H' wo=some (.dT kvs)/\H' pa=some (.lst xs)/\gm H' xs ((kept gvs 0 (I.take i)).map kp)/\(∀ z,H' z=none->H3 z=none)/\
   iQ H3 H' d es (fun y=>rowOf y (fz (kept gvs 0 (I.take i))) 0)/\es.length<=gx (fz (I.take i).flatten)) ?_ ?_ ?_ ?_
  ·refine⟨[],[],none,none,none,none,rfl,aO.trans (fC hd),fC hd _ _ (s3 _ _ hW),fC hd _ _ aj,.nil,fun z U=>(fC hd).free U,⟨⟨fv,List.nodup_nil,List.nodup_nil,(fun e he=>nomatch he),(fun e he=>nomatch he)⟩,fun y=>?_⟩,Nat.zero_le _⟩
   exact⟨(fun z=>nomatch z),fun z=>absurd rfl z⟩
  ·rintro i σ H' _ ⟨_,_,_,_,_,_,_,sm,_⟩
   exact sm _ _ a5
  ·rintro i v σ H' t hv ⟨es,xs,o5,o6,o7,o8,rfl,sm,az,ak,aP,bt,hR,bu⟩ ht
   obtain⟨ps,ag,x,rfl,aA⟩:=gW a6 hv
   have st:eZ H' (upd H' t (.tup [.int i,.ref x])):=fC ht
   refine⟨t,_,rfl,gb.of fv,rfl,_,_,rfl,_,_,rfl,rfl,?_⟩
   generalize upd H' t (.tup [.int i,.ref x])=H4 at st ⊢
   intro dn aB
   have sd:eZ H4 (upd H4 dn (.dK [])):=fC aB
   have aU:upd H4 dn (.dK []) dn=some (.dK []):=fv
   generalize upd H4 dn (.dK [])=H5 at sd aU ⊢
   have aw:=st.trans sd
   have bw:=sm.trans aw
   have bV:=ax ps (List.mem_of_getElem? ag)
   have aV:=aA.same bw
   obtain⟨dx,bW,bX,sz,dr,ri,bY,bc,bZ,b0,_⟩:=aV.ex
   have cx:=(List.getElem?_eq_some_iff.mp ag).1
   have ei:(I.take i).length=i:=sC ag
   have bS:ps.length<=300:=by
    have h1:=(aa.sub (j3 (List.mem_of_getElem? ag))).l
    unfold fz at h1
    rwa [List.length_map] at h1
   have cy:(kept gvs 0 (I.take i)).length<=300:=by
    have h1:=((ay i).sub (uK gvs (I.take i) 0)).l
    unfold fz at h1
    rwa [List.length_map] at h1
   have bx:dn≠d:=fun z=>by
    have:=st _ _ hR.l.d
    rw [<-z,aB] at this
    cases this
   have cz:pa≠dn:=fW (st _ _ ak) aB
   have cA:wo≠dn:=fW (st _ _ az) aB
   have b1:∀ e∈es,e.2≠pa:=fun e he z=>by
    have:=hR.l.n e he
    rw [z,aj] at this
    cases this
   refine⟨_,rfl,x,dx,_,rfl,b0,kb dk dk dk dk dk,?_⟩
   refine⟨x,ps,rfl,aV,_,rfl,by omega,by omega,?_⟩
   rw [Int.toNat_natCast]
   refine sM (n:=ps.length) (fun n σ H6=>∃(xs:List V) (kn:List (Key×V)) (o8:Option V),σ=[some (.ref bl),some g,some (.ref wo),some (.ref pa),some (.ref d),some (.int (i:Int)),some (.ref x),some (.ref dn),o8]/\eZ H H6/\H6 wo=some (.dT kvs)/\H6 pa=some (.lst xs)/\
    gm H6 xs ((kept gvs 0 (I.take i)++gk ((g0 gvs i ps.length).take n) (ps.take n)).map kp)/\(∀ z,H6 z=none->H3 z=none)/\iQ H3 H6 d es (fun y=>rowOf y (fz (kept gvs 0 (I.take i))) 0)/\H6 dn=some (.dK kn)/\kn.length<=n/\
    (∀ m:Nat,gg kn (Sum.inl (m:Int))=if m < n/\(g0 gvs i ps.length)[m]? =some true then some (.int (((kept gvs 0 (I.take i)).length + BK.cnt (g0 gvs i ps.length) m:Nat):Int)) else none)) ?_ ?_ ?_
   ·refine⟨xs,[],_,rfl,bw,aw _ _ az,aw _ _ ak,?_,fun z U=>bt z (aw.free U),hR.same aw,aU,Nat.le_refl _,fun m=>?_⟩
    ·show gm H5 xs ((kept gvs 0 (I.take i)++[]).map kp)
     rw [List.append_nil]
     exact aP.same aw
    ·rw [if_neg fun z=>absurd z.1 (Nat.not_lt_zero _)]
     rfl
   ·rintro n σ H6 hn ⟨xs,kn,o8,rfl,aQ,ab,ao,aC,ae,aD,aq,aE,aR⟩
    rw [Int.zero_add]
    have aF:=BI (gvs:=gvs) (i:=i) hn
    have bf:ps[n]? =some ps[n]:=List.getElem?_eq_getElem hn
    refine⟨_,rfl,_,rfl,(by show 2<=sizeLine;decide),fun tt b2=>?_⟩
    have J:eZ H6 (upd H6 tt (.tup [.int (i:Int),.int (n:Int)])):=fC b2
    have aW:upd H6 tt (.tup [.int (i:Int),.int (n:Int)]) tt=some (.tup ((ij i n).map kV)):=fv
    generalize upd H6 tt (.tup [.int (i:Int),.int (n:Int)])=H7 at J aW ⊢
    refine⟨_,rfl,wo,_,rfl,iF.t (k:=ij i n) (J _ _ ab) aW,_,rfl,?_⟩
    have bz:=aC.same J
    have aX:=Gn.Paired.len aC
    rw [List.length_map,List.length_append] at aX
    have bA:(gk ((g0 gvs i ps.length).take n) (ps.take n)).length=BK.cnt (g0 gvs i ps.length) n:=Hc (su gvs i ps.length)
    have cB:BK.cnt (g0 gvs i ps.length) n<=300:=by
     rw [<-bA]
     have:=HU ((g0 gvs i ps.length).take n) (ps.take n)
     rw [List.length_take] at this
     omega
    have aG:gk ((g0 gvs i ps.length).take (n + 1)) (ps.take (n + 1))=gk ((g0 gvs i ps.length).take n) (ps.take n)++(if (!decide (some (V.int (i:Int),V.int (n:Int))∈gvs))=true then [ps[n]] else []):=by
     rw [take_snoc aF,take_snoc bf,uG _ _ _ _ (by rw [List.length_take,List.length_take,su])]
    by_cases ar:some (V.int (i:Int),V.int (n:Int))∈gvs
    ·
     rw [(bo i n).mpr ar]
     refine fO ?_
     have e1:(!decide (some (V.int (i:Int),V.int (n:Int))∈gvs))=false:=by rw [decide_eq_true ar];rfl
     rw [e1] at aG aF
     refine⟨xs,kn,_,rfl,aQ.trans J,J _ _ ab,J _ _ ao,?_,fun z U=>ae z (J.free U),aD.same J,J _ _ aq,Nat.le_succ_of_le aE,fun m=>?_⟩
     ·rw [aG]
      show gm H7 xs ((_++(_++[])).map kp)
      rw [List.append_nil]
      exact bz
     ·rw [aR m]
      by_cases hm:m=n
      ·rw [hm,if_neg fun z=>absurd z.1 (Nat.lt_irrefl _),if_neg fun z=>by rw [aF] at z;exact absurd z.2 (by simp)]
      ·by_cases hc:m < n/\(g0 gvs i ps.length)[m]? =some true
       ·rw [if_pos hc,if_pos ⟨by omega,hc.2⟩]
       ·rw [if_neg hc,if_neg fun z=>hc ⟨by omega,z.2⟩]
    ·
     have b3:(gg kvs (ij i n)).isSome=false:=by
      cases q:(gg kvs (ij i n)).isSome with
      | false=>rfl
      | true=>exact absurd ((bo i n).mp q) ar
     rw [b3]
     refine fY ?_
     have e1:(!decide (some (V.int (i:Int),V.int (n:Int))∈gvs))=true:=by rw [decide_eq_false ar];rfl
     rw [e1] at aG aF
     rw [if_pos rfl] at aG
     have au:=J _ _ aq
     have aY:=J _ _ ao
     refine⟨_,rfl,pa,xs,rfl,.inl (fj.of aY),_,rfl,_,rfl,dn,_,rfl,j7.k (k:=Sum.inl (n:Int)) au (by omega),?_⟩
     have aS:SameBut dn H7 (upd H7 dn (.dK (putK kn (Sum.inl (n:Int)) (.int ((xs.length:Nat):Int))))):=fun b u e hb=>by rw [fB hb];exact e
     have aZ:upd H7 dn (.dK (putK kn (Sum.inl (n:Int)) (.int ((xs.length:Nat):Int)))) dn=_:=fv
     have a0:∀ z,upd H7 dn (.dK (putK kn (Sum.inl (n:Int)) (.int ((xs.length:Nat):Int)))) z=none->H3 z=none:=fun z U=>by
      by_cases e:z=dn
      ·rw [e,fv] at U;cases U
      ·rw [fB e] at U
       exact ae z (J.free U)
     generalize upd H7 dn (.dK (putK kn (Sum.inl (n:Int)) (.int ((xs.length:Nat):Int))))=H8 at aS aZ a0 ⊢
     have bg:∀{b:Addr} {u:HO},H7 b=some u->(∀ k,u≠ .dK k)->H8 b=some u:=fun{b u} e n=>aS _ _ e fun z=>by rw [z,au] at e;exact n _ (Option.some.inj e).symm
     have a3:=bg aY (by intro _ z;cases z)
     have bB:∀ b u,H b=some u->H8 b=some u:=fun b u e=>aS _ _ (J _ _ (aQ _ _ e)) fun z=>by
      have h1:=(sm.trans st) _ _ e
      rw [z,aB] at h1
      cases h1
     have bC:iQ H3 H8 d es _:=(aD.same J).but aS (Ne.symm bx) (fun ts z=>by rw [au] at z;cases z) fun e he z=>by
      obtain⟨q,h1,_⟩:=(aD.same J).l.f e he
      rw [z,au] at h1
      cases h1
     have b4:gm H8 xs _:=Gn.Paired.imp2 bz fun _ _ ⟨p,e,q⟩=>⟨p,e,bg q (by intro _ z;cases z)⟩
     have bD:=bg (J _ _ ab) (by intro _ z;cases z)
     have aH:g8 C H8 x ps:=aA.same bB
     obtain⟨dx,bW,bX,sz,dr,ri,bY,bc,bZ,bE,_⟩:=aH.ex
     have bF:jd (.int (n:Int)) 0 (some ((ps.length:Int) - 1))=true:=by
      show(decide ((0:Int)<=n) && decide ((n:Int)<=(ps.length:Int) - 1))=true
      rw [decide_eq_true (by omega),decide_eq_true (by omega)]
      rfl
     refine⟨_,rfl,.inl ⟨rfl,_,fj.of a3⟩,?_⟩
     refine⟨_,rfl,x,dx,_,rfl,bE,kb dk dk dk dk dk,_,rfl,?_⟩
     refine⟨x,ps,_,rfl,aH,⟨_,.int _⟩,fun j p e hp=>?_,fun e=>by rw [bF] at e;cases e⟩
     have ej:n=j:=by have:=V.int.inj e;omega
     subst ej
     have ep:ps[n]=p:=Option.some.inj (bf.symm.trans hp)
     subst ep
     refine⟨_,rfl,x,dx,_,rfl,bE,kb dk dk dk dk dk,_,rfl,?_⟩
     refine⟨x,ps,_,rfl,aH,⟨_,.int _⟩,fun j p e hp=>?_,fun e=>by rw [bF] at e;cases e⟩
     have ej:n=j:=by have:=V.int.inj e;omega
     subst ej
     have ep:ps[n]=p:=Option.some.inj (bf.symm.trans hp)
     subst ep
     refine⟨(by show 2<=sizeLine;decide),fun pp b5=>?_⟩
     have s9:eZ H8 (upd H8 pp (.tup [.str ps[n].1,.str ps[n].2])):=fC b5
     have h9:upd H8 pp (.tup [.str ps[n].1,.str ps[n].2]) pp=some (.tup [.str ps[n].1,.str ps[n].2]):=fv
     generalize upd H8 pp (.tup [.str ps[n].1,.str ps[n].2])=H9 at s9 h9 ⊢
     have af:=s9 _ _ a3
     refine⟨pa,xs,_,rfl,rfl,af,by omega,?_⟩
     have a4:=zq af (b4.same s9) h9
     have av:SameBut pa H9 (upd H9 pa (.lst (xs++[.ref pp]))):=fun b u e hb=>by rw [fB hb];exact e
     have aI:upd H9 pa (.lst (xs++[.ref pp])) pa=_:=fv
     have aJ:∀ z,upd H9 pa (.lst (xs++[.ref pp])) z=none->H3 z=none:=fun z U=>by
      by_cases e:z=pa
      ·rw [e,fv] at U;cases U
      ·rw [fB e] at U
       exact a0 z (s9.free U)
     generalize upd H9 pa (.lst (xs++[.ref pp]))=b6 at a4 av aI aJ ⊢
     have bH:∀{b:Addr} {u:HO},H9 b=some u->(∀ k,u≠ .lst k)->b6 b=some u:=fun{b u} e n=>av _ _ e fun z=>by rw [z,af] at e;exact n _ (Option.some.inj e).symm
     refine⟨_,_,_,rfl,fun b u e=>av _ _ (s9 _ _ (bB b u e)) fun z=>?_,bH (s9 _ _ bD) (by intro _ z;cases z),aI,?_,aJ,?_,bH (s9 _ _ aZ) (by intro _ z;cases z),?_,fun m=>?_⟩
     ·have h1:=bp _ _ e
      rw [z,bq] at h1
      cases h1
     ·rw [aG,<-List.append_assoc]
      exact a4
     ·exact(bC.same s9).but av (fun z=>by have:=(bC.same s9).l.d;rw [z,af] at this;cases this) (fun ts z=>by rw [af] at z;cases z) b1
     ·exact Nat.le_trans (qB _ _ _) (Nat.succ_le_succ aE)
     ·rw [zf,aR m]
      have el:xs.length=(kept gvs 0 (I.take i)).length + BK.cnt (g0 gvs i ps.length) n:=by rw [aX,bA]
      by_cases hm:m=n
      ·rw [hm,if_pos rfl,if_pos ⟨Nat.lt_succ_self _,aF⟩,el]
      ·rw [if_neg fun z=>hm (by have:=Sum.inl.inj z;omega)]
       by_cases hc:m < n/\(g0 gvs i ps.length)[m]? =some true
       ·rw [if_pos hc,if_pos ⟨by omega,hc.2⟩]
       ·rw [if_neg hc,if_neg fun z=>hc ⟨by omega,z.2⟩]
   ·rintro σ H6 ⟨xs,kn,o8,rfl,aQ,ab,ao,aC,ae,aD,aq,aE,aR⟩
    have bJ:=su gvs i ps.length
    have e1:(g0 gvs i ps.length).take ps.length=g0 gvs i ps.length:=List.take_of_length_le (by omega)
    rw [e1,List.take_length] at aC
    have aK:kept gvs 0 (I.take (i + 1))=kept gvs 0 (I.take i)++gk (g0 gvs i ps.length) ps:=by
     rw [take_snoc ag,yZ,ei,Nat.zero_add]
    have aT:∀ z,H3 z=none->H z=none:=fun z U=>aO.free U
    have b7:∀ m:Nat,gg kn (Sum.inl (m:Int))=if (g0 gvs i ps.length)[m]? =some true then some (.int (((fz (kept gvs 0 (I.take i))).length + BK.cnt (g0 gvs i ps.length) m:Nat):Int)) else none:=fun m=>by
     rw [aR m]
     have el:(fz (kept gvs 0 (I.take i))).length=(kept gvs 0 (I.take i)).length:=by unfold fz;rw [List.length_map]
     rw [el]
     by_cases hc:(g0 gvs i ps.length)[m]? =some true
     ·have cC:=(List.getElem?_eq_some_iff.mp hc).1
      rw [if_pos hc,if_pos ⟨by omega,hc⟩]
     ·rw [if_neg hc,if_neg fun z=>hc z.2]
    have b8:iK (fz ps):=aa.sub (j3 (List.mem_of_getElem? ag))
    have cD:=(ay i).t
    refine⟨_,rfl,_,rfl,_,rfl,d,x,dn,H,H3,es,fz (kept gvs 0 (I.take i)),ps,g0 gvs i ps.length,kn,rfl,aQ,aA,bV,b8,aT,ae,br,aD,aq,bx,bJ,b7,by omega,(by unfold fz;rw [List.length_map];omega),fun b9 H7 s7 fr tp cb cu=>?_⟩
    refine⟨b9,xs,_,_,_,_,rfl,s7,fr _ _ _ ab (s3 _ _ hW),fr _ _ _ ao aj,?_,fun z U=>?_,cb.cong fun y=>?_,?_⟩
    ·rw [aK]
     exact Gn.Paired.imp2 aC fun _ _ ⟨p,e,q⟩=>⟨p,e,tp _ _ q⟩
    ·cases q:H3 z with
     | none=>rfl
     | some o=>
      cases q2:H6 z with
      | none=>rw [ae z q2] at q;cases q
      | some u=>rw [fr z u o q2 q] at U;cases U
    ·rw [aK,uW]
     congr 2
     unfold fz
     exact wj _ _ _
    ·rw [qr ag,uW,xA]
     omega
  ·rintro σ H' ⟨es,xs,o5,o6,o7,o8,rfl,sm,az,ak,aP,bt,hR,bu⟩
   rw [bU,List.take_length] at aP hR bu
   have aL:=uK gvs I 0
   have ah:iK (fz (kept gvs 0 I)):=aa.sub aL
   have cE:=aa.t
   have bL:∀ p∈kept gvs 0 I,fZ 12 (.str p.1)=true/\gq (.str p.2)=true:=fun p hp=>by
    obtain⟨ps,h1,h2⟩:=List.mem_flatten.mp (aL.mem hp)
    exact(ax ps h1).g p h2
   have cc:(kept gvs 0 I).length<=300:=by
    have h1:=ah.l
    unfold fz at h1
    rwa [List.length_map] at h1
   refine⟨_,rfl,_,rfl,d,es,fun y=>rowOf y (fz (kept gvs 0 I)) 0,rfl,hR.l.d,hR.l.k,by omega,fun e he=>⟨hR.l.f e he,iK.ok e.1,ah.sz e.1⟩,fun p bc aM sb hp hD hk=>?_⟩
   intro x dx hx cf cF
   have cg:H' d=_:=hR.l.d
   have bh:eZ H aM:=fun b u e=>sb _ _ (sm _ _ e) fun z=>by
    have h1:=aO _ _ e
    rw [z,br] at h1
    cases h1
   have sN:eZ aM (upd (upd aM dx (.own x)) x (.ins C dx [])):=fun b u e=>by
    rw [fB (fW e hx),fB (fW e cf)]
    exact e
   have bN:upd (upd aM dx (.own x)) x (.ins C dx []) x=some (.ins C dx []):=fv
   generalize upd (upd aM dx (.own x)) x (.ins C dx [])=HN at sN bN ⊢
   have bO:∀{b:Addr} {u:HO},H' b=some u->(∀ k,u≠ .dK k)->HN b=some u:=fun{b u} e n=>sN _ _ (sb _ _ e fun z=>by rw [z,cg] at e;exact n _ (Option.some.inj e).symm)
   have aN:eZ H HN:=bh.trans sN
   refine⟨x,pa,dx,.ref p,xs,(kept gvs 0 I).map kp,rfl,bN,bO ak (by intro _ z;cases z),Gn.Paired.imp2 aP fun _ _ ⟨b,e,q⟩=>⟨b,e,bO q (by intro _ z;cases z)⟩,by rw [List.length_map];exact cc,?_,?_,?_,?_⟩
   ·intro kt cj
    obtain⟨q,hq,rfl⟩:=List.mem_map.mp cj
    obtain⟨g1,g2⟩:=bL q hq
    refine⟨⟨_,.str _⟩,fun z e=>?_,⟨_,.str _⟩,fun z e=>?_⟩
    ·injection e with e
     rw [<-e]
     have h1:(decide (1<=q.1.length) && decide (q.1.length<=12) && q.1.cps.toList.all gc)=true:=g1
     rw [Bool.and_eq_true,Bool.and_eq_true] at h1
     have:=of_decide_eq_true h1.1.2
     omega
    ·injection e with e
     rw [<-e]
     have:=(qe g2).1
     omega
   ·intro ck e bQ
    have e':=lZ e
    subst e'
    refine⟨ah,a7.sub aL,.inr ⟨p,bc,rfl,sN _ _ hD.d,hD.k,fun y=>?_,fun e he=>sN _ _ (hD.f e he)⟩⟩
    rw [hk,hR.k y]
    constructor
    ·intro z
     by_cases q:∃ ws∈fz (kept gvs 0 I),y∈ws
     ·exact q
     ·exact absurd ((nX y _ 0).mpr fun ws hw hy=>q ⟨ws,hw,hy⟩) z
    ·rintro⟨ws,hw,hy⟩ z
     exact(nX y _ 0).mp z ws hw hy
   ·intro i hi bj cm
    obtain⟨rfl,hn⟩:=uU bL hi
    exact k3 (fun z=>hn ⟨z,fun _ _ z=>nomatch z⟩) bj (aN.trans cm)
   ·intro ck e bQ bj aA cn fr
    have e':=lZ e
    subst e'
    refine⟨rfl,k2 bQ.n x bj (fun b u e=>fr b u (aN _ _ e) (fun z=>?_) fun z=>?_) (bh.free hx) aA (fun cq hU=>cn cq fun b u e n=>hU b u e fun l0 z=>n l0 (aN _ _ z))⟩
    ·have h1:=bh _ _ e
     rw [z,hx] at h1
     cases h1
    ·injection z with z
     have h1:=sm _ _ e
     rw [<-z,hp] at h1
     cases h1
end
section
variable {α : Type}
def iA(x:List α):List (List α)->List (List α)
 | []=>[x]
 | y::r=>if y.length<=x.length then iA (y++x) r else x::y::r
def jE(rows:List (List α))(x:List α):List (List α):=(iA x rows.reverse).reverse
theorem yz{rows:List (List α)}{b:Nat}{y:List α}(h:rows[b]? =some y):(rows.take (b + 1)).reverse=y::(rows.take b).reverse:=by
 rw [take_snoc h,List.reverse_append]
 rfl
theorem HJ{rows:List (List α)}{b:Nat}{y X:List α}(h:rows[b]? =some y)(hl:y.length<=X.length):iA X (rows.take (b + 1)).reverse=iA (y++X) (rows.take b).reverse:=by
 rw [yz h]
 show(if y.length<=X.length then _ else _)=_
 rw [if_pos hl]
theorem Fv{rows:List (List α)}{b:Nat}{y X:List α}(h:rows[b]? =some y)(hl:¬ y.length<=X.length):(iA X (rows.take (b + 1)).reverse).reverse=rows.take (b + 1)++[X]:=by
 have e:=yz h
 have:iA X (rows.take (b + 1)).reverse=X::(rows.take (b + 1)).reverse:=by
  rw [e]
  show(if y.length<=X.length then _ else _)=_
  rw [if_neg hl]
 rw [this,List.reverse_cons,List.reverse_reverse]
theorem w6:∀(r:List (List α)) (x:List α),(iA x r).reverse.flatten=r.reverse.flatten++x
 | [],x=>by show [x].flatten=_;simp
 | y::r,x=>by
  show(if y.length<=x.length then iA (y++x) r else x::y::r).reverse.flatten=_
  split
  ·rw [w6 r (y++x),List.reverse_cons,List.flatten_append]
   simp
  ·rw [List.reverse_cons,List.flatten_append]
   simp
theorem sZ(rows:List (List α))(x:List α):(jE rows x).flatten=rows.flatten++x:=by
 unfold jE
 rw [w6,List.reverse_reverse]
theorem zI:∀(r:List (List α)) (x:List α),(iA x r).length<=r.length + 1
 | [],x=>Nat.le_refl _
 | y::r,x=>by
  show(if y.length<=x.length then iA (y++x) r else x::y::r).length<=_
  split
  ·have:=zI r (y++x)
   rw [List.length_cons]
   omega
  ·simp
theorem vm(rows:List (List α))(x:List α):(jE rows x).length<=rows.length + 1:=by
 unfold jE
 rw [List.length_reverse]
 have:=zI rows.reverse x
 rwa [List.length_reverse] at this
theorem yV:∀(r:List (List α)) (x:List α),x≠[]->(∀ y∈r,y≠[])->∀ y∈iA x r,y≠[]
 | [],x,I,_=>fun y hy=>by rw [List.mem_singleton.mp hy];exact I
 | y::r,x,I,U=>by
  show ∀ z∈(if y.length<=x.length then iA (y++x) r else x::y::r),z≠[]
  split
  ·exact yV r (y++x) (by simp [I]) fun z J=>U z (List.mem_cons_of_mem _ J)
  ·intro z J
   rcases List.mem_cons.mp J with e | e
   ·rw [e];exact I
   ·exact U z e
theorem Ab{rows:List (List α)}{x:List α}(hx:x≠[])(hr:∀ y∈rows,y≠[]):∀ y∈jE rows x,y≠[]:=fun y I=>by
 unfold jE at I
 exact yV rows.reverse x hx (fun z J=>hr z (List.mem_reverse.mp J)) y (List.mem_reverse.mp I)
theorem xv{β:Type}:∀{ks:List Bool} {xs:List β},(∀ k∈ks,k=true)->ks.length=xs.length->gk ks xs=xs
 | [],[],_,_=>rfl
 | [],_::_,_,h=>by cases h
 | _::_,[],_,h=>by cases h
 | k::ks,x::xs,h,I=>by
  have hk:=h k List.mem_cons_self
  subst hk
  show x::gk ks xs=_
  rw [xv (fun k hk=>h k (List.mem_cons_of_mem _ hk)) (by simpa using I)]
end
theorem qI:∀(gs:List (List (Str×Str))) (s:Nat),kept [] s gs=gs.flatten
 | [],_=>rfl
 | x::a,s=>by
  show gk _ x++kept [] (s + 1) a=x++a.flatten
  rw [qI a (s + 1),xv (fun k hk=>?_) (su [] s x.length)]
  unfold g0 at hk
  obtain⟨j,_,e⟩:=List.mem_map.mp hk
  rw [<-e]
  simp
structure gN (pss : List (List (Str × Str))) : Prop where
 g : ∀ p ∈ pss.flatten, fZ 12 (.str p.1) = true /\ gq (.str p.2) = true
 n : (pss.flatten.map (·.1)).Nodup
 f : iK (fz pss.flatten)
 w : ng (fz pss.flatten)
 l : pss.length <= 90
 p : pss.flatten.length <= 150
theorem gN.good {pss:List (List (Str×Str))}(h:gN pss){ps:List (Str×Str)}(hp:ps∈pss):jy ps:=
 ⟨fun p I=>h.g p (List.mem_flatten.mpr ⟨ps,hp,I⟩),((j3 hp).map _).nodup h.n⟩
theorem gN.sub {pss qss:List (List (Str×Str))}(h:gN pss)(s:qss.flatten.Sublist pss.flatten)(hl:qss.length<=90):gN qss:=
 ⟨fun p I=>h.g p (s.mem I),(s.map _).nodup h.n,h.f.sub s,h.w.sub s,hl,Nat.le_trans s.length_le h.p⟩
theorem tD{α β:Type}{F:α->β->Prop}:∀{l:List α} {m:List β} (n:Nat),Paired F l m->Paired F (l.take n) (m.take n)
 | _,_,0,_=> .nil
 | _,_,n + 1,.nil=> .nil
 | _,_,n + 1,.cons h t=> .cons h (tD n t)
theorem tY{α β:Type}{F:α->β->Prop}:∀{l:List α} {m:List β} (n:Nat),Paired F l m->Paired F (l.drop n) (m.drop n)
 | _,_,0,h=>h
 | _,_,n + 1,.nil=> .nil
 | _,_,n + 1,.cons _ t=>tY n t
def rY:List Str:=["many","key_of","text_of","number_of","need_own","words","row_of"]
theorem GA:∀ m∈rY,m≠"numbers"/\m≠"pairs"/\m≠"sizes"/\m≠"rows"/\m≠"rising":=dk
theorem g8.at {C:Addr}{H:Hp}{x:Addr}{ps:List (Str×Str)}(h:g8 C H x ps):∃ dx fs,H x=some (.ins C dx fs)/\∀ m∈rY,fs.lookup m=none:=by
 obtain⟨dx,dn,pa,sz,dr,ri,xs,es,I,h1,_⟩:=h.ex
 refine⟨dx,_,h1,fun m hm=>?_⟩
 obtain⟨a,b,c,d,e⟩:=GA m hm
 exact kb e d c b a
theorem mn{m:Str}(h:m∈rY:=by decide +kernel):m∈rY:=h
section
variable {P : Program} {w : World} {K : PySem.W.Frag} {mg : Str -> Option Value} {base : Heap} {C CN CNo CW CK CT C2 : Addr}
def NL(L H:Hp):Hp:=fun a=>match L a with | some (.lst _)=>none | _=>H a
theorem kz{L H:Hp}{a:Addr}{o:HO}(h:H a=some o)(n:∀ l,L a≠some (.lst l)):NL L H a=some o:=by
 show(match L a with | some (.lst _)=>none | _=>H a)=some o
 split
 ·rename_i l e
  exact absurd e (n l)
 ·exact h
theorem jG{L H:Hp}:eZ (NL L H) H:=fun a o h=>by
 have h':(match L a with | some (.lst _)=>none | _=>H a)=some o:=h
 split at h'
 ·cases h'
 ·exact h'
theorem lK{L H:Hp}{a:Addr}{o:HO}(h:NL L H a=some o)(l:List V):L a≠some (.lst l):=fun e=>by
 have h':(match L a with | some (.lst _)=>none | _=>H a)=some o:=h
 rw [e] at h'
 cases h'
theorem ub{L H H':Hp}(s:eZ H H'):eZ (NL L H) (NL L H'):=fun a o h=>kz (s _ _ (jG _ _ h)) (lK h)
def zA(C:Addr):Sp:=fun vs H Q _=>∃(U x:Addr) (L:Hp) (bs:List V) (I:List (List (Str×Str))) (ps:List (Str×Str)),vs=[.ref U,.ref x]/\H U=some (.lst bs)/\eZ L H/\iz C (NL L H) bs I/\g8 C (NL L H) x ps/\gN (I++[ps])/\
 ∀ l J H1 H',eZ H H1->iz C (NL L H1) J (jE I ps)->H1 l=none->H'=upd H1 l (.lst J)->Q (.ref l) H'
theorem qu:fU ["volumes","last","many","begin"] ["volumes","last"] (fD qj):=⟨rfl,rfl,rfl,dk,rfl,dk,dk⟩
seal fM PS PE PT PA PG PI fT fS in
theorem BD{f fm fPo:Addr}{fd fdm fdPo:FuncData}(D:Df K mg "poured_behind" qj f fd)(B:iN K mg C)(FM:fV K "many" "Book.many" jT fm fdm)(mM:Meth K C "many" fm)(GM:fx P w K mg base fE 1 fm fdm ["self"] (nu C))
  (DPo:iR K mg "poured" m9 fPo fdPo #[.none])(GPo:fx P w K mg base (fQ P w) 10 fPo fdPo ["books","gone"] (p3 K C CN CW))(T:Txt mg):fx P w K mg base fE 11 f fd ["volumes","last"] (zA C):=by
 have bM:=FM.binds (ps:=["self"]) fun _ _ _ _ _ _ us hl=>jY (fun _=>rfl) us hl
 have ah:=DPo.binds (ps:=["books","gone"]) (ds:=[.none]) fun T kV doc pm an cdv ct us hl=>match us,(show us.length=1 by simpa using hl) with | [_],_=>⟨_,rfl,rfl⟩
 refine D.F.ok qu (fun vs H Q E h=>?_) (fun cdv A outer s H vs Q E hr h=>?_)
 ·obtain⟨vl,x,L,bs,I,ps,rfl,_⟩:=h
  rfl
 ·obtain⟨vl,x,L,bs,I,ps,rfl,hL,av,aa,aw,hok,kk⟩:=h
  have ae:iz C H bs I:=aa.same jG
  have hB:g8 C H x ps:=aw.same jG
  have hz:(sizeLine:Nat)=16777216:=sizeLine_eq
  have ax:=Gn.Paired.len ae
  have ai:=hok.l
  rw [List.length_append] at ai
  obtain⟨dx,fs,hx,ay⟩:=hB.at
  refine⟨_,(fq (fG (i:=2) qu.nd rfl (Or.inl rfl) (ji (pv 1) B.cl mM (GM.mono (by decide)) hr bM .nil fL))
   (fq (fG (i:=3) qu.nd rfl (Or.inl rfl) (gn iE rfl T.len g9 (eY (pv 0) fe)))
   (fq (sh PassesOwn.never (PW.pt (jW (gi ju (pv 3) fy (f9 _)) (kj (gi sS (pv 2) (ji (gA g6 (pv 0) (fF ly (pv 3) fy) (fun _ _=>rfl)) B.cl mM (GM.mono (by decide)) hr bM .nil fL) (f9 _))))) (fq (tP (i:=3) qu.nd rfl (Or.inl rfl) fy C9)
   (fA (tP (i:=2) qu.nd rfl (Or.inl rfl) (ji (gA g6 (pv 0) (pv 3) (fun _ _=>rfl)) B.cl mM (GM.mono (by decide)) hr bM .nil fL) y0))))
   (fA (fP (fF oT (ig jK (pv 0) iD (g5 (pv 3))) (gf (eY (fN GPo hr rfl DPo.m DPo.kp ah (dvs:=[.non]) (.cons rfl .nil) ja (eY (fF oT (ig jK (pv 0) (g5 (pv 3)) iD) (gf (eY (pv 1) fe))) fe)) fe)))))))),?_⟩
  refine⟨_,rfl,x,dx,_,rfl,hx,ay _ mn,x,ps,rfl,hB,_,rfl,vl,_,rfl,.inl (fj.of hL),?_⟩
  refine rH (fun σ H'=>∃ b:Nat,b<=I.length/\σ=[some (.ref vl),some (.ref x),some (.int ((((I.drop b).flatten++ps).length:Nat):Int)),some (.int (b:Int))]/\H'=H/\iA ps I.reverse=iA ((I.drop b).flatten++ps) (I.take b).reverse)
   (fun σ _=>match σ with | [_,_,_,some (.int b)]=>b.toNat | _=>0) ⟨I.length,Nat.le_refl _,?_,rfl,?_⟩ ?_ ?_
  ·rw [List.drop_length]
   show [_,_,some (V.int ((ps.length:Nat):Int)),some (V.int ((bs.length:Nat):Int))]=_
   rw [ax]
   rfl
  ·rw [List.drop_length,List.take_length]
   rfl
  ·rintro σ H' ⟨b,hb,rfl,rfl,hm⟩
   refine⟨_,rfl,_,_,rfl,rfl,_,rfl,?_⟩
   have fin:(iA ps I.reverse).reverse=I.take b++[(I.drop b).flatten++ps]->z6 (oK tO (uu (vG K) (jQ 0) tW (vt (jQ 3))) (rP (mI (xO (p3 K C CN CW) [.non] E0 (mI (oK tO (uu (vG K) (jQ 0) (vt (jQ 3)) tW) (rP (mI (jQ 1) k8))) k8)) k8))) {nx:=fun x H'=>Q V.non H',rt:=Q} [some (.ref vl),some (.ref x),some (.int ((((I.drop b).flatten++ps).length:Nat):Int)),some (.int (b:Int))] H':=fun aj=>by
    refine⟨_,rfl,_,rfl,(b:Int),rfl,vl,_,rfl,fj.of hL,fun c1 az=>?_⟩
    rw [oI]
    have s1:eZ H' (upd H' c1 (.lst (bs.take b))):=fC az
    have e1:upd H' c1 (.lst (bs.take b)) c1=some (.lst (bs.take b)):=fv
    generalize upd H' c1 (.lst (bs.take b))=H1 at s1 e1 ⊢
    refine⟨_,rfl,_,rfl,(b:Int),rfl,vl,_,rfl,fj.of (s1 _ _ hL),fun c2 aA=>?_⟩
    rw [rj]
    have s2:eZ H1 (upd H1 c2 (.lst (bs.drop b))):=fC aA
    have e2:upd H1 c2 (.lst (bs.drop b)) c2=some (.lst (bs.drop b)):=fv
    generalize upd H1 c2 (.lst (bs.drop b))=H2 at s2 e2 ⊢
    refine⟨_,rfl,(by show 1<=sizeLine;omega),fun c3 aB=>?_⟩
    have s3:eZ H2 (upd H2 c3 (.lst [.ref x])):=fC aB
    have e3:upd H2 c3 (.lst [.ref x]) c3=some (.lst [.ref x]):=fv
    generalize upd H2 c3 (.lst [.ref x])=H3 at s3 e3 ⊢
    refine⟨c2,c3,_,_,rfl,rfl,s3 _ _ e2,e3,(by rw [List.length_drop];show _ + 1<=sizeLine;omega),fun c4 aC=>?_⟩
    have s4:eZ H3 (upd H3 c4 (.lst (bs.drop b++[.ref x]))):=fC aC
    have e4:upd H3 c4 (.lst (bs.drop b++[.ref x])) c4=some (.lst (bs.drop b++[.ref x])):=fv
    generalize upd H3 c4 (.lst (bs.drop b++[.ref x]))=H4 at s4 e4 ⊢
    have af:=((s1.trans s2).trans s3).trans s4
    have fl:(I.drop b++[ps]).flatten=(I.drop b).flatten++ps:=by rw [List.flatten_append];simp
    have sub:(I.drop b++[ps]).flatten.Sublist (I++[ps]).flatten:=by
     rw [List.flatten_append,List.flatten_append]
     refine List.Sublist.append ?_ (List.Sublist.refl _)
     have:I.flatten=(I.take b).flatten++(I.drop b).flatten:=by rw [<-List.flatten_append,List.take_append_drop]
     rw [this]
     exact List.sublist_append_right _ _
    have U:gN (I.drop b++[ps]):=hok.sub sub (by rw [List.length_append,List.length_drop];show _ + 1<=90;have:[ps].length=1:=rfl;omega)
    refine⟨c4,.non,_,I.drop b++[ps],[],rfl,e4,Gn.Paired.app (tY b (ae.same af)) ⟨x,rfl,hB.same af⟩,fun q hq=>U.good hq,U.f,U.w,Nat.le_trans U.l (by decide),.inl ⟨rfl,rfl⟩,fun c=>(by cases c),fun _ _ y H5 s5 hy aD ak=>?_,fun _ c=>absurd (by rw [qI];exact U.n) c⟩
    rw [qI,fl] at aD ak
    refine⟨(by show 1<=sizeLine;omega),fun c5 aE=>?_⟩
    have s6:eZ H5 (upd H5 c5 (.lst [.ref y])):=fC aE
    have e6:upd H5 c5 (.lst [.ref y]) c5=some (.lst [.ref y]):=fv
    generalize upd H5 c5 (.lst [.ref y])=H6 at s6 e6 ⊢
    have ao:=(((s2.trans s3).trans s4).trans s5).trans s6
    have aq:=s1.trans ao
    refine⟨c1,c5,_,_,rfl,rfl,ao _ _ e1,e6,(by rw [List.length_take];show _ + 1<=sizeLine;omega),fun l hl=>?_⟩
    refine kk l (bs.take b++[.ref y]) H6 _ aq ?_ hl rfl
    unfold jE
    rw [aj]
    exact Gn.Paired.app (tD b (aa.same (ub aq))) ⟨y,rfl,ak _ fun b u e n=>kz (s6 _ _ e) fun l0 z=>n l0 (af _ _ (av _ _ z))⟩
   by_cases aF:b=0
   ·subst aF
    rw [decide_eq_false (show ¬ ((0:Nat):Int) > 0 by decide)]
    refine fO (fO (fin ?_))
    rw [hm]
    show(iA _ []).reverse=_
    rfl
   ·rw [decide_eq_true (show(b:Int) > 0 by omega)]
    obtain⟨J,rfl⟩:∃ J,b=J + 1:=⟨b - 1,by omega⟩
    obtain⟨y,hy⟩:∃ y,I[J]? =some y:=⟨I[J]'(by omega),List.getElem?_eq_getElem (by omega)⟩
    obtain⟨v,hv,xb,rfl,ag⟩:=Gn.Paired.at ae hy
    obtain⟨ar,aS,au,ab⟩:=ag.at
    refine fY ⟨_,rfl,_,rfl,_,rfl,_,_,rfl,rfl,vl,_,_,_,rfl,rfl,fj.of hL,(by rw [show((J + 1:Nat):Int) - 1=(J:Int) by omega];exact gR hv),xb,ar,_,rfl,au,ab _ mn,xb,y,rfl,ag,_,_,rfl,rfl,_,rfl,?_⟩
    have hd:I.drop J=y::I.drop (J + 1):=by
     obtain⟨hi,e⟩:=List.getElem?_eq_some_iff.mp hy
     rw [List.drop_eq_getElem_cons hi,e]
    by_cases hle:y.length<=((I.drop (J + 1)).flatten++ps).length
    ·rw [decide_eq_true (show((((I.drop (J + 1)).flatten++ps).length:Nat):Int) ≥ ((y.length:Nat):Int) by omega)]
     refine fY ⟨_,rfl,_,_,rfl,rfl,?_⟩
     have eb:((J + 1:Nat):Int) - 1=(J:Int):=by omega
     refine⟨_,rfl,_,rfl,_,rfl,vl,_,_,_,rfl,rfl,fj.of hL,(by show jv bs (((J + 1:Nat):Int) - 1)=_;rw [eb];exact gR hv),xb,ar,_,rfl,au,ab _ mn,xb,y,rfl,ag,_,_,rfl,rfl,?_⟩
     have em:(((I.drop (J + 1)).flatten++ps).length:Int) + (y.length:Int)=((((I.drop J).flatten++ps).length:Nat):Int):=by
      rw [hd,List.flatten_cons,List.append_assoc,List.length_append (as:=y)]
      omega
     refine⟨⟨J,by omega,?_,rfl,?_⟩,?_⟩
     ·show [some (V.ref vl),some (V.ref x),some (V.int ((((I.drop (J + 1)).flatten++ps).length:Int) + (y.length:Int))),some (V.int (((J + 1:Nat):Int) - 1))]=_
      rw [em,eb]
     ·rw [hm,HJ hy hle,hd,List.flatten_cons,List.append_assoc]
     ·show(((J + 1:Nat):Int) - 1).toNat < ((J + 1:Nat):Int).toNat
      omega
    ·rw [decide_eq_false (show ¬ ((((I.drop (J + 1)).flatten++ps).length:Nat):Int) ≥ ((y.length:Nat):Int) by omega)]
     refine fO (fin ?_)
     rw [hm]
     exact Fv hy hle
  ·intro σ H' Q1 Q2 hq h
   obtain⟨v3,e3,i,j,ei,ej,k,ek,h⟩:=h
   refine⟨v3,e3,i,j,ei,ej,k,ek,?_⟩
   by_cases hk:k=true
   ·rw [if_pos hk] at h ⊢
    obtain⟨v2,e2,v0,e0,aG,aH,i2,j2,aI,aJ,p,xs,c,y,ep,ec,hs,ha,x',aK,fs',ex',aL,aM,x2,aN,ev,aO,i4,j4,aP,aQ,k2,aR,h⟩:=h
    exact⟨v2,e2,v0,e0,aG,aH,i2,j2,aI,aJ,p,xs,c,y,ep,ec,hs,ha,x',aK,fs',ex',aL,aM,x2,aN,ev,aO,i4,j4,aP,aQ,k2,aR,hq _ _ h⟩
   ·rw [if_neg hk] at h ⊢
    exact hq _ _ h
end
def iw(vl:Addr):List (Str×V):=fX "volumes" (.ref vl) []
theorem kO{vl:Addr}:(iw vl).lookup ("volumes":Str)=some (.ref vl):=by unfold iw;rw [iu,if_pos rfl]
theorem jB{vl:Addr}{m:Str}(h:¬ m="volumes":=by decide +kernel):(iw vl).lookup m=none:=by unfold iw;rw [iu,if_neg h];rfl
theorem Cm{vl l:Addr}:fX "volumes" (.ref l) (iw vl)=iw l:=by
 show(if ("volumes":Str)="volumes" then [(("volumes":Str),V.ref l)] else _)=_
 rw [if_pos rfl]
 rfl
theorem rC{vl:Addr}:(iw vl).length < 1000:=by show 1 < 1000;decide
theorem g8.ch {C CH:Addr}{H H':Hp}{b:Addr}{ps:List (Str×Str)}(h:g8 C H b ps)(n:CH≠C)(k:∀ a o,H a=some o->(∀ dx fs,o≠ .ins CH dx fs)->H' a=some o):g8 C H' b ps:=by
 obtain⟨dx,dn,pa,sz,dr,ri,xs,es,J,h1,h2,U,h4,h5,I,h7,h8,h9⟩:=h.ex
 exact⟨dx,dn,pa,sz,dr,ri,xs,es,J,k _ _ h1 (fun _ _ z=>n (HO.ins.inj z).1.symm),k _ _ h2 (fun _ _ z=>by cases z),k _ _ U (fun _ _ z=>by cases z),Gn.Paired.imp2 h4 fun _ _ ⟨p,e,q⟩=>⟨p,e,k _ _ q (fun _ _ z=>by cases z)⟩,
  k _ _ h5 (fun _ _ z=>by cases z),⟨k _ _ I.d (fun _ _ z=>by cases z),I.k,I.w,fun e he=>k _ _ (I.f e he) (fun _ _ z=>by cases z)⟩,k _ _ h7 (fun _ _ z=>by cases z),h8,h9⟩
structure jV (C CH : Addr) (H : Hp) (x : Addr) (pss : List (List (Str × Str))) : Prop where
 ex : ∃ (vl dx : Addr) (bs : List V), H x = some (.ins CH dx (iw vl)) /\ H vl = some (.lst bs) /\ iz C H bs pss
theorem jV.same {C CH:Addr}{H H':Hp}{x:Addr}{pss:List (List (Str×Str))}(h:jV C CH H x pss)(s:eZ H H'):jV C CH H' x pss:=by
 obtain⟨I,dx,bs,h1,h2,J⟩:=h.ex
 exact⟨I,dx,bs,s _ _ h1,s _ _ h2,J.same s⟩
structure Hs (C CH : Addr) (L H : Hp) (x : Addr) (pss : List (List (Str × Str))) : Prop where
 ex : ∃ (vl dx : Addr) (bs : List V), H x = some (.ins CH dx (iw vl)) /\ H vl = some (.lst bs) /\ L vl = none /\ iz C (NL (upd L vl (.lst bs)) H) bs pss
 lx : L x = none
 s : eZ L H
theorem Hs.r {C CH:Addr}{L H:Hp}{x:Addr}{pss:List (List (Str×Str))}(h:Hs C CH L H x pss):jV C CH H x pss:=by
 obtain⟨I,dx,bs,h1,h2,_,J⟩:=h.ex
 exact⟨I,dx,bs,h1,h2,J.same jG⟩
def md(L H H':Hp):Hp:=fun a=>match H a with | none=>H' a | some (.tup I)=>some (.tup I) | some _=>L a
theorem pd{L H H':Hp}{a:Addr}{o:HO}(h:H a=some o)(n:∀ ts,o≠ .tup ts):md L H H' a=L a:=by
 unfold md
 rw [h]
 cases o<;>first | rfl | exact absurd rfl (n _)
theorem uI{L H H':Hp}{a:Addr}(h:H a=none):md L H H' a=H' a:=by unfold md;rw [h]
theorem sJ{L H H':Hp}{a:Addr}{ts:List V}(h:H a=some (.tup ts)):md L H H' a=some (.tup ts):=by unfold md;rw [h]
theorem A1{L H H':Hp}{a:Addr}{o:HO}{l:List V}(h:H a=some o)(z:md L H H' a=some (.lst l)):L a=some (.lst l):=by
 by_cases n:∀ I,o≠ .tup I
 ·rw [pd h n] at z
  exact z
 ·exfalso
  refine n fun I e=>?_
  subst e
  rw [sJ h] at z
  cases z
theorem xp{L:Hp}{vl a:Addr}{bs:List V}(h:∀ l0,upd L vl (.lst bs) a≠some (.lst l0))(l0:List V):L a≠some (.lst l0):=fun z=>by
 by_cases e:a=vl
 ·subst e
  exact h bs fv
 ·exact h l0 ((fB e).trans z)
theorem Hs.ext {C CH:Addr}{L H H':Hp}{x:Addr}{pss:List (List (Str×Str))}(h:Hs C CH L H x pss)(s:eZ H H'):∃ L',eZ L L'/\Hs C CH L' H' x pss/\(∀ a o,H a=none->H' a=some o->L' a=some o)/\∀ a ts,H' a=some (.tup ts)->L' a=some (.tup ts):=by
 obtain⟨J,dx,bs,h1,h2,U,h4⟩:=h.ex
 refine⟨md L H H',fun a o e=>?_,⟨⟨J,dx,bs,s _ _ h1,s _ _ h2,by rw [pd h2 (by intro _ z;cases z)];exact U,Gn.Paired.imp2 h4 fun _ _ ⟨b,e,q⟩=>⟨b,e,q.same fun a o ha=>?_⟩⟩,by rw [pd h1 (by intro _ z;cases z)];exact h.lx,fun a o ha=>?_⟩,fun a o e1 e2=>by rw [uI e1];exact e2,fun a ts e=>?_⟩
 ·have I:=h.s _ _ e
  by_cases n:∀ ts,o≠ .tup ts
  ·rw [pd I n]
   exact e
  ·have:∃ ts,o= .tup ts:=Classical.byContradiction fun c=>n fun ts z=>c ⟨ts,z⟩
   obtain⟨ts,rfl⟩:=this
   exact sJ I
 ·have e:=jG _ _ ha
  refine kz (s _ _ e) fun l z=>?_
  by_cases ev:a=J
  ·subst ev
   exact lK ha bs fv
  ·rw [fB ev] at z
   exact lK ha l ((fB ev).trans (A1 e z))
 ·cases e:H a with
  | none=>rw [uI e] at ha;exact ha
  | some u=>
   by_cases n:∀ ts,u≠ .tup ts
   ·rw [pd e n] at ha
    exact s _ _ (h.s _ _ ha)
   ·have:∃ ts,u= .tup ts:=Classical.byContradiction fun c=>n fun ts z=>c ⟨ts,z⟩
    obtain⟨ts,rfl⟩:=this
    rw [sJ e] at ha
    rw [<-ha]
    exact s _ _ e
 ·cases I:H a with
  | none=>rw [uI I];exact e
  | some u=>
   have:=s _ _ I
   rw [e] at this
   cases this
   exact sJ I
theorem Hs.lset {C CH:Addr}{L H:Hp}{x p:Addr}{pss:List (List (Str×Str))}{l0 l:List V}(h:Hs C CH L H x pss)(hp:L p=some (.lst l0)):Hs C CH (upd L p (.lst l)) (upd H p (.lst l)) x pss:=by
 obtain⟨I,dx,bs,h1,h2,J,h4⟩:=h.ex
 have nx:x≠p:=fun z=>by have:=h.lx;rw [z,hp] at this;cases this
 have U:I≠p:=fun z=>by rw [z,hp] at J;cases J
 refine⟨⟨I,dx,bs,(fB nx).trans h1,(fB U).trans h2,(fB U).trans J,Gn.Paired.imp2 h4 fun _ _ ⟨b,e,q⟩=>⟨b,e,q.same fun a o ha=>?_⟩⟩,(fB nx).trans h.lx,fun a o ha=>?_⟩
 ·have e:=jG _ _ ha
  have np:a≠p:=fun z=>by
   subst z
   exact lK ha l0 ((fB (Ne.symm U)).trans hp)
  refine kz ((fB np).trans e) fun l z=>lK ha l ?_
  by_cases ev:a=I
  ·subst ev
   rw [fv] at z ⊢
   exact z
  ·rw [fB ev,fB np] at z
   exact(fB ev).trans z
 ·by_cases e:a=p
  ·subst e
   rw [fv] at ha ⊢
   exact ha
  ·rw [fB e] at ha ⊢
   exact h.s _ _ ha
theorem Hs.new {C CH:Addr}{L' L H1:Hp}{x dx v0 l:Addr}{bs':List V}{rows:List (List (Str×Str))}(n:CH≠C)(sL:eZ L H1)(lx:L x=none)(hx:H1 x=some (.ins CH dx (iw v0)))(hl:H1 l=none)
  (hL:∀ a,(∀ l0,L' a≠some (.lst l0))->∀ l0,L a≠some (.lst l0))(hB:iz C (NL L' H1) bs' rows):Hs C CH L (upd (upd H1 l (.lst bs')) x (.ins CH dx (fX "volumes" (.ref l) (iw v0)))) x rows:=by
 have I:l≠x:=fun z=>by rw [z,hx] at hl;cases hl
 refine⟨⟨l,dx,bs',by rw [fv,Cm],(fB I).trans fv,sL.free hl,Gn.Paired.imp2 hB fun _ _ ⟨b,e,q⟩=>⟨b,e,q.ch n fun a o J U=>?_⟩⟩,lx,fun a o ha=>?_⟩
 ·have e:=jG _ _ J
  have nx:a≠x:=fun z=>by
   subst z
   rw [hx] at e
   exact U _ _ (Option.some.inj e).symm
  have na:a≠l:=fW e hl
  refine kz ((fB nx).trans ((fB na).trans e)) fun l0 z=>?_
  rw [fB na] at z
  exact hL a (lK J) l0 z
 ·have nx:a≠x:=fun z=>by rw [z,lx] at ha;cases ha
  have e:=sL _ _ ha
  exact(fB nx).trans ((fB (fW e hl)).trans e)
structure jH (K : W.Frag) (mg : Str -> Option Value) (C CH : Addr) : Prop where
 cl : jL K CH
 nV : jP K CH "volumes"
 mgC : mg "House" = some (.ref CH)
 ne : CH ≠ C
theorem lN{k:Str}{m:Nat}(h:fZ m (.str k)=true)(hm:m<=5000):jq (.str k):=fun z e=>by
 injection e with e
 subst e
 have h':(decide (1<=k.length) && decide (k.length<=m) && k.cps.toList.all gc)=true:=h
 rw [Bool.and_eq_true,Bool.and_eq_true] at h'
 have:=of_decide_eq_true h'.1.2
 omega
theorem p7{k:Str}(h:gq (.str k)=true):jq (.str k):=fun z e=>by
 injection e with e
 subst e
 have:=(qe h).1
 omega
section
variable {P : Program} {w : World} {K : PySem.W.Frag} {mg : Str -> Option Value} {base : Heap} {C CH CN CNo CW CK CT C2 : Addr}
def va(CH:Addr):Sp:=fun vs H Q _=>∃(x dx:Addr),vs=[.ref x]/\H x=some (.ins CH dx [])/\∀ I,H I=none->Q .non (upd (upd H I (.lst [])) x (.ins CH dx (iw I)))
theorem Dr:fU ["self"] ["self"] (fD lY):=⟨rfl,rfl,rfl,dk,rfl,dk,dk⟩
seal fM PS PE PT PA PG PI fT fS in
theorem Fg{f:Addr}{fd:FuncData}(F:fV K "__init__" "House.__init__" lY f fd)(HC:jH K mg C CH):fx P w K mg base fE 1 f fd ["self"] (va CH):=by
 refine F.ok Dr (fun vs H Q E h=>?_) (fun cdv A outer s H vs Q E hr h=>?_)
 ·obtain⟨x,dx,rfl,_⟩:=h
  rfl
 ·obtain⟨x,dx,rfl,J,k⟩:=h
  refine⟨_,fA (kr (pv 0) (gf fe) rfl),?_⟩
  exact⟨(by show 0<=sizeLine;decide),fun U I=>⟨_,rfl,x,CH,dx,[],rfl,fC I _ _ J,HC.cl,HC.nV,(by show 0 < 1000;decide),k U I⟩⟩
def keysOf(pss:List (List (Str×Str))):List Str:=pss.flatten.map (·.1)
theorem qM{pss:List (List (Str×Str))}{k:Str}:k∈keysOf pss↔∃(i:Nat) (ps:List (Str×Str)),pss[i]? =some ps/\k∈ps.map (·.1):=by
 unfold keysOf
 constructor
 ·intro h
  obtain⟨p,I,e⟩:=List.mem_map.mp h
  obtain⟨ps,h1,h2⟩:=List.mem_flatten.mp I
  obtain⟨i,hi⟩:=List.getElem?_of_mem h1
  exact⟨i,ps,hi,List.mem_map.mpr ⟨p,h2,e⟩⟩
 ·rintro⟨i,ps,hi,h⟩
  obtain⟨p,I,e⟩:=List.mem_map.mp h
  exact List.mem_map.mpr ⟨p,List.mem_flatten.mpr ⟨ps,List.mem_of_getElem? hi,I⟩,e⟩
def uJ(C CH CNo:Addr):Sp:=fun vs H Q E=>∃(x:Addr) (k:Str) (I:List (List (Str×Str))),vs=[.ref x,.str k]/\jV C CH H x I/\fZ 12 (.str k)=true/\
 (∀(i:Nat) ps H',I[i]? =some ps->k∈ps.map (·.1)->eZ H H'->Q (.int (i:Int)) H')/\(k∉keysOf I->∀ H',eZ H H'->E (.ref CNo) none H')
theorem uy:fU ["self","key","place","book"] ["self","key"] (fD mq):=⟨rfl,rfl,rfl,dk,rfl,dk,dk⟩
seal fM PS PE PT PA PG PI fT fS in
theorem BE{f fk:Addr}{fd fdk:FuncData}(F:fV K "place_of" "House.place_of" mq f fd)(HC:jH K mg C CH)(B:iN K mg C)(DK:Df K mg "is_key" mX fk fdk)(GK:fx P w K mg base fE 2 fk fdk ["thing"] (oW K 12))(X:Ex K mg "NoText" CNo)(T:Txt mg):
  fx P w K mg base (fQ P w) 3 f fd ["self","key"] (uJ C CH CNo):=by
 have bK:=gu (p:="thing") DK.F fun _ _ _ _ _ _ _=>rfl
 refine F.ok1 uy (fun vs H Q E h=>?_) (fun cdv A outer s H vs Q E hr h=>?_)
 ·obtain⟨x,k,aa,rfl,_⟩:=h
  rfl
 ·obtain⟨x,k,aa,rfl,hH,I,k1,k2⟩:=h
  have hu:=kq hr
  refine⟨_,fq (gj (gT (fN GK hr rfl DK.m DK.F.kp bK .nil fL (eY (pv 1) fe)))
    (fA (gO PassesOwn.leaving rfl (oq rfl T.enum (eY (iP (pv 0) rfl) fe)) (jj (n:=2) rfl (gJ (fR (i:=2) uy.nd rfl (Or.inl rfl)) (gJ (fR (i:=3) uy.nd rfl (Or.inl rfl)) jh)))
     (fA (gj (kI (vd hu (pv 1) (iP (pv 3) rfl))) (fA (fP (pv 2))) gh)))) gh)
   (fA (ki rfl X.q PySem.F.excBase_ValueError dk PySem.F.excBase_ValueError rfl X.m (eY gd fe) kg)),?_⟩
  refine⟨_,rfl,.str k,rfl,⟨_,.str _⟩,lN I (by decide),fun H1 s1=>?_⟩
  obtain⟨vl,dx,bs,hx,ab,ae⟩:=(hH.same s1).ex
  refine⟨_,rfl,?_⟩
  rw [I]
  refine fY ⟨_,rfl,x,CH,dx,_,_,rfl,hx,HC.cl,HC.nV,kO,vl,bs,rfl,ab,?_⟩
  refine oA (xs:=bs) (fun i σ H'=>∃ o2 o3:Option V,σ=[some (.ref x),some (.str k),o2,o3]/\eZ H1 H'/\∀ j < i,∀ ps,aa[j]? =some ps->k∉ps.map (·.1)) ⟨none,none,rfl,eZ.refl _,fun j hj=>absurd hj (Nat.not_lt_zero _)⟩ ?_ ?_ ?_
  ·rintro i σ H' _ ⟨_,_,_,sm,_⟩
   exact sm _ _ ab
  ·rintro i v σ H' t hv ⟨o2,o3,rfl,sm,J⟩ ht
   obtain⟨ps,af,b,rfl,hB⟩:=gW ae hv
   have st:eZ H' (upd H' t (.tup [.int i,.ref b])):=fC ht
   refine⟨t,_,rfl,gb.of fv,rfl,_,_,rfl,_,_,rfl,rfl,?_⟩
   generalize upd H' t (.tup [.int i,.ref b])=H2 at st ⊢
   have U:=sm.trans st
   obtain⟨ag,dn,pa,sz,dr,ri,xs,es,ts,b1,b2,_⟩:=(hB.same U).ex
   refine⟨_,rfl,_,rfl,b,C,ag,_,_,rfl,b1,B.cl,B.nN,vU,dn,_,rfl,iF.k (k:=Sum.inr k) b2,_,rfl,?_⟩
   by_cases hz:k∈ps.map (·.1)
   ·obtain⟨v,hv⟩:=xD hz
    rw [hv]
    exact fY ⟨_,rfl,k1 i ps H2 af hz (s1.trans U)⟩
   ·rw [qS hz]
    refine fO ⟨_,_,rfl,U,fun j hj qs hq=>?_⟩
    by_cases e:j=i
    ·subst e
     rw [af] at hq
     cases hq
     exact hz
    ·exact J j (by omega) qs hq
  ·rintro σ H' ⟨o2,o3,rfl,sm,J⟩
   refine⟨by show 1<=sizeLine;decide,k2 (fun hk=>?_) H' (s1.trans sm)⟩
   obtain⟨i,ps,hi,hm⟩:=qM.mp hk
   have:=Gn.Paired.len ae
   have:=(List.getElem?_eq_some_iff.mp hi).1
   exact J i (by omega) ps hi hm
def zU(C CH:Addr):Sp:=fun vs H Q _=>∃(x:Addr) (k:Str) (I:List (List (Str×Str))),vs=[.ref x,.str k]/\jV C CH H x I/\fZ 12 (.str k)=true/\∀ H',eZ H H'->Q (.bl (decide (k∈keysOf I))) H'
theorem BA:fU ["self","key"] ["self","key"] (fD nc):=⟨rfl,rfl,rfl,dk,rfl,dk,dk⟩
seal fM PS PE PT PA PG PI fT fS in
theorem Iq{f fp:Addr}{fd fdp:FuncData}(F:fV K "has" "House.has" nc f fd)(HC:jH K mg C CH)(FP:fV K "place_of" "House.place_of" mq fp fdp)(mP:Meth K CH "place_of" fp)(GP:fx P w K mg base (fQ P w) 3 fp fdp ["self","key"] (uJ C CH CNo))(X:Ex K mg "NoText" CNo)
  (hex:W.exmOne K (.ref CNo) (.ref CNo)=some true):fx P w K mg base fE 4 f fd ["self","key"] (zU C CH):=by
 have bP:=FP.binds (ps:=["self","key"]) fun _ _ _ _ _ _ us hl=>ix (fun _ _=>rfl) us hl
 refine F.ok BA (fun vs H Q E h=>?_) (fun cdv A outer s H vs Q E hr h=>?_)
 ·obtain⟨x,k,I,rfl,_⟩:=h
  rfl
 ·obtain⟨x,k,I,rfl,hH,U,kk⟩:=h
  refine⟨_,fq (EO (CH:=CNo) (fun σ cls _ H'=>σ=[some (.ref x),some (.str k)]/\eZ H H'/\cls= .ref CNo/\k∉keysOf I) rfl rfl rfl X.m
    (fun p xe hx=>fA (gB (Fy (pv 0) HC.cl mP GP hr bP .nil hx (eY (pv 1) fe)))) (fun ea p=>fA (fP iG))) (fA (fP iG)),?_⟩
  obtain⟨vl,dx,bs,hx,_⟩:=hH.ex
  refine⟨⟨_,rfl,x,dx,_,rfl,hx,jB,_,rfl,x,k,I,rfl,hH,U,fun i ps H1 hi hm s1=>?_,fun J H1 s1=>⟨rfl,s1,rfl,J⟩⟩,?_⟩
  ·have:=kk H1 s1
   rw [decide_eq_true (qM.mpr ⟨i,ps,hi,hm⟩)] at this
   exact this
  ·rintro aa cls H' ⟨rfl,sm,rfl,J⟩
   refine⟨_,rfl,hex,?_⟩
   have:=kk H' sm
   rw [decide_eq_false J] at this
   exact this
end
theorem rO{ps:List (Str×Str)}(h:jy ps):ik [] (ps.map kp)=none:=by
 cases e:ik [] (ps.map kp) with
 | none=>rfl
 | some i=>exact absurd ⟨h.n,fun _ _ z=>nomatch z⟩ (uU h.g e).2
theorem gN.last {pss:List (List (Str×Str))}{p:Str×Str}(h:gN (pss++[[p]])):fZ 12 (.str p.1)=true/\gq (.str p.2)=true:=h.g p (by rw [List.flatten_append];simp)
theorem gN.lastS {pss:List (List (Str×Str))}{ps:List (Str×Str)}:ps.Sublist (pss++[ps]).flatten:=j3 (by simp)
theorem gN.notin {pss:List (List (Str×Str))}{p:Str×Str}(h:gN (pss++[[p]])):p.1∉keysOf pss:=fun hm=>by
 have e:(pss++[[p]]).flatten.map (·.1)=keysOf pss++[p.1]:=by unfold keysOf;rw [List.flatten_append,List.map_append];simp
 have:=h.n
 rw [e] at this
 exact(List.nodup_append.mp this).2.2 _ hm _ (List.mem_singleton.mpr rfl) rfl
theorem AZ{n i:Nat}(h:i < n):jI n (i:Int)=some i:=by
 unfold jI
 rw [if_pos (by omega),if_pos (by omega),Int.toNat_natCast]
def wo(k:Str)(ps:List (Str×Str)):List (Str×Str):=ps.filter fun p=> !decide (p.1=k)
def iB(pss:List (List (Str×Str))):List (List (Str×Str)):=pss.filter fun ps=> !ps.isEmpty
def kU(k:Str)(pss:List (List (Str×Str))):List (List (Str×Str)):=iB (pss.map (wo k))
theorem wc{k:Str}:∀{ps:List (Str×Str)},k∉ps.map (·.1)->wo k ps=ps
 | [],_=>rfl
 | p::ps,h=>by
  have h1:¬ p.1=k:=fun e=>h (by rw [<-e];exact List.mem_cons_self)
  have h2:k∉ps.map (·.1):=fun z=>h (List.mem_cons_of_mem _ z)
  unfold wo
  rw [List.filter_cons,if_pos (by rw [decide_eq_false h1];rfl)]
  exact congrArg _ (wc h2)
theorem xh{k:Str}:∀{pss:List (List (Str×Str))},k∉keysOf pss->pss.map (wo k)=pss
 | [],_=>rfl
 | ps::r,h=>by
  have e:keysOf (ps::r)=ps.map (·.1)++keysOf r:=by unfold keysOf;rw [List.flatten_cons,List.map_append]
  rw [e] at h
  rw [List.map_cons,wc (fun z=>h (List.mem_append_left _ z)),xh (fun z=>h (List.mem_append_right _ z))]
theorem zp{k:Str}:∀{pss:List (List (Str×Str))} {i:Nat} {ps:List (Str×Str)},(keysOf pss).Nodup->pss[i]? =some ps->k∈ps.map (·.1)->pss.map (wo k)=pss.set i (wo k ps)
 | [],i,_,_,h,_=>by cases i<;>cases h
 | qs::r,i,ps,hn,h,hk=>by
  have e:keysOf (qs::r)=qs.map (·.1)++keysOf r:=by unfold keysOf;rw [List.flatten_cons,List.map_append]
  rw [e] at hn
  obtain⟨n1,U,J⟩:=List.nodup_append.mp hn
  cases i with
  | zero=>
   have e:qs=ps:=Option.some.inj h
   subst e
   rw [List.map_cons,xh (fun z=>J _ hk _ z rfl)]
   rfl
  | succ i=>
   have h':r[i]? =some ps:=h
   have I:k∈keysOf r:=qM.mpr ⟨i,ps,h',hk⟩
   rw [List.map_cons,wc (fun z=>J _ z _ I rfl),zp U h' hk]
   rfl
theorem zJ(k:Str):∀ pss:List (List (Str×Str)),(kU k pss).flatten=wo k pss.flatten
 | []=>rfl
 | ps::r=>by
  have J:=zJ k r
  have e:wo k (ps::r).flatten=wo k ps++wo k r.flatten:=by unfold wo;rw [List.flatten_cons,List.filter_append]
  rw [e,<-J]
  unfold kU iB
  rw [List.map_cons,List.filter_cons]
  split
  ·rw [List.flatten_cons]
  ·rename_i I
   have:wo k ps=[]:=by
    cases q:wo k ps with
    | nil=>rfl
    | cons a b=>rw [q] at I;exact absurd rfl I
   rw [this,List.nil_append]
theorem vS(k:Str)(pss:List (List (Str×Str))):(kU k pss).flatten.Sublist pss.flatten:=by rw [zJ];exact List.filter_sublist
theorem uL(k:Str)(pss:List (List (Str×Str))):(kU k pss).length<=pss.length:=by
 unfold kU iB
 have:=List.length_filter_le (fun ps:List (Str×Str)=> !ps.isEmpty) (pss.map (wo k))
 rwa [List.length_map] at this
theorem uc{k:Str}{j:Nat}:∀(ps:List (Str×Str)) (s:Nat),(ps.map (·.1)).Nodup->(s<=j->(ps.map (·.1))[j - s]? =some k)->(j < s->k∉ps.map (·.1))->gk ((List.range' s ps.length).map fun i=> !decide (i=j)) ps=wo k ps
 | [],s,_,_,_=>rfl
 | p::ps,s,hn,h1,h2=>by
  obtain⟨J,U⟩:=List.nodup_cons.mp (show(p.1::ps.map (·.1)).Nodup from hn)
  show gk ((!decide (s=j))::(List.range' (s + 1) ps.length).map fun i=> !decide (i=j)) (p::ps)=_
  have ew:wo k (p::ps)=if p.1=k then wo k ps else p::wo k ps:=by
   unfold wo
   rw [List.filter_cons]
   by_cases e:p.1=k
   ·rw [decide_eq_true e,if_pos e];rfl
   ·rw [decide_eq_false e,if_neg e];rfl
  rw [ew]
  by_cases e:s=j
  ·subst e
   have hk:p.1=k:=by
    have:=h1 (Nat.le_refl _)
    rw [Nat.sub_self] at this
    exact Option.some.inj this
   rw [decide_eq_true rfl,if_pos hk]
   exact uc ps (s + 1) U (fun z=>absurd z (by omega)) (fun _ z=>J (by rw [hk];exact z))
  ·have hk:¬ p.1=k:=fun z=>by
    by_cases hs:s<=j
    ·have:=h1 hs
     have I:j - s=(j - (s + 1)) + 1:=by omega
     rw [I] at this
     have h3:(ps.map (·.1))[j - (s + 1)]? =some k:=this
     exact J (by rw [z];exact List.mem_of_getElem? h3)
    ·exact h2 (by omega) (by rw [<-z];exact List.mem_cons_self)
   rw [decide_eq_false e,if_neg hk]
   show p::gk _ ps=_
   rw [uc ps (s + 1) U (fun z=>?_) (fun z q=>?_)]
   ·have:=h1 (by omega)
    have I:j - s=(j - (s + 1)) + 1:=by omega
    rw [I] at this
    exact this
   ·exact h2 (by omega) (List.mem_cons_of_mem _ q)
theorem y9{k:Str}{j:Nat}{ps:List (Str×Str)}(hn:(ps.map (·.1)).Nodup)(h:(ps.map (·.1))[j]? =some k):kept [some (V.int 0,V.int (j:Int))] 0 [ps]=wo k ps:=by
 show gk (g0 _ 0 ps.length) ps++[]=_
 rw [List.append_nil,<-uc ps 0 hn (fun _=>by rw [Nat.sub_zero];exact h) (fun z=>absurd z (Nat.not_lt_zero _))]
 unfold g0
 rw [List.range_eq_range']
 congr 1
 refine List.map_congr_left fun i _=>?_
 congr 1
 refine decide_eq_decide.mpr ⟨fun z=>?_,fun z=>?_⟩
 ·have I:=(Prod.mk.inj (Option.some.inj (List.mem_singleton.mp z))).2
  have:=V.int.inj I
  omega
 ·rw [z];exact List.mem_singleton.mpr rfl
section
variable {P : Program} {w : World} {K : PySem.W.Frag} {mg : Str -> Option Value} {base : Heap} {C CH CN CNo CW CK CT C2 : Addr}
theorem qO{H:Hp}{y dy:Addr}(hy:H y=none)(hdy:H dy=none){o1 o2:HO}:eZ H (upd (upd H dy o1) y o2):=fun b u e=>by rw [fB (fW e hy),fB (fW e hdy)];exact e
theorem BN{L H:Hp}{vl:Addr}{bs:List V}(s:eZ L H)(h:H vl=some (.lst bs)):eZ (upd L vl (.lst bs)) H:=fun b u e=>by
 by_cases z:b=vl
 ·subst z
  rw [fv] at e
  cases e
  exact h
 ·rw [fB z] at e
  exact s _ _ e
def vw(C CH:Addr):Sp:=fun vs H Q _=>∃(x:Addr) (k t:Str) (I:List (List (Str×Str))) (L:Hp),vs=[.ref x,.str k,.str t]/\Hs C CH L H x I/\gN (I++[[(k,t)]])/\∀ H',Hs C CH L H' x (jE I [(k,t)])->Q .non H'
theorem Ci:fU ["self","key","text"] ["self","key","text"] (fD lF):=⟨rfl,rfl,rfl,dk,rfl,dk,dk⟩
seal fM PS PE PT PA PG PI fT fS in
theorem Cj{f fk ft fh fb fi:Addr}{fd fdk fdt fdh fdb fdi:FuncData}(F:fV K "put" "House.put" lF f fd)(HC:jH K mg C CH)(B:iN K mg C)
  (DK:Df K mg "need_key" nU fk fdk)(GK:fx P w K mg base (fQ P w) 3 fk fdk ["thing"] (kM K (fZ 12) CK))(DT:Df K mg "need_text" ni ft fdt)(GT:fx P w K mg base (fQ P w) 3 ft fdt ["thing"] (kM K gq CT))
  (FH:fV K "has" "House.has" nc fh fdh)(mH:Meth K CH "has" fh)(GH:fx P w K mg base fE 4 fh fdh ["self","key"] (zU C CH))
  (DB:Df K mg "poured_behind" qj fb fdb)(GB:fx P w K mg base fE 11 fb fdb ["volumes","last"] (zA C))
  (FI:lr K "__init__" "Book.__init__" j8 fi fdi #[.none])(M:L2.Mk K C fi)(GI:fx P w K mg base (fQ P w) 8 fi fdi ["self","pairs","rows"] (rV K C CK CT C2)):fx P w K mg base fE 12 f fd ["self","key","text"] (vw C CH):=by
 have bK:=gu (p:="thing") DK.F fun _ _ _ _ _ _ _=>rfl
 have bT:=gu (p:="thing") DT.F fun _ _ _ _ _ _ _=>rfl
 have bH:=FH.binds (ps:=["self","key"]) fun _ _ _ _ _ _ us U=>ix (fun _ _=>rfl) us U
 have bB:=DB.F.binds (ps:=["volumes","last"]) fun _ _ _ _ _ _ us U=>ix (fun _ _=>rfl) us U
 have bI:=FI.binds (ps:=["self","pairs","rows"]) (ds:=[.none]) fun T kV doc pm an cdv ct us U=>match us,(show us.length=2 by simpa using U) with | [_,_],_=>⟨_,rfl,rfl⟩
 refine F.ok Ci (fun vs H Q E h=>?_) (fun cdv A outer s H vs Q E hr h=>?_)
 ·obtain⟨x,k,t,aa,L,rfl,_⟩:=h
  rfl
 ·obtain⟨x,k,t,aa,L,rfl,hs,hok,kk⟩:=h
  refine⟨_,fq (gB (fN (GK.mono (by decide)) hr rfl DK.m DK.F.kp bK .nil ja (eY (pv 1) fe)))
   (fq (gB (fN (GT.mono (by decide)) hr rfl DT.m DT.F.kp bT .nil ja (eY (pv 2) fe)))
   (fq (gj (gT (jD (pv 0) HC.cl mH (GH.mono (by decide)) hr bH .nil fL (eY (pv 1) fe))) (fA jR) gh)
   (fA (kr (pv 0) (fN GB hr rfl DB.m DB.F.kp bB .nil fL (eY (iP (pv 0) rfl) (eY (uP M (GI.mono (k:=10) (by decide)) hr rfl B.mgC bI (dvs:=[.non]) (.cons rfl .nil) ja
    (eY (gf (eY (iV (eY (pv 1) (eY (pv 2) fe))) fe)) fe)) fe))) rfl)))),?_⟩
  obtain⟨I,ab⟩:=hok.last
  have ak:jy [(k,t)]:=hok.good (by simp)
  refine⟨_,rfl,.str k,rfl,⟨_,.str _⟩,lN I (by decide),fun _ H1 s1=>?_,fun e=>by rw [I] at e;cases e⟩
  refine⟨_,rfl,.str t,rfl,⟨_,.str _⟩,p7 ab,fun _ H2 s2=>?_,fun e=>by rw [ab] at e;cases e⟩
  have ae:=s1.trans s2
  obtain⟨vl,dx,bs,hx,ag,az,ao⟩:=hs.ex
  refine⟨_,rfl,x,dx,_,rfl,ae _ _ hx,jB,_,rfl,x,k,aa,rfl,hs.r.same ae,I,fun H3 s3=>?_⟩
  refine⟨_,rfl,?_⟩
  rw [decide_eq_false hok.notin]
  refine fO ?_
  have ah:=ae.trans s3
  refine⟨_,rfl,x,CH,dx,_,_,rfl,ah _ _ hx,HC.cl,HC.nV,kO,_,rfl,_,rfl,(by show 2<=sizeLine;decide),fun tt aq=>?_⟩
  have s4:eZ H3 (upd H3 tt (.tup [.str k,.str t])):=fC aq
  have e4:upd H3 tt (.tup [.str k,.str t]) tt=some (.tup [.str k,.str t]):=fv
  generalize upd H3 tt (.tup [.str k,.str t])=H4 at s4 e4 ⊢
  refine⟨(by show 1<=sizeLine;decide),fun a ha=>?_⟩
  have s5:eZ H4 (upd H4 a (.lst [.ref tt])):=fC ha
  have e5:upd H4 a (.lst [.ref tt]) a=some (.lst [.ref tt]):=fv
  generalize upd H4 a (.lst [.ref tt])=H5 at s5 e5 ⊢
  intro y dy hy ar aA
  have s6:eZ H5 (upd (upd H5 dy (.own y)) y (.ins C dy [])):=qO hy ar
  have e6:upd (upd H5 dy (.own y)) y (.ins C dy []) y=some (.ins C dy []):=fv
  generalize upd (upd H5 dy (.own y)) y (.ins C dy [])=H6 at s6 e6 ⊢
  have ai:=(ah.trans s4).trans s5
  have au:=ai.trans s6
  have aj:=BN hs.s ag
  refine⟨y,a,dy,.non,[.ref tt],[(.str k,.str t)],rfl,e6,s6 _ _ e5,.cons ⟨tt,rfl,s6 _ _ (s5 _ _ e4)⟩ .nil,(by show 1<=300;decide),fun kt av=>?_,fun ps e hg=>?_,fun i hi=>?_,fun ps e hg H7 aB aw ax=>⟨rfl,?_⟩⟩
  ·rw [List.mem_singleton.mp av]
   exact⟨⟨_,.str _⟩,lN I (by decide),⟨_,.str _⟩,p7 ab⟩
  ·have e2:ps=[(k,t)]:=lZ (show ps.map kp=[(k,t)].map kp from e.symm)
   subst e2
   exact⟨hok.f.sub gN.lastS,hok.w.sub gN.lastS,.inl rfl⟩
  ·have:=rO ak
   rw [show [(k,t)].map kp=[(V.str k,V.str t)] from rfl,hi] at this
   cases this
  ·have e2:ps=[(k,t)]:=lZ (show ps.map kp=[(k,t)].map kp from e.symm)
   subst e2
   have s7:eZ H5 H7:=fun b u e=>ax b u (s6 _ _ e) (fW e hy) (by intro z;cases z)
   have J:=ai.trans s7
   refine⟨vl,y,upd L vl (.lst bs),bs,aa,[(k,t)],rfl,J _ _ ag,aj.trans J,iz.same ao (ub J),aw _ fun b u e n=>kz e fun l0 z=>n l0 (au _ _ (aj _ _ z)),hok,fun l aC H8 H9 s8 ay U e9=>?_⟩
   subst e9
   have af:=J.trans s8
   exact⟨_,rfl,x,CH,dx,_,rfl,fC U _ _ (af _ _ hx),HC.cl,HC.nV,rC,kk _ (Hs.new HC.ne (hs.s.trans af) hs.lx (af _ _ hx) U (fun a h l0=>xp h l0) ay)⟩
theorem Hz{X:Cx}{K:W.Frag}{e:Expr}{f:Str}{pos:Pos}{ta:TE}(h:X.K=K)(he:PE X e ta)(hb:attributeBase e f X.env (eval e X.env)=eval e X.env):PE X (.Attribute e f pos) (uO K ta f):=by subst h;exact iP he hb
def De(K:W.Frag):List V->Hp->VK->Prop:=fun xs H Q=>∃ p ys,xs=[.ref p]/\(fj K H p ys\/gb K H p ys)/\∀ l,H l=none->Q (.ref l) (upd H l (.lst ys))
theorem AS{X:Cx}{K:W.Frag}(h:X.K=K):jc X (.type "list") (De K):=by subst h;exact pS
theorem yw:(["book"]:List Str).Nodup:=dk
def Bc(C CH:Addr):TE:=fun σ H Q=>∃(x:Addr) (I:List (List (Str×Str))),σ[0]? =some (some (.ref x))/\jV C CH H x I/\I.length<=1000/\∀ l,H l=none->Q (.ref l) (upd H l (.lst (nl (I.map List.length))))
def vq(C CH:Addr):Sp:=fun vs H Q _=>∃(x:Addr) (I:List (List (Str×Str))),vs=[.ref x]/\jV C CH H x I/\I.length<=1000/\∀ l,H l=none->Q (.ref l) (upd H l (.lst (nl (I.map List.length))))
theorem D9:fU ["self"] ["self"] (fD kK):=⟨rfl,rfl,rfl,dk,rfl,dk,dk⟩
seal fM PS PE PT PA PG PI fT fS in
theorem IH{f fm:Addr}{fd fdm:FuncData}(F:fV K "books" "House.books" kK f fd)(HC:jH K mg C CH)(B:iN K mg C)(FM:fV K "many" "Book.many" jT fm fdm)(mM:Meth K C "many" fm)(GM:fx P w K mg base fE 1 fm fdm ["self"] (nu C)):
  fx P w K mg base fE 2 f fd ["self"] (vq C CH):=by
 have bM:=FM.binds (ps:=["self"]) fun _ _ _ _ _ _ us J=>jY (fun _=>rfl) us J
 refine F.ok D9 (fun vs H Q E h=>?_) (fun cdv A outer s H vs Q E hr h=>?_)
 ·obtain⟨x,I,rfl,_⟩:=h
  rfl
 ·obtain⟨x,I,rfl,hH,J,kk⟩:=h
  refine⟨_,fA (fP (PE.imp (t':=Bc C CH) (il (own:=1) (caps:=[]) (N:=["book"]) (N0:=["self"]) (sc0:=fD kK) rfl (gK (iP (pv 0) rfl))
    (fun _ _ _=>fR (i:=0) yw rfl (Or.inl rfl)) (fun _ _ _=>iL) (fun _ _ _=>ji (pv 0) B.cl mM (GM.mono (by decide)) hr bM .nil fL) (gY (by decide)) rfl rfl
    dk rfl dk dk rfl dk) ?mB)),?_⟩
  case mB=>
   rintro σ H1 Q1 ⟨x,I,h0,hH,hlen,q⟩
   have hz:(sizeLine:Nat)=16777216:=sizeLine_eq
   obtain⟨vl,dx,bs,hx,U,aa⟩:=hH.ex
   have ab:=Gn.Paired.len aa
   refine⟨_,h0,x,CH,dx,_,_,rfl,hx,HC.cl,HC.nV,kO,vl,rfl,⟨_,fj.of U⟩,jk (xs:=bs) (fun i ys H'=>H'=H1/\ys=nl ((I.take i).map List.length)) (by omega) (fun i ys H' p=>by rw [p.1];exact fj.of U) ⟨rfl,rfl⟩ ?_ ?_⟩
   ·rintro i v ys H' N hv ⟨rfl,rfl⟩ hN
    obtain⟨ps,ae,b,rfl,hB⟩:=gW aa hv
    obtain⟨af,fs,hb,ag⟩:=hB.at
    refine g1 ?_
    refine⟨_,rfl,b,af,_,rfl,hb,ag _ mn,b,ps,rfl,hB,hN _ _ ⟨rfl,?_⟩⟩
    rw [take_snoc ae,List.map_append,jx]
    rfl
   ·rintro ys H' ⟨rfl,rfl⟩ _ l J
    rw [ab,List.take_length]
    exact q l J
  exact⟨x,I,rfl,hH,J,kk⟩
def me(H0 H:Hp):List V->List (List (Str×Str))->Prop:=Paired fun v ps=>∃ p xs,v= .ref p/\H0 p=none/\H p=some (.lst xs)/\gm H xs (ps.map kp)
theorem me.same {H0 H H':Hp}{xs:List V}{t:List (List (Str×Str))}(h:me H0 H xs t)(s:eZ H H'):me H0 H' xs t:=Gn.Paired.imp2 h fun _ _ ⟨p,xs,e,n,q,r⟩=>⟨p,xs,e,n,s _ _ q,r.same s⟩
def Ha(C CH:Addr):TE:=fun σ H Q=>∃(x:Addr) (I:List (List (Str×Str))),σ[0]? =some (some (.ref x))/\jV C CH H x I/\I.length<=1000/\∀ l ss H1,eZ H H1->H1 l=none->me H H1 ss I->Q (.ref l) (upd H1 l (.lst ss))
def ue(C CH:Addr):Sp:=fun vs H Q _=>∃(x:Addr) (I:List (List (Str×Str))),vs=[.ref x]/\jV C CH H x I/\I.length<=1000/\∀ l ss H1,eZ H H1->H1 l=none->me H H1 ss I->Q (.ref l) (upd H1 l (.lst ss))
theorem Er:fU ["self"] ["self"] (fD lD):=⟨rfl,rfl,rfl,dk,rfl,dk,dk⟩
seal fM PS PE PT PA PG PI fT fS in
theorem EI{f:Addr}{fd:FuncData}(F:fV K "shelves" "House.shelves" lD f fd)(HC:jH K mg C CH)(B:iN K mg C)(T:Txt mg):fx P w K mg base fE 1 f fd ["self"] (ue C CH):=by
 refine F.ok Er (fun vs H Q E h=>?_) (fun cdv A outer s H vs Q E hr h=>?_)
 ·obtain⟨x,I,rfl,_⟩:=h
  rfl
 ·obtain⟨x,I,rfl,hH,hl,kk⟩:=h
  refine⟨_,fA (fP (PE.imp (t':=Ha C CH) (il (own:=1) (caps:=[]) (N:=["book"]) (N0:=["self"]) (sc0:=fD lD) rfl (gK (iP (pv 0) rfl))
    (fun _ _ _=>fR (i:=0) yw rfl (Or.inl rfl)) (fun _ _ _=>iL) (fun _ _ _=>mm (AS (K:=K) rfl) rfl T.list kZ (eY (Hz (K:=K) rfl (pv 0) rfl) fe)) (gY (by decide)) rfl rfl
    dk rfl dk dk rfl dk) ?mB)),?_⟩
  case mB=>
   rintro σ H1 Q1 ⟨x,I,h0,hH,hlen,q⟩
   have hz:(sizeLine:Nat)=16777216:=sizeLine_eq
   obtain⟨vl,dx,bs,hx,J,U⟩:=hH.ex
   have aa:=Gn.Paired.len U
   refine⟨_,h0,x,CH,dx,_,_,rfl,hx,HC.cl,HC.nV,kO,vl,rfl,⟨_,fj.of J⟩,jk (xs:=bs) (fun i ys H'=>eZ H1 H'/\me H1 H' ys (I.take i)) (by omega) (fun i ys H' p=>fj.of (p.1 _ _ J)) ⟨eZ.refl _,.nil⟩ ?_ ?_⟩
   ·rintro i v ys H' N hv ⟨sm,hS⟩ hN
    obtain⟨ps,ab,b,rfl,hB⟩:=gW U hv
    obtain⟨ae,dn,pa,sz,dr,ri,xs,es,ts,b1,b2,b3,b4,_⟩:=(hB.same sm).ex
    refine g1 ?_
    refine⟨_,rfl,b,C,ae,_,_,rfl,b1,B.cl,B.nP,tG,pa,xs,rfl,.inl (fj.of b3),fun p hp=>hN _ _ ⟨eZ.upd sm hp,?_⟩⟩
    rw [take_snoc ab]
    exact Gn.Paired.app (hS.same (fC hp)) ⟨p,xs,rfl,sm.free hp,fv,b4.same (fC hp)⟩
   ·rintro ys H' ⟨sm,hS⟩ _ l hl
    rw [aa,List.take_length] at hS
    exact q l ys H' sm hl hS
  exact⟨x,I,rfl,hH,hl,kk⟩
def rM(pss:List (List (Str×Str))):List (List (Str×Str)):=if pss.length=0 then [] else [pss.flatten]
def wA(C CH:Addr):Sp:=fun vs H Q _=>∃(x:Addr) (I:List (List (Str×Str))) (L:Hp),vs=[.ref x]/\Hs C CH L H x I/\gN I/\∀ H',Hs C CH L H' x (rM I)->Q .non H'
theorem Gu:fU ["self"] ["self"] (fD m6):=⟨rfl,rfl,rfl,dk,rfl,dk,dk⟩
seal fM PS PE PT PA PG PI fT fS in
theorem E5{f fPo:Addr}{fd fdPo:FuncData}(F:fV K "pour" "House.pour" m6 f fd)(HC:jH K mg C CH)(DPo:iR K mg "poured" m9 fPo fdPo #[.none])(GPo:fx P w K mg base (fQ P w) 10 fPo fdPo ["books","gone"] (p3 K C CN CW))(T:Txt mg):
  fx P w K mg base fE 11 f fd ["self"] (wA C CH):=by
 have J:=DPo.binds (ps:=["books","gone"]) (ds:=[.none]) fun T kV doc pm an cdv ct us hl=>match us,(show us.length=1 by simpa using hl) with | [_],_=>⟨_,rfl,rfl⟩
 refine F.ok Gu (fun vs H Q E h=>?_) (fun cdv A outer s H vs Q E hr h=>?_)
 ·obtain⟨x,I,L,rfl,_⟩:=h
  rfl
 ·obtain⟨x,I,L,rfl,hs,hok,U⟩:=h
  refine⟨_,fA (gj (gi ju (gn iE rfl T.len g9 (eY (iP (pv 0) rfl) fe)) fy (f9 _))
   (fA (kr (pv 0) (gf (eY (fN GPo hr rfl DPo.m DPo.kp J (dvs:=[.non]) (.cons rfl .nil) ja (eY (iP (pv 0) rfl) fe)) fe)) rfl)) gh),?_⟩
  obtain⟨vl,dx,bs,hx,aa,af,ab⟩:=hs.ex
  have ag:=Gn.Paired.len ab
  refine⟨_,rfl,x,CH,dx,_,_,rfl,hx,HC.cl,HC.nV,kO,vl,_,rfl,.inl (fj.of aa),_,_,rfl,rfl,_,rfl,?_⟩
  unfold rM at U
  by_cases h0:I.length=0
  ·rw [decide_eq_false (show ¬ ((bs.length:Nat):Int) > 0 by omega)]
   rw [if_pos h0,<-List.length_eq_zero_iff.mp h0] at U
   exact fO (U H hs)
  ·rw [decide_eq_true (show((bs.length:Nat):Int) > 0 by omega)]
   rw [if_neg h0] at U
   refine fY ⟨_,rfl,x,CH,dx,_,_,rfl,hx,HC.cl,HC.nV,kO,?_⟩
   refine⟨vl,.non,bs,I,[],rfl,aa,iz.same ab jG,fun q hq=>hok.good hq,hok.f,hok.w,Nat.le_trans hok.l (by decide),.inl ⟨rfl,rfl⟩,fun c=>(by cases c),fun _ _ y H1 s1 hy hB ae=>?_,fun _ c=>absurd (by rw [qI];exact hok.n) c⟩
   rw [qI] at ae
   refine⟨(by show 1<=sizeLine;decide),fun l hl=>?_⟩
   exact⟨_,rfl,x,CH,dx,_,rfl,fC hl _ _ (s1 _ _ hx),HC.cl,HC.nV,rC,U _ (Hs.new (L':=L) HC.ne (hs.s.trans s1) hs.lx (s1 _ _ hx) hl (fun a h l0=>h l0) (.cons ⟨y,rfl,ae _ fun b u e n=>kz e fun l0 z=>n l0 (hs.s _ _ z)⟩ .nil))⟩
theorem Bj:(["one"]:List Str).Nodup:=dk
def Ig(CH:Addr)(C:Addr):TE:=fun σ H Q=>∃(x U dx:Addr) (bs:List V) (I:List (List (Str×Str))),σ[0]? =some (some (.ref x))/\H x=some (.ins CH dx (iw U))/\H U=some (.lst bs)/\iz C H bs I/\I.length<=1000/\
 ∀ l J,H l=none->(∀ G:V->List (Str×Str)->Prop,Paired G bs I->Paired G J (iB I))->Q (.ref l) (upd H l (.lst J))
def yq(C CH:Addr):Sp:=fun vs H Q _=>∃(x:Addr) (k:Str) (I:List (List (Str×Str))) (L:Hp),vs=[.ref x,.str k]/\Hs C CH L H x I/\gN I/\k∈keysOf I/\∀ t H',(k,t)∈I.flatten->Hs C CH L H' x (kU k I)->Q (.str t) H'
theorem sR:fU ["self","key","place","book","number"] ["self","key"] (fD mi):=⟨rfl,rfl,rfl,dk,rfl,dk,dk⟩
theorem ym{α β:Type}{F G:α->β->Prop}:∀{l:List α} {m:List β} {i:Nat} {a:α} {b:β},Paired F l m->(∀ x y,F x y->G x y)->G a b->Paired G (l.set i a) (m.set i b)
 | _,_,_,_,_,.nil,_,_=> .nil
 | _,_,0,_,_,.cons h t,k,g=> .cons g (Gn.Paired.imp2 t fun x y q=>k x y q)
 | _,_,i + 1,_,_,.cons h t,k,g=> .cons (k _ _ h) (ym t k g)
theorem good_int{n:Nat}{j:Nat}(h:j < n):jd (.int (j:Int)) 0 (some ((n:Int) - 1))=true:=by
 show(decide ((0:Int)<=j) && decide ((j:Int)<=(n:Int) - 1))=true
 rw [decide_eq_true (by omega),decide_eq_true (by omega)]
 rfl
seal fM PS PE PT PA PG PI fT fS in
theorem Bx{f fp fn fPo fm ft:Addr}{fd fdp fdn fdPo fdm fdt:FuncData}(F:fV K "take" "House.take" mi f fd)(HC:jH K mg C CH)(B:iN K mg C)
  (FP:fV K "place_of" "House.place_of" mq fp fdp)(mP:Meth K CH "place_of" fp)(GP:fx P w K mg base (fQ P w) 3 fp fdp ["self","key"] (uJ C CH CNo))
  (FN:fV K "number_of" "Book.number_of" mD fn fdn)(mN:Meth K C "number_of" fn)(GN:fx P w K mg base (fQ P w) 3 fn fdn ["self","key"] (zD K C CNo))
  (DPo:iR K mg "poured" m9 fPo fdPo #[.none])(GPo:fx P w K mg base (fQ P w) 10 fPo fdPo ["books","gone"] (p3 K C CN CW))
  (FM:fV K "many" "Book.many" jT fm fdm)(mM:Meth K C "many" fm)(GM:fx P w K mg base fE 1 fm fdm ["self"] (nu C))
  (FT:fV K "text_of" "Book.text_of" lW ft fdt)(mT:Meth K C "text_of" ft)(GT:fx P w K mg base (fQ P w) 4 ft fdt ["self","number"] (oY K C CN (·.2))):fx P w K mg base fE 11 f fd ["self","key"] (yq C CH):=by
 have bP:=FP.binds (ps:=["self","key"]) fun _ _ _ _ _ _ us U=>ix (fun _ _=>rfl) us U
 have bN:=FN.binds (ps:=["self","key"]) fun _ _ _ _ _ _ us U=>ix (fun _ _=>rfl) us U
 have bM:=FM.binds (ps:=["self"]) fun _ _ _ _ _ _ us U=>jY (fun _=>rfl) us U
 have bT:=FT.binds (ps:=["self","number"]) fun _ _ _ _ _ _ us U=>ix (fun _ _=>rfl) us U
 have ax:=DPo.binds (ps:=["books","gone"]) (ds:=[]) fun T kV doc pm an cdv ct us U=>match us,(show us.length=2 by simpa using U) with | [_,_],_=>⟨_,rfl,rfl⟩
 refine F.ok sR (fun vs H Q E h=>?_) (fun cdv A outer s H vs Q E hr h=>?_)
 ·obtain⟨x,k,I,L,rfl,_⟩:=h
  rfl
 ·obtain⟨x,k,I,L,rfl,hs,hok,hk,kk⟩:=h
  refine⟨_,fq (fG (i:=2) sR.nd rfl (Or.inl rfl) (jD (pv 0) HC.cl mP (GP.mono (by decide)) hr bP .nil ja (eY (pv 1) fe)))
   (fq (fG (i:=3) sR.nd rfl (Or.inl rfl) (gA g6 (iP (pv 0) rfl) (pv 2) (fun _ _=>rfl)))
   (fq (fG (i:=4) sR.nd rfl (Or.inl rfl) (jD (pv 3) B.cl mN (GN.mono (by decide)) hr bN .nil ja (eY (pv 1) fe)))
   (fq (vc (fN GPo hr rfl DPo.m DPo.kp ax .nil ja (eY (gf (eY (pv 3) fe)) (eY (gf (eY (iV (eY fy (eY (pv 4) fe))) fe)) fe))) (EE (iP (pv 0) rfl) (pv 2) set_list))
   (fq (kr (pv 0) (PE.imp (t':=Ig CH C) (il (own:=1) (caps:=[]) (N:=["one"]) (N0:=["self","key","place","book","number"]) (sc0:=fD mi) rfl (gK (iP (pv 0) rfl))
    (fun _ _ _=>fR (i:=0) Bj rfl (Or.inl rfl)) (fun _ _ _=>qE (gi ju (ji (pv 0) B.cl mM (GM.mono (by decide)) hr bM .nil fL) fy (f9 _))) (fun _ _ _=>pv 0) (gY (by decide)) rfl rfl
    dk rfl dk dk rfl dk) ?mK) rfl)
   (fA (fP (jD (pv 3) B.cl mT (GT.mono (by decide)) hr bT .nil ja (eY (pv 4) fe)))))))),?_⟩
  case mK=>
   rintro σ H1 Q1 ⟨x,J,dx,bs,I,h0,hx,aa,ab,hlen,q⟩
   have hz:(sizeLine:Nat)=16777216:=sizeLine_eq
   have ay:=Gn.Paired.len ab
   refine⟨_,h0,x,CH,dx,_,_,rfl,hx,HC.cl,HC.nV,kO,J,rfl,⟨_,fj.of aa⟩,jk (xs:=bs) (fun i ys H'=>H'=H1/\∀ G:V->List (Str×Str)->Prop,Paired G bs I->Paired G ys (iB (I.take i))) (by omega) (fun i ys H' p=>by rw [p.1];exact fj.of aa) ⟨rfl,fun G _=> .nil⟩ ?_ ?_⟩
   ·rintro i v ys H' N hv ⟨rfl,hG⟩ hN
    obtain⟨ps,az,b,rfl,hB⟩:=gW ab hv
    obtain⟨aq,fs,hb,ar⟩:=hB.at
    refine⟨_,rfl,b,aq,_,rfl,hb,ar _ mn,b,ps,rfl,hB,_,_,rfl,rfl,_,rfl,?_⟩
    have en:iB (I.take (i + 1))=iB (I.take i)++iB [ps]:=by rw [take_snoc az];unfold iB;rw [List.filter_append]
    cases ps with
    | nil=>
     refine fO (hN _ _ ⟨rfl,fun G hp=>?_⟩)
     rw [en]
     show Paired G ys (iB (I.take i)++[])
     rw [List.append_nil]
     exact hG G hp
    | cons p ps=>
     rw [decide_eq_true (show(((p::ps).length:Nat):Int) > 0 by rw [List.length_cons];omega)]
     refine fY ⟨_,rfl,hN _ _ ⟨rfl,fun G hp=>?_⟩⟩
     rw [en]
     obtain⟨qs,h1,h2⟩:=gW hp hv
     rw [az] at h1
     cases h1
     exact Gn.Paired.app (hG G hp) h2
   ·rintro ys H' ⟨rfl,hG⟩ _ l U
    rw [ay,List.take_length] at hG
    exact q l ys U hG
  obtain⟨i0,aJ,aK,aL⟩:=qM.mp hk
  have ai:fZ 12 (.str k)=true:=by
   obtain⟨p,hp,e⟩:=List.mem_map.mp aL
   have:=(hok.g p (List.mem_flatten.mpr ⟨aJ,List.mem_of_getElem? aK,hp⟩)).1
   rwa [e] at this
  obtain⟨J,dx,bs,hx,aa,aM,ab⟩:=hs.ex
  have aX:iz C H bs I:=iz.same ab jG
  have aY:=Gn.Paired.len ab
  refine⟨_,rfl,x,dx,_,rfl,hx,jB,_,rfl,x,k,I,rfl,hs.r,ai,fun i ps H1 hi hm s1=>?_,fun c=>absurd hk c⟩
  obtain⟨v,hv,b,rfl,hB⟩:=Gn.Paired.at ab hi
  refine⟨_,rfl,x,CH,dx,_,_,rfl,s1 _ _ hx,HC.cl,HC.nV,kO,_,rfl,J,_,_,_,rfl,rfl,fj.of (s1 _ _ aa),gR hv,?_⟩
  have ae:=hok.good (List.mem_of_getElem? hi)
  have au:g8 C H1 b ps:=hB.same (jG.trans s1)
  obtain⟨aq,fs,aN,ar⟩:=au.at
  refine⟨_,rfl,b,aq,_,rfl,aN,ar _ mn,_,rfl,b,ps,.str k,rfl,au,⟨_,.str _⟩,lN ai (by decide),fun p hp=>(ae.g p hp).1,ae.n,fun j z H2 e hj s2=>?_,fun c=>absurd hm (c k rfl)⟩
  injection e with e
  subst e
  have aA:j < ps.length:=by have:=(List.getElem?_eq_some_iff.mp hj).1;rwa [List.length_map] at this
  have aO:=s1.trans s2
  refine⟨_,rfl,(by show 1<=sizeLine;decide),fun bl aB=>?_⟩
  have s3:eZ H2 (upd H2 bl (.lst [.ref b])):=fC aB
  have e3:upd H2 bl (.lst [.ref b]) bl=some (.lst [.ref b]):=fv
  generalize upd H2 bl (.lst [.ref b])=H3 at s3 e3 ⊢
  refine⟨_,rfl,(by show 2<=sizeLine;decide),fun tt aP=>?_⟩
  have s4:eZ H3 (upd H3 tt (.tup [.int 0,.int (j:Int)])):=fC aP
  have e4:upd H3 tt (.tup [.int 0,.int (j:Int)]) tt=some (.tup [.int 0,.int (j:Int)]):=fv
  generalize upd H3 tt (.tup [.int 0,.int (j:Int)])=H4 at s4 e4 ⊢
  refine⟨(by show 1<=sizeLine;decide),fun gl aQ=>?_⟩
  have s5:eZ H4 (upd H4 gl (.lst [.ref tt])):=fC aQ
  have e5:upd H4 gl (.lst [.ref tt]) gl=some (.lst [.ref tt]):=fv
  generalize upd H4 gl (.lst [.ref tt])=H5 at s5 e5 ⊢
  have aC:=(s3.trans s4).trans s5
  have av:=aO.trans aC
  have aj:[ps].flatten.Sublist I.flatten:=by rw [List.flatten_cons,List.flatten_nil,List.append_nil];exact j3 (List.mem_of_getElem? hi)
  have aD:[some (V.int 0,V.int (j:Int))].all (lA ([ps].map List.length))=true:=by
   show((jd (.int ((0:Nat):Int)) 0 (some (((1:Nat):Int) - 1)) && jd (.int (j:Int)) 0 (some (((ps.length:Nat):Int) - 1))) && true)=true
   rw [good_int (show 0 < 1 by decide),good_int aA]
   rfl
  refine⟨bl,.ref gl,[.ref b],[ps],[some (.int 0,.int (j:Int))],rfl,(s4.trans s5) _ _ e3,.cons ⟨b,rfl,au.same (s2.trans aC)⟩ .nil,fun q hq=>(by rw [List.mem_singleton.mp hq];exact ae),hok.f.sub aj,hok.w.sub aj,(by show 1<=100;decide),
   .inr ⟨gl,[.ref tt],rfl,e5,.cons (.two (s5 _ _ e4) ⟨_,.int _⟩ ⟨_,.int _⟩) .nil,(by show 1<=1000;decide)⟩,fun c=>(by rw [aD] at c;cases c),fun _ _ y H6 s6 hy aZ aE=>?_,fun _ c=>absurd ?_ c⟩
  case refine_2=>
   rw [y9 ae.n hj]
   exact((List.filter_sublist (l:=ps)).map _).nodup ae.n
  rw [y9 ae.n hj] at aE
  have af:=av.trans s6
  have aR:i < bs.length:=by have:=(List.getElem?_eq_some_iff.mp hv).1;exact this
  refine⟨_,rfl,x,CH,dx,_,_,rfl,af _ _ hx,HC.cl,HC.nV,kO,_,rfl,J,bs,_,i,rfl,rfl,af _ _ aa,AZ aR,?_⟩
  have ag:∀ a o,H6 a=some o->a≠J->upd H6 J (.lst (bs.set i (.ref y))) a=some o:=fun a o e n=>(fB n).trans e
  have ak:upd H6 J (.lst (bs.set i (.ref y))) J=some (.lst (bs.set i (.ref y))):=fv
  generalize upd H6 J (.lst (bs.set i (.ref y)))=H7 at ag ak ⊢
  have aS:x≠J:=fun z=>by rw [z,aa] at hx;cases hx
  have ah:H7 x=some (.ins CH dx (iw J)):=ag _ _ (af _ _ hx) aS
  have aF:eZ (NL (upd L J (.lst bs)) H) (NL (upd L J (.lst bs)) H7):=fun a o e=>by
   have n:a≠J:=fun z=>by subst z;exact lK e bs fv
   exact kz (ag _ _ (af _ _ (jG _ _ e)) n) (lK e)
  have aG:iz C (NL (upd L J (.lst bs)) H7) (bs.set i (.ref y)) (I.map (wo k)):=by
   rw [zp hok.n hi hm]
   refine ym ab (fun v q ⟨c,e,z⟩=>⟨c,e,z.same aF⟩) ⟨y,rfl,aE _ fun a u e n=>?_⟩
   have na:a≠J:=fun z=>by subst z;exact n bs (av _ _ aa)
   exact kz (ag _ _ e na) fun l0 z=>n l0 (av _ _ (hs.s _ _ ((fB na).symm.trans z)))
  refine⟨x,J,dx,_,I.map (wo k),rfl,ah,ak,iz.same aG jG,(by rw [List.length_map];exact Nat.le_trans hok.l (by decide)),fun l aH U hG=>?_⟩
  have aT:eZ L H7:=fun a o e=>ag _ _ (af _ _ (hs.s _ _ e)) fun z=>by rw [z,aM] at e;cases e
  have ao:=Hs.new (L:=L) HC.ne aT hs.lx ah U (fun a h l0=>xp h l0) (hG _ aG)
  refine⟨_,rfl,x,CH,dx,_,rfl,fC U _ _ ah,HC.cl,HC.nV,rC,?_⟩
  have ay:l≠x:=fun z=>by rw [z,ah] at U;cases U
  have aw:g8 C (upd (upd H7 l (.lst aH)) x (.ins CH dx (fX "volumes" (.ref l) (iw J)))) b ps:=(g8.same hB aF).ch HC.ne fun a o e n=>by
   have e':=jG _ _ e
   have nx:a≠x:=fun z=>by subst z;rw [ah] at e';exact n _ _ (Option.some.inj e').symm
   exact(fB nx).trans ((fB (fW e' U)).trans e')
  generalize upd (upd H7 l (.lst aH)) x (.ins CH dx (fX "volumes" (.ref l) (iw J)))=H8 at ao aw ⊢
  obtain⟨aU,a0,aV,aI⟩:=aw.at
  refine⟨_,rfl,b,aU,_,rfl,aV,aI _ mn,_,rfl,b,ps,.int (j:Int),rfl,aw,⟨_,.int _⟩,fun j' p e hp=>?_,fun e=>by rw [good_int aA] at e;cases e⟩
  have ej:j=j':=by have:=V.int.inj e;omega
  subst ej
  have aW:p.1=k:=by
   rw [List.getElem?_map,hp] at hj
   exact Option.some.inj hj
  exact kk p.2 H8 (by rw [<-aW];exact List.mem_flatten.mpr ⟨ps,List.mem_of_getElem? hi,List.mem_of_getElem? hp⟩) ao
end
theorem xS:∀{ktss:List (List (V×V))} {ps:List (Str×Str)},ktss.flatten=ps.map kp->∃ pss:List (List (Str×Str)),ktss=pss.map (List.map kp)/\pss.flatten=ps
 | [],ps,h=>by
  cases ps with
  | nil=>exact⟨[],rfl,rfl⟩
  | cons p r=>cases h
 | kts::r,ps,h=>by
  rw [List.flatten_cons] at h
  obtain⟨a,b,e,h1,h2⟩:=List.map_eq_append_iff.mp h.symm
  obtain⟨pss,I,J⟩:=xS h2.symm
  exact⟨a::pss,by rw [List.map_cons,h1,I],by rw [List.flatten_cons,J,e]⟩
def oj(H:Hp):List V->List (List (V×V))->Prop:=Paired fun v I=>∃ p xs,v= .ref p/\H p=some (.lst xs)/\gm H xs I
theorem oj.same {H H':Hp}{xs:List V}{t:List (List (V×V))}(h:oj H xs t)(s:eZ H H'):oj H' xs t:=Gn.Paired.imp2 h fun _ _ ⟨p,xs,e,q,r⟩=>⟨p,xs,e,s _ _ q,r.same s⟩
section
variable {P : Program} {w : World} {K : PySem.W.Frag} {mg : Str -> Option Value} {base : Heap} {C CH CN CNo CW CK CT C2 : Addr}
theorem js.same {H H':Hp}{kt:V×V}(h:js K H kt)(s:eZ H H'):js K H' kt:=⟨h.1.same s,h.2.1,h.2.2.1.same s,h.2.2.2⟩
theorem wb{H:Hp}{ps:List (Str×Str)}(h:jy ps):∀ kt∈ps.map kp,js K H kt:=fun kt I=>by
 obtain⟨p,J,rfl⟩:=List.mem_map.mp I
 have:=h.g p J
 exact⟨⟨_,.str _⟩,lN this.1 (by decide),⟨_,.str _⟩,p7 this.2⟩
theorem B9:(["shelf"]:List Str).Nodup:=dk
def Ii(C:Addr):TE:=fun σ H Q=>∃(sl:Addr) (ss:List V) (I:List (List (Str×Str))) (L:Hp),σ[0]? =some (some (.ref sl))/\H sl=some (.lst ss)/\eZ L H/\oj H ss (I.map (List.map kp))/\gN I/\
 ∀ l bs H1,eZ H H1->H1 l=none->iz C (NL L H1) bs I->Q (.ref l) (upd H1 l (.lst bs))
def wu(K:W.Frag)(C CH CK CT C2:Addr):Sp:=fun vs H Q E=>∃(sl:Addr) (ss:List V) (I:List (List (V×V))),vs=[.ref sl]/\H sl=some (.lst ss)/\oj H ss I/\I.flatten.length<=300/\I.length<=90/\(∀ kt∈I.flatten,js K H kt)/\
 (∀ i,ik [] I.flatten=some i->∀ H',eZ H H'->E (.ref (kX CK CT C2 i)) none H')/\(∀ J,I=J.map (List.map kp)->jy J.flatten->gN J/\∀ x H',eZ H H'->H x=none->Hs C CH H H' x J->Q (.ref x) H')
theorem qY:fU ["shelves","pairs","shelf","house"] ["shelves"] (fD nB):=⟨rfl,rfl,rfl,dk,rfl,dk,dk⟩
seal fM PS PE PT PA PG PI fT fS in
theorem D2{f fn fh fi:Addr}{fd fdn fdh fdi:FuncData}(D:Df K mg "house_of" nB f fd)(HC:jH K mg C CH)(B:iN K mg C)
  (DN:Df K mg "numbers_by_key" og fn fdn)(GN:fx P w K mg base (fQ P w) 4 fn fdn ["pairs"] (vI K CK CT C2))
  (FH:fV K "__init__" "House.__init__" lY fh fdh)(MH:L2.Mk K CH fh)(GH:fx P w K mg base fE 1 fh fdh ["self"] (va CH))
  (FI:lr K "__init__" "Book.__init__" j8 fi fdi #[.none])(M:L2.Mk K C fi)(GI:fx P w K mg base (fQ P w) 8 fi fdi ["self","pairs","rows"] (rV K C CK CT C2)):fx P w K mg base (fQ P w) 10 f fd ["shelves"] (wu K C CH CK CT C2):=by
 have bN:=gu (p:="pairs") DN.F fun _ _ _ _ _ _ _=>rfl
 have bH:=FH.binds (ps:=["self"]) fun _ _ _ _ _ _ us hl=>jY (fun _=>rfl) us hl
 have bI:=FI.binds (ps:=["self","pairs","rows"]) (ds:=[.none]) fun T kV doc pm an cdv ct us hl=>match us,(show us.length=2 by simpa using hl) with | [_,_],_=>⟨_,rfl,rfl⟩
 refine D.F.ok1 qY (fun vs H Q E h=>?_) (fun cdv A outer s H vs Q E hr h=>?_)
 ·obtain⟨sl,ss,J,rfl,_⟩:=h
  rfl
 ·obtain⟨sl,ss,J,rfl,aa,hS,hlen,aM,hk,ak,ah⟩:=h
  have hz:(sizeLine:Nat)=16777216:=sizeLine_eq
  refine⟨_,fq (fG (i:=1) qY.nd rfl (Or.inl rfl) (gf fe))
   (fq (gO PassesOwn.leaving rfl (gK (pv 0)) (fR (i:=2) qY.nd rfl (Or.inl rfl))
    (fA (gB (gQ F.plainAttrs_list F.slot_list_extend F.type_list_extend qv (pv 1) (eY (pv 2) fe)))))
   (fq (gB (fN (GN.mono (by decide)) hr rfl DN.m DN.F.kp bN .nil (jm (E':=E) (fun _ _ _ h=>h)) (eY (pv 1) fe)))
   (fq (fG (i:=3) qY.nd rfl (Or.inl rfl) (uq MH (GH.mono (k:=8) (by decide)) hr rfl HC.mgC bH .nil fL))
   (fq (kr (pv 3) (PE.imp (t':=Ii C) (il (own:=1) (caps:=[]) (N:=["shelf"]) (N0:=["shelves","pairs","shelf","house"]) (sc0:=fD nB) rfl (gK (pv 0))
    (fun _ _ _=>fR (i:=0) B9 rfl (Or.inl rfl)) (fun _ _ _=>iL) (fun _ _ _=>uP M GI hr rfl B.mgC bI (dvs:=[.non]) (.cons rfl .nil) ja (eY (pv 0) fe)) (gY (by decide)) rfl rfl
    dk rfl dk dk rfl dk) ?mM) rfl)
   (fA (fP (pv 3))))))),?_⟩
  case mM=>
   rintro σ H1 Q1 ⟨sl,ss,ab,L,h0,aa,sL,hS,hok,q⟩
   have ao:=Gn.Paired.len hS
   rw [List.length_map] at ao
   have:=hok.l
   refine⟨_,h0,sl,rfl,⟨_,fj.of aa⟩,jk (xs:=ss) (fun i ys H'=>eZ H1 H'/\iz C (NL L H') ys (ab.take i)) (by omega) (fun i ys H' p=>fj.of (p.1 _ _ aa)) ⟨eZ.refl _,.nil⟩ ?_ ?_⟩
   ·rintro i v ys H' N hv ⟨sm,hY⟩ hN
    obtain⟨aq,I,p,xs,rfl,hp,hP⟩:=gW hS hv
    obtain⟨ps,ar,rfl⟩:∃ ps,ab[i]? =some ps/\ps.map kp=aq:=by
     rw [List.getElem?_map] at I
     cases e:ab[i]? with
     | none=>rw [e] at I;cases I
     | some ps=>rw [e] at I;exact⟨ps,rfl,Option.some.inj I⟩
    have U:=List.mem_of_getElem? ar
    have hg:=hok.good U
    refine g1 ?_
    refine⟨_,rfl,?_⟩
    intro y dy hy aA aB
    have s6:eZ H' (upd (upd H' dy (.own y)) y (.ins C dy [])):=qO hy aA
    have e6:upd (upd H' dy (.own y)) y (.ins C dy []) y=some (.ins C dy []):=fv
    generalize upd (upd H' dy (.own y)) y (.ins C dy [])=H6 at s6 e6 ⊢
    have ai:=sm.trans s6
    have aC:ps.length<=300:=Nat.le_trans (j3 U).length_le (Nat.le_trans hok.p (by decide))
    refine⟨y,p,dy,.non,xs,ps.map kp,rfl,e6,ai _ _ hp,hP.same ai,(by rw [List.length_map];exact aC),wb hg,fun qs e aD=>?_,fun j hj=>(by rw [rO hg] at hj;cases hj),fun qs e aD H7 aN aE aF=>⟨rfl,?_⟩⟩
    ·have e2:=lZ e.symm
     subst e2
     exact⟨hok.f.sub (j3 U),hok.w.sub (j3 U),.inl rfl⟩
    ·have e2:=lZ e.symm
     subst e2
     have s7:eZ H' H7:=fun b u e=>aF b u (s6 _ _ e) (fW e hy) (by intro z;cases z)
     refine hN _ _ ⟨sm.trans s7,?_⟩
     rw [take_snoc ar]
     exact Gn.Paired.app (iz.same hY (ub s7)) ⟨y,rfl,aE _ fun b u e n=>kz e fun l0 z=>n l0 (ai _ _ (sL _ _ z))⟩
   ·rintro ys H' ⟨sm,hY⟩ _ l hl
    rw [ao,List.take_length] at hY
    exact q l ys H' sm hl hY
  refine⟨(by show 0<=sizeLine;decide),fun pa aj=>?_⟩
  have s1:eZ H (upd H pa (.lst [])):=fC aj
  have e1:upd H pa (.lst []) pa=some (.lst []):=fv
  generalize upd H pa (.lst [])=H1 at s1 e1 ⊢
  have aG:=Gn.Paired.len hS
  refine⟨_,rfl,sl,rfl,⟨_,fj.of (s1 _ _ aa)⟩,?_⟩
  refine jl (xs:=ss) (fun i σ H'=>∃(o2:Option V) (xs:List V),σ=[some (.ref sl),some (.ref pa),o2,none]/\eZ H H'/\H' pa=some (.lst xs)/\gm H' xs (J.take i).flatten) ⟨none,[],rfl,s1,e1,.nil⟩ ?_ ?_ ?_
  ·rintro i σ H' _ ⟨_,_,_,sm,_⟩
   exact fj.of (sm _ _ aa)
  ·rintro i v σ H' hv ⟨o2,xs,rfl,sm,ae,hP⟩
   obtain⟨aq,I,p,ys,rfl,hp,au⟩:=gW hS hv
   have aO:p≠pa:=fW hp aj
   have aP:=Gn.Paired.len hP
   have aQ:=Gn.Paired.len au
   have ht:=(rA J (i + 1)).length_le
   rw [qr I,List.length_append] at ht
   refine⟨_,rfl,.inl ⟨rfl,_,fj.of ae⟩,_,rfl,pa,p,xs,ys,rfl,rfl,ae,sm _ _ hp,by omega,?_⟩
   refine⟨_,_,rfl,fun b u e=>(fB (fW e aj)).trans (sm _ _ e),fv,?_⟩
   rw [qr I]
   have nt:∀{b:Addr} {ts:List V},H' b=some (.tup ts)->b≠pa:=fun e z=>by rw [z,ae] at e;cases e
   exact Gn.Paired.cat (Gn.Paired.imp2 hP fun _ _ ⟨b,e,z⟩=>⟨b,e,(fB (nt z)).trans z⟩) (Gn.Paired.imp2 (au.same sm) fun _ _ ⟨b,e,z⟩=>⟨b,e,(fB (nt z)).trans z⟩)
  ·rintro σ H2 ⟨o2,xs,rfl,s2,av,aw⟩
   rw [aG,List.take_length] at aw
   refine⟨_,rfl,pa,xs,J.flatten,rfl,av,aw,by omega,fun kt h=>(hk kt h).same s2,fun hb dn H3 s3 aR aS=>?_,fun i hi H3 s3=>ak i hi H3 (s2.trans s3)⟩
   obtain⟨ps,e,aH,_,g3⟩:=vM hb
   obtain⟨ab,e2,e3⟩:=xS e
   subst e2
   obtain⟨hok,kk⟩:=ah ab rfl ⟨by rw [e3];exact aH,by rw [e3];exact g3⟩
   have ax:=s2.trans s3
   intro x dx hx aI aB
   have s4:eZ H3 (upd (upd H3 dx (.own x)) x (.ins CH dx [])):=qO hx aI
   have e4:upd (upd H3 dx (.own x)) x (.ins CH dx []) x=some (.ins CH dx []):=fv
   generalize upd (upd H3 dx (.own x)) x (.ins CH dx [])=H4 at s4 e4 ⊢
   refine⟨x,dx,rfl,e4,fun vl aJ=>⟨rfl,?_⟩⟩
   have s5:eZ H3 (upd (upd H4 vl (.lst [])) x (.ins CH dx (iw vl))):=fun b u e=>(fB (fW e hx)).trans ((fB (fW (s4 _ _ e) aJ)).trans (s4 _ _ e))
   have e5:upd (upd H4 vl (.lst [])) x (.ins CH dx (iw vl)) x=some (.ins CH dx (iw vl)):=fv
   generalize upd (upd H4 vl (.lst [])) x (.ins CH dx (iw vl))=H5 at s5 e5 ⊢
   have af:=ax.trans s5
   refine⟨sl,ss,ab,H,rfl,af _ _ aa,af,hS.same af,hok,fun l bs H6 s6 hl aK=>?_⟩
   have aL:=af.trans s6
   have ay:=s6 _ _ e5
   have az:H x=none:=ax.free hx
   have ag:=Hs.new (L:=H) (L':=H) HC.ne aL az ay hl (fun a h l0=>h l0) aK
   refine⟨_,rfl,x,CH,dx,_,rfl,fC hl _ _ ay,HC.cl,HC.nV,rC,?_⟩
   exact⟨_,rfl,kk x _ ag.s az ag⟩
end
section
variable {P : Program} {w : World} {K : PySem.W.Frag} {mg : Str -> Option Value} {base : Heap}
theorem zY:∀ cs:List Nat,PySem.Str.join (Str.ofString "") (cs.map fun c=>(⟨#[c]⟩:Str))=⟨cs.toArray⟩
 | []=>rfl
 | [c]=>rfl
 | c::d::r=>by
  show(⟨[c].toArray⟩:Str)++Str.ofString ""++PySem.Str.join (Str.ofString "") ((d::r).map fun c=>(⟨#[c]⟩:Str))=_
  rw [zY (d::r),AV,vV,vV]
  rfl
theorem join_eq(cs:List Nat):Txt.join (Str.ofString "") (cs.map fun c=>(⟨#[c]⟩:Str))=⟨cs.toArray⟩:=by
 show Builtin.Str.glued _ _=_
 rw [StrLaws.glued_eq_join]
 exact zY cs
theorem yl(cs:List Nat):((cs.map fun c=>(⟨#[c]⟩:Str)).map (·.length)).sum=cs.length:=by
 induction cs with
 | nil=>rfl
 | cons c r I=>rw [List.map_cons,List.map_cons,List.sum_cons,I,List.length_cons];show 1 + _=_;(clear I;omega)
theorem BW{z:Str}{l u:Option Int}{c:Nat}(h:c∈(Txt.slice z l u).cps.toList):c∈z.cps.toList:=by
 unfold Txt.slice at h
 split at h
 ·exact h
 ·have h':c∈(Builtin.Str.strSliceIndices l u 1 z.length).filterMap (z.cps[·]?):=by simpa using h
  obtain⟨i,_,e⟩:=List.mem_filterMap.mp h'
  have:=Array.mem_of_getElem? e
  simpa using this
theorem kQ{p:Nat->Bool}{z:Str}(l u:Option Int)(h:z.cps.toList.all p=true):(Txt.slice z l u).cps.toList.all p=true:=
 List.all_eq_true.mpr fun c I=>List.all_eq_true.mp h c (BW I)
theorem CU{z:Str}{i j c:Nat}(h:c∈(Builtin.Str.strSub z i j).cps.toList):c∈z.cps.toList:=by
 have h':c∈(z.cps.extract i j).toList:=h
 rw [Array.toList_extract] at h'
 exact List.mem_of_mem_drop (List.mem_of_mem_take h')
theorem Gx{p:Nat->Bool}{z:Str}(h:z.cps.toList.all p=true):(Txt.strip z).cps.toList.all p=true:=by
 refine List.all_eq_true.mpr fun c I=>List.all_eq_true.mp h c ?_
 unfold Txt.strip at I
 rw [stripBy_eq] at I
 exact CU I
theorem nY{p:Nat->Bool}{a b:Str}(ha:a.cps.toList.all p=true)(hb:b.cps.toList.all p=true):(a++b).cps.toList.all p=true:=by
 rw [PySem.Str.cps_append,Array.toList_append,List.all_append,ha,hb]
 rfl
theorem Em:∀ c,c < 128->gc c=true->gZ (up1 c)=true:=dk
theorem zQ{z:Str}(h:z.cps.toList.all gc=true):(Txt.upper z).cps.toList.all gZ=true/\(Txt.upper z).length=z.length:=by
 rw [upper_ascii fun c I=>ko (List.all_eq_true.mp h c I)]
 refine⟨?_,by simp [Str.length]⟩
 rw [Array.toList_map,List.all_map]
 exact List.all_eq_true.mpr fun c I=>Em c (ko (List.all_eq_true.mp h c I)) (List.all_eq_true.mp h c I)
theorem yn{z:Str}(h:z.cps.toList.all gc=true):z.cps.toList.all gZ=true:=List.all_eq_true.mpr fun c I=>xI (List.all_eq_true.mp h c I)
theorem vL{p:Nat->Bool}{l:List Nat}(h:l.all p=true){i:Nat}(hi:i < l.length):p l[i]=true:=List.all_eq_true.mp h _ (List.getElem_mem hi)
def pL(c:Nat):Bool:=gc (K01.lo c)
def sc(p:Bool):List Nat->Nat
 | []=>0
 | c::r=>(if pL c=true/\p=false then 1 else 0) + sc (pL c) r
def nC(p:Bool):List Nat->Bool
 | []=>p
 | c::r=>nC (pL c) r
theorem rG:∀(a b:List Nat) (p:Bool),sc p (a++b)=sc p a + sc (nC p a) b
 | [],b,p=>by
  show sc p b=0 + sc p b
  omega
 | c::a,b,p=>by
  show _ + sc (pL c) (a++b)=_ + sc (pL c) a + sc (nC (pL c) a) b
  rw [rG a b (pL c),Nat.add_assoc]
theorem Am:∀(b:List Nat),sc true b<=sc false b/\sc false b<=sc true b + 1
 | []=>⟨Nat.le_refl _,Nat.le_succ _⟩
 | c::r=>by
  show(if pL c=true/\true=false then 1 else 0) + sc (pL c) r<=(if pL c=true/\false=false then 1 else 0) + sc (pL c) r/\(if pL c=true/\false=false then 1 else 0) + sc (pL c) r<=(if pL c=true/\true=false then 1 else 0) + sc (pL c) r + 1
  rw [if_neg (show ¬ (pL c=true/\true=false) from fun z=>nomatch z.2)]
  constructor
  ·omega
  ·split<;>omega
theorem Bw(p:Bool)(b:List Nat):sc p b<=sc false b:=by
 cases p
 ·exact Nat.le_refl _
 ·exact(Am b).1
theorem y3:∀(a:List Nat) (p:Bool),nC p a=true->p=true\/1<=sc p a
 | [],p,h=> .inl h
 | c::a,p,h=>by
  have h':nC (pL c) a=true:=h
  show p=true\/1<=(if pL c=true/\p=false then 1 else 0) + sc (pL c) a
  rcases y3 a (pL c) h' with q | q
  ·cases p
   ·rw [if_pos ⟨q,rfl⟩]
    exact .inr (by omega)
   ·exact .inl rfl
  ·exact .inr (by omega)
theorem yF(a b:List Nat):sc false (a++b)<=sc false a + sc false b:=by
 rw [rG]
 have:=Bw (nC false a) b
 omega
theorem Dk(a b:List Nat):sc false a<=sc false (a++b):=by rw [rG];omega
theorem Ih(a b:List Nat):sc false b<=sc false (a++b):=by
 rw [rG]
 cases h:nC false a with
 | false=>omega
 | true=>
  have h1:=(Am b).2
  rcases y3 a false h with q | q
  ·cases q
  ·omega
theorem yL:∀(y:List Nat) (p:Bool),y.all pL=true->sc p y<=(if p=true then 0 else 1)
 | [],p,_=>Nat.zero_le _
 | c::y,p,h=>by
  rw [List.all_cons,Bool.and_eq_true] at h
  have I:=yL y (pL c) h.2
  rw [if_pos h.1] at I
  show(if pL c=true/\p=false then 1 else 0) + sc (pL c) y<=_
  cases p
  ·rw [if_pos ⟨h.1,rfl⟩,if_neg (by decide)]
   omega
  ·rw [if_neg (fun z=>nomatch z.2),if_pos rfl]
   omega
theorem uo:∀(t:List Nat) (p:Bool),t.all (fun c=> !pL c)=true->sc p t=0
 | [],p,_=>rfl
 | c::t,p,h=>by
  rw [List.all_cons,Bool.and_eq_true] at h
  have I:pL c=false:=by simpa using h.1
  have J:=uo t (pL c) h.2
  show(if pL c=true/\p=false then 1 else 0) + sc (pL c) t=0
  rw [J,if_neg (fun z=>by rw [I] at z;cases z.1)]
theorem wq:∀(r:List Nat) (i:Nat) (w:List Nat),(ie (r.map K01.lo) i w).length=(if w=[] then 0 else 1) + sc (decide (w≠[])) r
 | [],i,w=>by
  show(flush i w).length=_
  unfold flush
  by_cases h:w=[]
  ·rw [if_pos h,if_pos h]
   rfl
  ·rw [if_neg h,if_neg h]
   rfl
 | c::r,i,w=>by
  show(ie (K01.lo c::r.map K01.lo) i w).length=_ + ((if pL c=true/\decide (w≠[])=false then 1 else 0) + sc (pL c) r)
  cases h:gc (K01.lo c) with
  | true=>
   have I:pL c=true:=h
   rw [mU h,wq r (i + 1) (w++[K01.lo c]),if_neg (by simp),I]
   have e:decide (w++[K01.lo c]≠[])=true:=by simp
   rw [e]
   by_cases hw:w=[]
   ·rw [if_pos hw,if_pos ⟨rfl,by simp [hw]⟩]
    omega
   ·rw [if_neg hw,if_neg (fun z=>by have:=z.2;simp [hw] at this)]
    omega
  | false=>
   have I:pL c=false:=h
   rw [mh h,List.length_append,wq r (i + 1) [],if_pos (rfl:([]:List Nat)=[]),I,if_neg (show ¬ (false=true/\decide (w≠[])=false) from fun z=>nomatch z.1)]
   have e:decide (([]:List Nat)≠[])=false:=by simp
   rw [e]
   unfold flush
   by_cases hw:w=[]
   ·rw [if_pos hw,if_pos hw]
    show 0 + (0 + sc false r)=0 + (0 + sc false r)
    rfl
   ·rw [if_neg hw,if_neg hw]
    show 1 + (0 + sc false r)=1 + (0 + sc false r)
    rfl
theorem G8(cs:List Nat):(words cs).length=sc false cs:=by
 have:=wq cs 0 []
 rw [if_pos rfl] at this
 have e:decide (([]:List Nat)≠[])=false:=by simp
 rw [e,Nat.zero_add] at this
 exact this
theorem uk(z:Str):(tw z).length=sc false (codes z):=by unfold tw;rw [List.length_map,G8]
theorem qD(a b:Str):codes (a++b)=codes a++codes b:=by
 unfold codes
 rw [PySem.Str.cps_append,Array.toList_append]
theorem GF(l:List Nat)(i j:Nat):sc false ((l.drop i).take (j - i))<=sc false l:=by
 have h1:=Dk ((l.drop i).take (j - i)) ((l.drop i).drop (j - i))
 rw [List.take_append_drop] at h1
 have h2:=Ih (l.take i) (l.drop i)
 rw [List.take_append_drop] at h2
 exact Nat.le_trans h1 h2
theorem IA(z:Str):sc false (codes (Txt.strip z))<=sc false (codes z):=by
 unfold Txt.strip
 rw [stripBy_eq]
 have key:∀ i j:Nat,sc false (z.cps.extract i j).toList<=sc false z.cps.toList:=fun i j=>by
  rw [Array.toList_extract]
  exact GF z.cps.toList i j
 exact key _ _
theorem GJ:∀ c,c < 128->gc c=true->pL c=true:=dk
theorem AU:∀ c,c < 128->gc c=true->pL (up1 c)=true:=dk
theorem vy{z:Str}(h:z.cps.toList.all gc=true):z.cps.toList.all pL=true:=List.all_eq_true.mpr fun c I=>GJ c (ko (List.all_eq_true.mp h c I)) (List.all_eq_true.mp h c I)
theorem xG{z:Str}(h:z.cps.toList.all gc=true):(Txt.upper z).cps.toList.all pL=true:=by
 rw [upper_ascii fun c I=>ko (List.all_eq_true.mp h c I),Array.toList_map,List.all_map]
 exact List.all_eq_true.mpr fun c I=>AU c (ko (List.all_eq_true.mp h c I)) (List.all_eq_true.mp h c I)
theorem Ep{R:Str}{i j:Int}(hi:0<=i)(hij:i<=j)(hj:j<=R.length):(Txt.slice R none (some i)).length + (Txt.slice R (some i) (some j)).length<=j.toNat:=by
 have l:(R.cps.toList.length:Int)=R.length:=by simp [Str.length]
 have I:Txt.slice R none (some i)=_:=PySem.StrLaws.sliceText_to ⟨hi,by omega⟩
 have J:Txt.slice R (some i) (some j)=_:=PySem.StrLaws.sliceText_plain ⟨hi,hij,by omega⟩
 rw [I,J,jU,jU,List.length_take,List.length_take,List.length_drop,List.length_drop]
 omega
theorem Ee(z:Str):(Txt.slice z none (some 1)).length + (Txt.slice z (some 1) none).length<=z.length:=by
 have l:z.cps.toList.length=z.length:=by simp [Str.length]
 by_cases h:z.length=0
 ·have a:=Txt.slice_le z none (some 1)
  have b:=Txt.slice_le z (some 1) none
  omega
 ·have I:Txt.slice z none (some 1)=_:=PySem.StrLaws.sliceText_to ⟨by decide,by omega⟩
  have J:Txt.slice z (some 1) none=_:=PySem.StrLaws.sliceText_from ⟨by decide,by omega⟩
  rw [I,J,jU,jU,List.length_take,List.length_take,List.length_drop,List.length_drop]
  omega
def Wm(z:Str):Prop:=z.length<=7/\z.cps.toList.all gc=true
def jM(w:List Nat):List (List Nat):=if w=[] then [] else [w]
def runs:List Nat->List Nat->List (List Nat)
 | w,[]=>jM w
 | w,c::r=>if pL c=true then runs (w++[K01.lo c]) r else jM w++runs [] r
theorem nv{w r:List Nat}{c:Nat}(h:pL c=true):runs w (c::r)=runs (w++[K01.lo c]) r:=by rw [runs,if_pos h]
theorem kW{w r:List Nat}{c:Nat}(h:pL c=false):runs w (c::r)=jM w++runs [] r:=by rw [runs,if_neg (by rw [h];decide)]
theorem uA:∀(r:List Nat) (i:Nat) (w:List Nat),(ie (r.map K01.lo) i w).map (·.1)=runs w r
 | [],i,w=>by
  show(flush i w).map (·.1)=jM w
  unfold flush jM
  split<;>rfl
 | c::r,i,w=>by
  rw [List.map_cons]
  cases h:gc (K01.lo c) with
  | true=>rw [mU h,uA r,nv (show pL c=true from h)]
  | false=>
   rw [mh h,List.map_append,uA r,kW (show pL c=false from h)]
   congr 1
   unfold flush jM
   split<;>rfl
theorem Fb(z:Str):tw z=(runs [] (codes z)).map fun r=>(⟨r.toArray⟩:Str):=by
 unfold tw words
 rw [<-uA _ 0 [],List.map_map]
 rfl
theorem qZ:∀(a b:List Nat),a.all (fun c=> !pL c)=true->runs [] (a++b)=runs [] b
 | [],_,_=>rfl
 | c::a,b,h=>by
  rw [List.all_cons,Bool.and_eq_true] at h
  have I:pL c=false:=by simpa using h.1
  show runs [] (c::(a++b))=_
  rw [kW I,qZ a b h.2]
  rfl
theorem qV:∀(a:List Nat) (w:List Nat) (s:Nat) (b:List Nat),pL s=false->runs w (a++s::b)=runs w a++runs [] b
 | [],w,s,b,h=>kW h
 | c::a,w,s,b,h=>by
  show runs w (c::(a++s::b))=_
  cases hc:pL c with
  | true=>rw [nv hc,nv hc,qV a _ s b h]
  | false=>rw [kW hc,kW hc,qV a _ s b h,List.append_assoc]
theorem zd:∀(y w:List Nat),y.all pL=true->runs w y=jM (w++y.map K01.lo)
 | [],w,_=>by rw [List.map_nil,List.append_nil];rfl
 | c::y,w,h=>by
  rw [List.all_cons,Bool.and_eq_true] at h
  rw [nv h.1,zd y _ h.2,List.map_cons,List.append_assoc]
  rfl
theorem Ap{w r:List Nat}(h:r∈jM w):r=w/\r≠[]:=by
 unfold jM at h
 split at h
 ·cases h
 ·rename_i n
  have e:=List.mem_singleton.mp h
  exact⟨e,by rw [e];exact n⟩
theorem yo:∀(a w:List Nat),w≠[]->∃ r∈runs w a,w <+:r
 | [],w,h=>⟨w,by show w∈jM w;unfold jM;rw [if_neg h];exact List.mem_cons_self,List.prefix_refl _⟩
 | c::a,w,h=>by
  cases hc:pL c with
  | true=>
   obtain⟨r,h1,h2⟩:=yo a (w++[K01.lo c]) (by simp)
   exact⟨r,by rw [nv hc];exact h1,(List.prefix_append _ _).trans h2⟩
  | false=>exact⟨w,by rw [kW hc];exact List.mem_append_left _ (by unfold jM;rw [if_neg h];exact List.mem_cons_self),List.prefix_refl _⟩
theorem vF:∀(a:List Nat) (n:Nat) (w:List Nat) {r:List Nat},r∈runs w (a.take n)->∃ r'∈runs w a,r <+:r'
 | a,0,w,r,h=>by
  obtain⟨e,n⟩:=Ap (show r∈jM w from h)
  subst e
  exact yo a r n
 | [],n + 1,w,r,h=>⟨r,h,List.prefix_refl _⟩
 | c::a,n + 1,w,r,h=>by
  have h:r∈runs w (c::a.take n):=h
  cases hc:pL c with
  | true=>
   rw [nv hc] at h
   obtain⟨r',h1,h2⟩:=vF a n _ h
   exact⟨r',by rw [nv hc];exact h1,h2⟩
  | false=>
   rw [kW hc] at h
   rcases List.mem_append.mp h with h | h
   ·exact⟨r,by rw [kW hc];exact List.mem_append_left _ h,List.prefix_refl _⟩
   ·obtain⟨r',h1,h2⟩:=vF a n _ h
    exact⟨r',by rw [kW hc];exact List.mem_append_right _ h1,h2⟩
def Mp(ws:List Str)(x:Str):Prop:=∀ r∈runs [] (codes x),∃ z∈ws,r <+:codes z
def Cl(ws:List Str)(x:Str):Prop:=∀ b,∀ r∈runs [] (codes x++b),(∃ z∈ws,r=codes z)\/r∈runs [] b
theorem Cl.none {ws:List Str}{x:Str}(h:(codes x).all (fun c=> !pL c)=true):Cl ws x:=fun b r I=>by
 rw [qZ _ _ h] at I
 exact .inr I
theorem Cl.rp {ws:List Str}{x:Str}(h:Cl ws x):Mp ws x:=fun r I=>by
 rcases h [] r (by rw [List.append_nil];exact I) with ⟨z,J,e⟩ | e
 ·exact⟨z,J,by rw [e];exact List.prefix_refl _⟩
 ·exact nomatch e
theorem Cl.go {ws:List Str}{x y t z:Str}(h:Cl ws x)(hy:(codes y).all pL=true)(hz:z∈ws)(e:(codes y).map K01.lo=codes z)(ht:(codes t).all (fun c=> !pL c)=true)(hn:codes t≠[]):Cl ws (x++y++t):=fun b r I=>by
 rw [qD,qD,List.append_assoc,List.append_assoc] at I
 rcases h _ r I with q | q
 ·exact .inl q
 ·cases et:codes t with
  | nil=>exact absurd et hn
  | cons s t'=>
   rw [et,List.all_cons,Bool.and_eq_true] at ht
   have hs:pL s=false:=by simpa using ht.1
   rw [et] at q
   have q':r∈runs [] (codes y++s::(t'++b)):=q
   rw [qV _ _ _ _ hs,zd _ _ hy,qZ _ _ ht.2] at q'
   rcases List.mem_append.mp q' with q' | q'
   ·exact .inl ⟨z,hz,by rw [<-e];exact(Ap q').1⟩
   ·exact .inr q'
theorem EC:∀ c,c < 128->Unicode.isSpace c=true->pL c=false:=dk
theorem Hb(z:Str):∃ a b,codes z=a++(codes (Txt.strip z)++b)/\a.all Unicode.isSpace=true/\b.all Unicode.isSpace=true:=by
 have I:∀ l:List Nat,(l.takeWhile Unicode.isSpace).all Unicode.isSpace=true:=fun l=>by
  induction l with
  | nil=>rfl
  | cons c l ih=>
   rw [List.takeWhile_cons]
   split
   ·rename_i hc
    rw [List.all_cons,hc,ih]
    rfl
   ·rfl
 obtain⟨l,el⟩:∃ l,l=codes z:=⟨_,rfl⟩
 obtain⟨m,em⟩:∃ m,m=l.dropWhile Unicode.isSpace:=⟨_,rfl⟩
 have e1:l=l.takeWhile Unicode.isSpace++m:=by rw [em];exact List.takeWhile_append_dropWhile.symm
 have e2:m=(m.reverse.dropWhile Unicode.isSpace).reverse++(m.reverse.takeWhile Unicode.isSpace).reverse:=by
  have:=congrArg List.reverse (List.takeWhile_append_dropWhile (p:=Unicode.isSpace) (l:=m.reverse))
  rw [List.reverse_append,List.reverse_reverse] at this
  exact this.symm
 refine⟨l.takeWhile Unicode.isSpace,(m.reverse.takeWhile Unicode.isSpace).reverse,?_,I l,by rw [List.all_reverse];exact I _⟩
 have e3:codes (Txt.strip z)=(m.reverse.dropWhile Unicode.isSpace).reverse:=by
  unfold Txt.strip
  rw [stripBy_eq]
  show(z.cps.extract (z.cps.toList.takeWhile Unicode.isSpace).length (z.length - ((z.cps.toList.drop (z.cps.toList.takeWhile Unicode.isSpace).length).reverse.takeWhile Unicode.isSpace).length)).toList=_
  rw [Array.toList_extract]
  have U:z.cps.toList=l:=el.symm
  have aa:z.length=l.length:=by rw [<-U];simp [Str.length]
  rw [U,aa]
  have ed:l.drop (l.takeWhile Unicode.isSpace).length=m:=by
   have:=congrArg (List.drop (l.takeWhile Unicode.isSpace).length) e1
   rw [List.drop_left] at this
   exact this
  rw [List.extract_eq_drop_take,ed]
  have hlen:=congrArg List.length e1
  rw [List.length_append] at hlen
  have J:=congrArg List.length e2
  rw [List.length_append,List.length_reverse,List.length_reverse] at J
  have e4:l.length - (m.reverse.takeWhile Unicode.isSpace).length - (l.takeWhile Unicode.isSpace).length=(m.reverse.dropWhile Unicode.isSpace).reverse.length:=by rw [List.length_reverse];omega
  rw [e4]
  have:=congrArg (List.take (m.reverse.dropWhile Unicode.isSpace).reverse.length) e2
  rw [List.take_left] at this
  exact this
 rw [e3,<-e2,<-el]
 exact e1
theorem Mp.strip {ws:List Str}{x:Str}(h:Mp ws x)(ha:(codes x).all gZ=true):Mp ws (Txt.strip x):=fun r U=>by
 obtain⟨a,b,e,h1,h2⟩:=Hb x
 have J:∀ l:List Nat,(∀ c∈l,c∈codes x)->l.all Unicode.isSpace=true->l.all (fun c=> !pL c)=true:=fun l hl h=>List.all_eq_true.mpr fun c I=>by
  rw [EC c (rR (List.all_eq_true.mp ha c (hl c I))) (List.all_eq_true.mp h c I)]
  rfl
 refine h r ?_
 rw [e,qZ _ _ (J a (fun c I=>by rw [e];exact List.mem_append_left _ I) h1)]
 have h3:=J b (fun c I=>by rw [e];exact List.mem_append_right _ (List.mem_append_right _ I)) h2
 cases b with
 | nil=>rw [List.append_nil];exact U
 | cons s b=>
  rw [List.all_cons,Bool.and_eq_true] at h3
  rw [qV _ _ _ _ (by simpa using h3.1)]
  exact List.mem_append_left _ U
theorem Mp.cut {ws:List Str}{x y:Str}(h:Mp ws x){n:Nat}(e:codes y=(codes x).take n):Mp ws y:=fun r I=>by
 rw [e] at I
 obtain⟨J,h1,h2⟩:=vF _ _ _ I
 obtain⟨z,U,h3⟩:=h J h1
 exact⟨z,U,h2.trans h3⟩
def pres(ws:List Str):List Str:=ws.flatMap fun z=>(List.range 8).map fun n=>(⟨((codes z).take n).toArray⟩:Str)
theorem E4(ws:List Str):(pres ws).length=8 * ws.length:=by
 unfold pres
 induction ws with
 | nil=>rfl
 | cons z r I=>
  rw [List.flatMap_cons,List.length_append,I,List.length_map,List.length_range,List.length_cons]
  omega
theorem Mp.pres {ws:List Str}{x:Str}(h:Mp ws x)(hw:∀ z∈ws,Wm z):∀ y∈tw x,y∈K28.pres ws:=fun y I=>by
 rw [Fb] at I
 obtain⟨r,hr,rfl⟩:=List.mem_map.mp I
 obtain⟨z,J,hp⟩:=h r hr
 obtain⟨t,U⟩:=hp
 have hl:=(hw z J).1
 have aa:(codes z).length=z.length:=by unfold codes;simp [Str.length]
 have ab:r.length<=7:=by
  have:(r++t).length=(codes z).length:=by rw [U]
  rw [List.length_append] at this
  omega
 refine List.mem_flatMap.mpr ⟨z,J,List.mem_map.mpr ⟨r.length,List.mem_range.mpr (by omega),?_⟩⟩
 rw [<-U,List.take_left']
 rfl
theorem x9:∀(l:List Nat) (p:Bool),sc p l<=l.length
 | [],_=>Nat.le_refl _
 | c::l,p=>by
  have:=x9 l (pL c)
  show(if _ then _ else _) + sc _ l<=_
  rw [List.length_cons]
  split<;>omega
def An:Sp:=fun vs H Q _=>∃ n:Int,vs=[.int n]/\∀ a H' (ws:List Str),eZ H H'->H' a=some (.lst (ws.map V.str))->ws.length=5->(∀ z∈ws,Wm z)->Q (.ref a) H'
theorem kT:fU ["_law_number_here","_law_signs","_law_rest","_law_k","_law_size","_law_at","_law_found","_law_sign"] ["_law_number_here"] (fD m3):=⟨rfl,rfl,rfl,dk,rfl,dk,dk⟩
theorem Be:(["_law_j","_law_signs","_law_number_here"]:List Str).Nodup:=dk
theorem GY:(["_law_k","_law_rest"]:List Str).Nodup:=dk
seal fM PS PE PT PA PG PI fT fS in
theorem IZ{f fm:Addr}{fd fdm:FuncData}(D:Df K mg "_law_menu" m3 f fd)(DM:Df K mg "_law_mixed" lT fm fdm)(T:Txt mg):fx P w K mg base fE 2 f fd ["_law_number_here"] An:=by
 have GM:fx P w K mg base fE 1 fm fdm ["_law_number_here","_law_k"] pq:=sF DM
 have bM:=DM.F.binds (ps:=["_law_number_here","_law_k"]) fun _ _ _ _ _ _ us hl=>ix (fun _ _=>rfl) us hl
 refine D.F.ok kT (fun vs H Q E h=>?_) (fun cdv A outer s H vs Q E hr h=>?_)
 ·obtain⟨n,rfl,_⟩:=h
  rfl
 ·obtain⟨n,rfl,kk⟩:=h
  have hl:(sizeLine:Nat)=16777216:=sizeLine_eq
  refine⟨_,fq (fG (i:=1) kT.nd rfl (Or.inr rfl) gd)
   (fq (qa (gi je (fF gF (pv 0) fy) fy (f9 _)) (fA (fG (i:=1) kT.nd rfl (Or.inr rfl) gd)) gh)
   (fq (fG (i:=2) kT.nd rfl (Or.inr rfl) (gQ F.plainAttrs_str F.slot_str_join F.type_str_join wR gd (eY (il (own:=1) (caps:=[1,0]) (N:=["_law_j","_law_signs","_law_number_here"])
     (N0:=["_law_number_here","_law_signs","_law_rest","_law_k","_law_size","_law_at","_law_found","_law_sign"]) (sc0:=fD m3) rfl
    (lp rfl T.range (eY fy fe)) (fun _ _ _=>fR (i:=0) Be rfl (Or.inl rfl)) (fun _ _ _=>iL)
    (fun _ _ _=>gA rS (pv 1) (fF gF (fN GM hr rfl DM.m DM.F.kp bM .nil fL (eY (pv 2) (eY (fF gy fy (pv 0)) fe))) fy) (fun _ _=>rfl)) (gY (by decide)) rfl rfl
    dk rfl dk dk rfl dk) fe)))
   (fq (gj (gi je (fF gF (fF iU (pv 0) fy) fy) fy (f9 _))
    (fA (fP (il (own:=1) (caps:=[2]) (N:=["_law_k","_law_rest"])
     (N0:=["_law_number_here","_law_signs","_law_rest","_law_k","_law_size","_law_at","_law_found","_law_sign"]) (sc0:=fD m3) rfl
     (lp rfl T.range (eY fy fe)) (fun _ _ _=>fR (i:=0) GY rfl (Or.inl rfl)) (fun _ _ _=>iL)
     (fun _ _ _=>ig ka (pv 1) iD (g5 (fF gy (pv 0) fy))) (gY (by decide)) rfl rfl
     dk rfl dk dk rfl dk))) gh)
   (fq (fG (i:=4) kT.nd rfl (Or.inl rfl) (fF gF (fF iU (pv 0) fy) fy))
   (fq (fG (i:=5) kT.nd rfl (Or.inl rfl) (fF gF (fF iU (pv 0) fy) (fF gy (pv 4) fy)))
   (fq (fG (i:=6) kT.nd rfl (Or.inl rfl) (gf fe))
   (fq (gO PassesOwn.never rfl (lp rfl T.range (eY fy fe)) (fR (i:=3) kT.nd rfl (Or.inl rfl))
    (fq (fG (i:=7) kT.nd rfl (Or.inl rfl) (gA rS (pv 1) (fF gF (fF gy (fF iU (pv 0) fy) (fF kH fy (pv 3))) fy) (fun _ _=>rfl)))
    (fA (gB (gQ F.plainAttrs_list F.slot_list_append F.type_list_append iO (pv 6)
     (eY (fF mw (fF mw (ig ka (pv 2) iD (g5 (pv 5))) (pv 7)) (ig ka (pv 2) (g5 (pv 5)) (g5 (pv 4)))) fe))))))
   (fA (fP (pv 6)))))))))),?_⟩
  refine⟨fun ak H'=>H'=H/\∃ S:Str,S.cps.toList.all gc=true/\S.length=26/\ak=[some (.int n),some (.str S),none,none,none,none,none,none],?_,?_⟩
  ·refine⟨_,rfl,_,_,rfl,rfl,(by show(0:Int) < 3;decide),rfl,_,rfl,?_⟩
   refine jX (fun _=>?_) (fun _=>?_)
   ·exact⟨rfl,Str.ofString "0a1b2c3d4e5f6g7h8i9jklmnop",dk,dk,rfl⟩
   ·exact⟨rfl,Str.ofString "abcdefghijklmnopqrstuvwxyz",dk,dk,rfl⟩
  ·rintro ak H' ⟨rfl,S,hS,I,rfl⟩
   have J:(codes S).length=26:=by unfold codes;rw [str_len];exact I
   refine⟨rfl,6,rfl,by decide,by decide,qt (fun i ys H1=>H1=H'/\∃ cs:List Nat,cs.length=i/\cs.all gc=true/\ys=cs.map fun c=>V.str ⟨#[c]⟩) (by rw [hl];decide) ⟨rfl,[],rfl,rfl,rfl⟩ ?_ ?_⟩
   ·rintro i ys H1 N hi ⟨rfl,cs,hc,hok,rfl⟩ hN
    have ai:i < 6:=hi
    refine g1 ?_
    refine⟨_,rfl,_,rfl,_,rfl,_,_,rfl,rfl,_,_,rfl,by(clear ai hok hc hi J I hS hl;omega),by(clear ai hok hc J I hS hl;omega),fun r r0 r1=>?_⟩
    refine⟨_,_,rfl,rfl,(by show(0:Int) < 26;decide),?_⟩
    obtain⟨j,hj,aa⟩:=jo (r:=r) (n:=26) (by decide)
    have ae:j < (codes S).length:=by(clear aa r1 r0 ai hok hc hi I hS hl;omega)
    refine⟨S,_,(codes S)[j],rfl,rfl,by(clear ae aa hj r1 r0 ai hok hc hi J hS;omega),?_,hN _ _ ⟨rfl,cs++[(codes S)[j]],by simp [hc],by rw [List.all_append,hok];simp [vL (p:=gc) (l:=codes S) hS ae],by rw [List.map_append];rfl⟩⟩
    rw [<-hj]
    exact gR (List.getElem?_eq_getElem ae)
   ·rintro ys H1 ⟨rfl,cs,hc,hok,rfl⟩ _ p hp
    have U:cs.length=6:=hc
    refine⟨_,p,cs.map fun c=>(⟨#[c]⟩:Str),rfl,rfl,fj.of (by rw [fv,List.map_map];rfl),?_,?_⟩
    ·rw [yl,List.length_map]
     show cs.length + cs.length * 0<=_
     (clear U hp hok J I hS hl;omega)
    rw [join_eq]
    have sm:eZ H1 (upd H1 p (.lst (cs.map fun c=>V.str ⟨#[c]⟩))):=fC hp
    generalize hG:upd H1 p (.lst (cs.map fun c=>V.str ⟨#[c]⟩))=H2 at sm
    have hR:(⟨cs.toArray⟩:Str).cps.toList.all gc=true:=by simpa using hok
    have ag:(⟨cs.toArray⟩:Str).length=6:=by rw [jU];exact U
    generalize (⟨cs.toArray⟩:Str)=R at hR ag
    refine⟨_,rfl,_,_,rfl,rfl,⟨by decide,by decide⟩,_,_,rfl,rfl,(by show(0:Int) < 3;decide),rfl,_,rfl,?_⟩
    refine jX (fun _=>?_) (fun _=>?_)
    ·refine⟨5,rfl,by decide,by decide,qt (fun i ys H3=>H3=H2/\∃ ws:List Str,ws.length=i/\(∀ z∈ws,Wm z)/\ys=ws.map V.str) (by rw [hl];decide) ⟨rfl,[],rfl,fun z hz=>by simp at hz,rfl⟩ ?_ ?_⟩
     ·rintro i ys H3 N hi ⟨rfl,ws,hw,ab,rfl⟩ hN
      refine g1 ?_
      refine⟨_,rfl,_,rfl,_,_,rfl,rfl,_,rfl,R,rfl,by(clear hw hG hi hR U hp hok hc J I hS;omega),hN _ _ ⟨rfl,ws++[Txt.slice R none (some ((0:Int) + i + 1))],by simp [hw],fun z hz=>?_,by rw [List.map_append];rfl⟩⟩
      rcases List.mem_append.mp hz with q | q
      ·exact ab z q
      ·have e:z=Txt.slice R none (some ((0:Int) + i + 1)):=by simpa using q
       rw [e]
       have:=Txt.slice_le R none (some ((0:Int) + i + 1))
       exact⟨by(clear e hw hG hi hR U hp hok hc J I hS hl;omega),kQ _ _ hR⟩
     ·rintro ys H3 ⟨rfl,ws,hw,ab,rfl⟩ _ q hq
      exact kk q _ ws (sm.trans (fC hq)) fv hw ab
    ·refine⟨_,rfl,_,_,rfl,rfl,⟨by decide,by decide⟩,_,_,rfl,rfl,(by show(0:Int) < 5;decide),?_⟩
     have s0:=Int.emod_nonneg (n / 9) (show(5:Int)≠0 by decide)
     refine⟨_,rfl,_,_,rfl,rfl,⟨by decide,by decide⟩,_,rfl,_,_,rfl,rfl,_,_,rfl,rfl,(by show(0:Int) < n / 9 % 5 + 1;(clear s0 ag hR hG U hp hok hc J I hS hl;omega)),?_⟩
     refine⟨Nat.zero_le _,fun a ha=>?_⟩
     refine⟨5,rfl,by decide,by decide,sM (fun i σ H3=>∃(ws:List Str) (v3 v7:Option V),σ=[some (.int n),some (.str S),some (.str R),v3,some (.int (n / 9 % 5)),some (.int (n / 45 % (n / 9 % 5 + 1))),some (.ref a),v7]/\eZ H1 H3/\H3 a=some (.lst (ws.map V.str))/\ws.length=i/\∀ z∈ws,Wm z) ?_ ?_ ?_⟩
     ·exact⟨[],none,none,rfl,sm.trans (fC ha),fv,rfl,fun z hz=>by simp at hz⟩
     ·rintro i σ H3 hi ⟨ws,v3,v7,rfl,aj,hA,hw,ab⟩
      have af:i < 5:=hi
      refine⟨_,rfl,_,rfl,_,_,rfl,rfl,⟨by decide,by decide⟩,_,rfl,_,_,rfl,rfl,.inl ⟨by decide,by decide⟩,_,_,rfl,rfl,_,_,rfl,rfl,(by show(0:Int) < 26;decide),?_⟩
      obtain⟨j,hj,aa⟩:=jo (r:=n / 225 + 5 * (0 + (i:Int))) (n:=26) (by decide)
      have ae:j < (codes S).length:=by(clear aa af hw hA hi ha s0 ag hR hG U hp hok hc I hS hl;omega)
      refine⟨S,_,(codes S)[j],rfl,rfl,by(clear ae aa hj af hw hA hi ha s0 ag hR hG U hp hok hc J hS;omega),by rw [<-hj];exact gR (List.getElem?_eq_getElem ae),?_⟩
      have l1:=Txt.slice_le R none (some (n / 45 % (n / 9 % 5 + 1)))
      have l2:=Txt.slice_le R (some (n / 45 % (n / 9 % 5 + 1))) (some (n / 9 % 5))
      have ah:(⟨#[(codes S)[j]]⟩:Str).length=1:=rfl
      have ao:(Txt.slice R none (some (n / 45 % (n / 9 % 5 + 1)))).length + (Txt.slice R (some (n / 45 % (n / 9 % 5 + 1))) (some (n / 9 % 5))).length<=4:=by
       have z1:=Int.emod_lt_of_pos (n / 9) (show(0:Int) < 5 by decide)
       have z2:=Int.emod_lt_of_pos (n / 45) (show(0:Int) < n / 9 % 5 + 1 by omega)
       have z3:=Int.emod_nonneg (n / 45) (show n / 9 % 5 + 1≠0 by omega)
       have:=Ep (R:=R) z3 (show n / 45 % (n / 9 % 5 + 1)<=n / 9 % 5 by omega) (by rw [ag];omega)
       omega
      refine⟨_,rfl,.inl ⟨rfl,_,fj.of hA⟩,_,rfl,_,rfl,_,rfl,R,rfl,by(clear ah l2 l1 ae aa hj af hw hA hi ha s0 hR hG U hp hok hc J I hS;omega),_,rfl,_,_,rfl,rfl,by(clear l2 aa hj af hw hA hi ha s0 hR hG U hp hok hc J I hS;omega),_,rfl,_,rfl,_,rfl,_,rfl,_,rfl,R,rfl,by(clear ah l2 l1 ae aa hj af hw hA hi ha s0 hR hG U hp hok hc J I hS;omega),_,_,rfl,rfl,by rw [PySem.Str.length_append];(clear aa hj af hw hA hi ha s0 hR hG U hp hok hc J I hS;omega),?_⟩
      have aq:a≠a->False:=fun z=>z rfl
      refine⟨a,_,_,rfl,rfl,hA,by simp;(clear ah l2 l1 ae aa hj af hA ha s0 ag hR hG U hp hok hc J I hS;omega),?_⟩
      refine⟨ws++[Txt.slice R none (some (n / 45 % (n / 9 % 5 + 1)))++⟨#[(codes S)[j]]⟩++Txt.slice R (some (n / 45 % (n / 9 % 5 + 1))) (some (n / 9 % 5))],_,_,rfl,fun b u e=>?_,by rw [fv,List.map_append];rfl,by simp [hw],fun z hz=>?_⟩
      ·have hb:b≠a:=fun z=>by subst z;rw [sm.free ha] at e;cases e
       rw [fB hb];exact aj b u e
      ·rcases List.mem_append.mp hz with q | q
       ·exact ab z q
       ·have e:z=Txt.slice R none (some (n / 45 % (n / 9 % 5 + 1)))++⟨#[(codes S)[j]]⟩++Txt.slice R (some (n / 45 % (n / 9 % 5 + 1))) (some (n / 9 % 5)):=by simpa using q
        rw [e]
        refine⟨by rw [PySem.Str.length_append,PySem.Str.length_append];(clear e aa hj af hw hA hi ha s0 hR hG U hp hok hc J I hS hl;omega),nY (nY (kQ _ _ hR) ?_) (kQ _ _ hR)⟩
        simp [vL (p:=gc) (l:=codes S) hS ae]
     ·rintro σ H3 ⟨ws,v3,v7,rfl,aj,hA,hw,ab⟩
      exact⟨_,rfl,kk a H3 ws aj hA hw ab⟩
theorem oM{ss:List Str}{n L:Int}(h0:0 < ss.length)(hL:L=(ss.length:Nat)):∃ z∈ss,jv (ss.map V.str) (n % L)=some (.str z):=by
 obtain⟨v,I,e⟩:=Hk (xs:=ss.map V.str) (n:=n) (L:=L) (by rw [List.length_map];exact h0) (by rw [List.length_map];exact hL)
 obtain⟨z,J,rfl⟩:=List.mem_map.mp I
 exact⟨z,J,e⟩
def kd:List Str:=[" ","  ",", ","\n","-",". "," [","] ","_"," \\ ","/","; "]
def oE:List Str:=["",""," ","\n\n","- "]
theorem Ez:∀ z∈kd,z.length<=3/\z.cps.toList.all gZ=true:=dk
theorem Cz:∀ z∈oE,z.length<=2/\z.cps.toList.all gZ=true:=dk
theorem IY(z:Str):(Txt.strip z).length<=z.length:=by
 unfold Txt.strip
 rw [stripBy_eq]
 show(z.cps.extract _ _).size<=z.cps.size
 rw [Array.size_extract]
 omega
theorem yb:∀ z∈kd,z.cps.toList.all (fun c=> !pL c)=true:=dk
theorem yr:∀ z∈oE,z.cps.toList.all (fun c=> !pL c)=true:=dk
theorem Ec:∀ z∈kd,codes z≠[]:=dk
theorem zV:∀ c,c < 128->gc c=true->K01.lo c=c/\K01.lo (up1 c)=c:=dk
theorem uQ{z:Str}(h:z.cps.toList.all gc=true):(codes z).map K01.lo=codes z:=by
 have:∀ c∈codes z,K01.lo c=id c:=fun c I=>(zV c (ko (List.all_eq_true.mp h c I)) (List.all_eq_true.mp h c I)).1
 rw [List.map_congr_left this,List.map_id]
theorem wz{z:Str}(h:z.cps.toList.all gc=true):(codes (Txt.upper z)).map K01.lo=codes z:=by
 unfold codes
 rw [upper_ascii fun c I=>ko (List.all_eq_true.mp h c I),Array.toList_map,List.map_map]
 have:∀ c∈z.cps.toList,(K01.lo ∘ up1) c=id c:=fun c I=>(zV c (ko (List.all_eq_true.mp h c I)) (List.all_eq_true.mp h c I)).2
 rw [List.map_congr_left this,List.map_id]
theorem By(z:Str):codes (Txt.slice z none (some 1))++codes (Txt.slice z (some 1) none)=codes z:=by
 have l:z.cps.toList.length=z.length:=by simp [Str.length]
 by_cases h:z.length=0
 ·have a:=Txt.slice_le z none (some 1)
  have b:=Txt.slice_le z (some 1) none
  have nil:∀ y:Str,y.length=0->codes y=[]:=fun y I=>List.length_eq_zero_iff.mp (by unfold codes;simpa [Str.length] using I)
  rw [nil _ (by omega),nil _ (by omega),nil _ h]
  rfl
 ·have J:Txt.slice z none (some 1)=_:=PySem.StrLaws.sliceText_to ⟨by decide,by omega⟩
  have U:Txt.slice z (some 1) none=_:=PySem.StrLaws.sliceText_from ⟨by decide,by omega⟩
  rw [J,U]
  unfold codes
  show(List.take (1 - 0:Int).toNat (List.drop 0 z.cps.toList)).toArray.toList++(List.take ((z.cps.toList.length:Int) - 1).toNat (List.drop (Int.toNat 1) z.cps.toList)).toArray.toList=z.cps.toList
  have hh:(List.drop (Int.toNat 1) z.cps.toList).length<=((z.cps.toList.length:Int) - 1).toNat:=by rw [List.length_drop,show Int.toNat 1=1 from rfl];omega
  rw [List.take_of_length_le hh]
  exact List.take_append_drop 1 z.cps.toList
def vK:Sp:=fun vs H Q _=>∃(n:Int) (a:Addr) (ws:List Str) (m:Nat),vs=[.int n,.ref a,.int m]/\m<=150/\H a=some (.lst (ws.map V.str))/\1<=ws.length/\(∀ z∈ws,Wm z)/\∀ x H',eZ H H'->x.length<=2000->(codes x).all gZ=true->(tw x).length<=m->Mp ws x->Q (.str x) H'
theorem mj:fU ["_law_number_here","_law_menu_here","_law_many","_law_between","_law_text_here","_law_k","_law_more","_law_word"] ["_law_number_here","_law_menu_here","_law_many"] (fD om):=⟨rfl,rfl,rfl,dk,rfl,dk,dk⟩
seal fM PS PE PT PA PG PI fT fS in
theorem IT{f fm:Addr}{fd fdm:FuncData}(D:Df K mg "_law_text" om f fd)(DM:Df K mg "_law_mixed" lT fm fdm)(T:Txt mg):fx P w K mg base fE 2 f fd ["_law_number_here","_law_menu_here","_law_many"] vK:=by
 have GM:fx P w K mg base fE 1 fm fdm ["_law_number_here","_law_k"] pq:=sF DM
 have bM:=DM.F.binds (ps:=["_law_number_here","_law_k"]) fun _ _ _ _ _ _ us hl=>ix (fun _ _=>rfl) us hl
 refine D.F.ok mj (fun vs H Q E h=>?_) (fun cdv A outer s H vs Q E hr h=>?_)
 ·obtain⟨n,a,ws,m,rfl,_⟩:=h
  rfl
 ·obtain⟨n,a,ws,m,rfl,hm,hA,h5,av,kk⟩:=h
  have hl:(sizeLine:Nat)=16777216:=sizeLine_eq
  refine⟨_,fq (fG (i:=3) mj.nd rfl (Or.inl rfl) (gf (eY gd (eY gd (eY gd (eY gd (eY gd (eY gd (eY gd (eY gd (eY gd (eY gd (eY gd (eY gd fe))))))))))))))
   (fq (fG (i:=4) mj.nd rfl (Or.inl rfl) (gA g6 (gf (eY gd (eY gd (eY gd (eY gd (eY gd fe)))))) (fF gF (pv 0) fy) (fun _ _=>rfl)))
   (fq (gO PassesOwn.never rfl (lp rfl T.range (eY (pv 2) fe)) (fR (i:=5) mj.nd rfl (Or.inl rfl))
    (fq (fG (i:=6) mj.nd rfl (Or.inl rfl) (fN GM hr rfl DM.m DM.F.kp bM .nil fL (eY (pv 0) (eY (pv 5) fe))))
    (fq (fG (i:=7) mj.nd rfl (Or.inl rfl) (gA g6 (pv 1) (fF gF (pv 6) (gn iE rfl T.len g9 (eY (pv 1) fe))) (fun _ _=>rfl)))
    (fq (fG (i:=7) mj.nd rfl (Or.inl rfl) (gA g6 (gf (eY (pv 7) (eY (pv 7) (eY (qA F.plainAttrs_str F.slot_str_upper F.type_str_upper wW (pv 7))
      (eY (fF mw (qA F.plainAttrs_str F.slot_str_upper F.type_str_upper wW (ig ka (pv 7) iD (g5 fy))) (ig ka (pv 7) (g5 fy) iD)) fe)))))
      (fF gF (fF iU (pv 6) fy) fy) (fun _ _=>rfl)))
    (fA (fG (i:=4) mj.nd rfl (Or.inl rfl) (fF mw (fF mw (pv 4) (pv 7)) (gA g6 (pv 3) (fF gF (fF iU (pv 6) fy) fy) (fun _ _=>rfl)))))))))
   (fq (gj (gi je (fF gF (fF iU (pv 0) fy) fy) fy (f9 _)) (fA (fP (qA F.plainAttrs_str F.slot_str_strip F.type_str_strip FZ (pv 4)))) gh)
   (fA (fP (pv 4)))))),?_⟩
  refine⟨(by show 12<=sizeLine;(clear h5 hA hm;omega)),fun b hb=>⟨(by show 5<=sizeLine;(clear hb h5 hA hm;omega)),fun p hp=>?_⟩⟩
  have aw:eZ H (upd H b (.lst (kd.map V.str))):=fC hb
  change (upd H b (.lst (kd.map V.str))) p=none at hp
  obtain⟨x0,ao,e0⟩:=oM (ss:=oE) (n:=n) (L:=5) (by decide) rfl
  obtain⟨aa,J⟩:=Cz x0 ao
  refine⟨_,rfl,_,_,rfl,rfl,(by show(0:Int) < 5;decide),p,oE.map V.str,_,_,rfl,rfl,fj.of fv,e0,?_⟩
  have ax:eZ H (upd (upd H b (.lst (kd.map V.str))) p (.lst (oE.map V.str))):=eZ.upd aw hp
  have U:(upd (upd H b (.lst (kd.map V.str))) p (.lst (oE.map V.str))) b=some (.lst (kd.map V.str)):=by rw [fB (fW fv hp),fv]
  refine⟨_,rfl,m,rfl,by(clear U J aa e0 hp hb hl h5 hA hm;omega),by(clear U J aa e0 hp hb hl h5 hA;omega),?_⟩
  refine sM (fun i σ H'=>∃(x:Str) (v5 v6 v7:Option V),σ=[some (.int n),some (.ref a),some (.int m),some (.ref b),some (.str x),v5,v6,v7]/\eZ H H'/\H' b=some (.lst (kd.map V.str))/\x.length<=2 + 10 * i/\x.cps.toList.all gZ=true/\sc false (codes x)<=i/\Cl ws x) ?_ ?_ ?_
  ·exact⟨x0,none,none,none,rfl,ax,U,by(clear U J e0 hp hb hl h5 hA hm;omega),J,Nat.le_of_eq (uo _ _ (yr x0 ao)),Cl.none (yr x0 ao)⟩
  ·intro i σ H' hi hP
   refine yC fun B D' ay az=>?_
   obtain⟨x,v5,v6,v7,rfl,sm,hB,hx,I,ar,ah⟩:=hP
   have ab:i < m:=by simpa using hi
   refine ic (R:=B) ay fun R hR=>?_
   refine⟨_,rfl,_,rfl,_,_,rfl,by(clear ab I hx hB hi U J aa e0 hp hb hl h5 hA hm;omega),by(clear ab I hx hB U J aa e0 hp hb hl h5 hA;omega),fun r r0 r1=>?_⟩
   have ae:=sm _ _ hA
   obtain⟨z,hz,ez⟩:=oM (ss:=ws) (n:=r) (L:=((ws.map V.str).length:Nat)) (by(clear ae r1 r0 ab I hx hB hi U J aa e0 hp hb hl hA hm;omega)) (by rw [List.length_map])
   obtain⟨lz,oz⟩:=av z hz
   have af:=yn oz
   refine ic (R:=R) hR fun R hR=>?_
   refine⟨_,rfl,_,rfl,_,rfl,_,_,rfl,.inl (fj.of ae),_,_,rfl,rfl,(by show(0:Int) < (((ws.map V.str).length:Nat):Int);rw [List.length_map];(clear ae r1 r0 ab I hx hB hi U J aa e0 hp hb hl hA hm;omega)),a,_,_,_,rfl,rfl,fj.of ae,ez,?_⟩
   have s1:=Txt.slice_le z none (some 1)
   have s2:=Txt.slice_le z (some 1) none
   have aF:=Ee z
   obtain⟨u1,u2⟩:=zQ oz
   obtain⟨u3,u4⟩:=zQ (kQ none (some 1) oz)
   have u5:=yn (kQ (some 1) none oz)
   refine ic (R:=R) hR fun R hR=>?_
   refine⟨_,rfl,_,rfl,_,rfl,rfl,z,rfl,rfl,by(clear u5 u4 u3 u2 u1 s2 s1 af oz ez ae r1 r0 ab I hx hB hi U J aa e0 hp hb hl h5 hA hm;omega),_,rfl,_,rfl,z,rfl,by(clear u5 u4 u3 u2 u1 s2 s1 af oz ez ae r1 r0 ab I hx hB hi U J aa e0 hp hb h5 hA hm;omega),rfl,_,rfl,rfl,by(clear u5 u4 u3 u2 u1 s2 af oz ez ae r1 r0 ab I hx hB hi U J aa e0 hp hb hl h5 hA hm;omega),_,rfl,_,rfl,z,rfl,by(clear u5 u4 u3 u2 u1 s2 s1 af oz ez ae r1 r0 ab I hx hB hi U J aa e0 hp hb h5 hA hm;omega),_,_,rfl,rfl,by(clear u5 u3 u2 u1 af oz ez ae r1 r0 ab I hx hB hi U J aa e0 hp hb h5 hA hm;omega),(by show 4<=sizeLine;(clear u5 u4 u3 u2 u1 s2 s1 af oz lz ez ae r1 r0 ab I hx hB hi U J aa e0 hp hb h5 hA hm;omega)),fun q hq=>?_⟩
   refine⟨_,rfl,_,_,rfl,rfl,⟨by decide,by decide⟩,_,_,rfl,rfl,(by show(0:Int) < 4;decide),?_⟩
   obtain⟨y,hy,ey⟩:=oM (ss:=[z,z,Txt.upper z,Txt.upper (Txt.slice z none (some 1))++Txt.slice z (some 1) none]) (n:=r / 7) (L:=4) (by simp) rfl
   have aA:y.length<=7/\y.cps.toList.all gZ=true/\y.cps.toList.all pL=true/\(codes y).map K01.lo=codes z:=by
    have aB:y=z\/y=z\/y=Txt.upper z\/y=Txt.upper (Txt.slice z none (some 1))++Txt.slice z (some 1) none:=by simpa using hy
    rcases aB with e | e | e | e
    ·rw [e];exact⟨by(clear e ey hq u5 u4 u3 u2 u1 s2 s1 af oz ez ae r1 r0 ab I hx hB hi U J aa e0 hp hb hl h5 hA hm;omega),af,vy oz,uQ oz⟩
    ·rw [e];exact⟨by(clear e ey hq u5 u4 u3 u2 u1 s2 s1 af oz ez ae r1 r0 ab I hx hB hi U J aa e0 hp hb hl h5 hA hm;omega),af,vy oz,uQ oz⟩
    ·rw [e];exact⟨by(clear e ey hq u5 u4 u3 u1 s2 s1 af oz ez ae r1 r0 ab I hx hB hi U J aa e0 hp hb hl h5 hA hm;omega),u1,xG oz,wz oz⟩
    ·rw [e];exact⟨by rw [PySem.Str.length_append];(clear e ey hq u5 u3 u2 u1 af oz ez ae r1 r0 ab I hx hB hi U J aa e0 hp hb hl h5 hA hm;omega),nY u3 u5,nY (xG (kQ none (some 1) oz)) (vy (kQ (some 1) none oz)),by rw [qD,List.map_append,wz (kQ none (some 1) oz),uQ (kQ (some 1) none oz),By]⟩
   obtain⟨aG,ai,au,aC⟩:=aA
   refine⟨q,_,_,_,rfl,rfl,fj.of fv,ey,?_⟩
   obtain⟨t,ht,et⟩:=oM (ss:=kd) (n:=r / 31) (L:=12) (by decide) rfl
   obtain⟨aD,aj⟩:=Ez t ht
   have ag:(upd H' q (.lst [V.str z,V.str z,V.str (Txt.upper z),V.str (Txt.upper (Txt.slice z none (some 1))++Txt.slice z (some 1) none)])) b=some (.lst (kd.map V.str)):=by rw [fB (fW hB hq)];exact hB
   refine uB (R:=R) hR ?_
   refine⟨_,rfl,_,rfl,_,_,rfl,rfl,by(clear ag aj aD et ai ey hq u5 u4 u3 u2 u1 s2 s1 af oz lz ez ae r1 r0 ab I hB U J aa e0 hp hb h5 hA;omega),_,rfl,_,rfl,_,_,rfl,rfl,⟨by decide,by decide⟩,_,_,rfl,rfl,(by show(0:Int) < 12;decide),b,_,_,_,rfl,rfl,fj.of ag,et,_,_,rfl,rfl,by rw [PySem.Str.length_append];(clear ag aj et ai ey hq u5 u4 u3 u2 u1 s2 s1 af oz lz ez ae r1 r0 ab I hB U J aa e0 hp hb h5 hA;omega),?_⟩
   have aE:sc false (codes (x++y++t))<=i + 1:=by
    rw [qD,qD]
    have a1:=yF (codes x++codes y) (codes t)
    have a2:=yF (codes x) (codes y)
    have a3:=yL (codes y) false au
    have a4:=uo (codes t) false (yb t ht)
    rw [if_neg (by decide)] at a3
    omega
   exact az _ _ ⟨x++y++t,_,_,_,rfl,eZ.upd sm hq,ag,by rw [PySem.Str.length_append,PySem.Str.length_append];(clear ag aj et ai ey hq u5 u4 u3 u2 u1 s2 s1 af oz lz ez ae r1 r0 ab I hB hi U J aa e0 hp hb hl h5 hA hm;omega),nY (nY I ai) aj,aE,ah.go au hz aC (yb t ht) (Ec t ht)⟩
  ·rintro σ H' ⟨x,v5,v6,v7,rfl,sm,hB,hx,I,ar,ah⟩
   have ak:sc false (codes x)<=m:=by simpa using ar
   have aq:x.length<=2 + 10 * m:=by simpa using hx
   refine⟨_,rfl,_,_,rfl,rfl,⟨by decide,by decide⟩,_,_,rfl,rfl,(by show(0:Int) < 3;decide),rfl,_,rfl,?_⟩
   refine jX (fun _=>?_) (fun _=>?_)
   ·refine⟨_,rfl,rfl,x,rfl,rfl,by(clear aq I hB U J aa e0 hp hb h5 hA;omega),kk _ _ sm ?_ (Gx I) (by rw [uk];exact Nat.le_trans (IA x) ak) (ah.rp.strip I)⟩
    have:=IY x
    (clear aq I hB U J aa e0 hp hb hl h5 hA;omega)
   ·exact⟨_,rfl,kk _ _ sm (by(clear aq I hB U J aa e0 hp hb hl h5 hA;omega)) I (by rw [uk];exact ak) ah.rp⟩
end
theorem zL{z:Str}(h:∀ c∈z.cps.toList,c < 1114112):(PyData.str z).canLay0=true:=by
 show(z.cps.all fun c=>decide (c < 0x110000))=true
 rw [<-Array.all_toList,List.all_eq_true]
 exact fun c I=>decide_eq_true (h c I)
theorem HK{t:Str}(h:t.cps.toList.all gc=true):(PyData.str t).canLay0=true:=zL fun c I=>by
 have:=ko (List.all_eq_true.mp h c I)
 omega
def jA(ps:List (Str×Str)):List PyData:=ps.map fun p=> .tuple [.str p.1,.str p.2]
theorem oZ{K:W.Frag}{H:Hp}:∀{xs:List V} {ps:List (Str×Str)},gm H xs (ps.map kp)->i8 K H xs (jA ps)
 | [],[],_=> .nil
 | _::_,[],h=>by cases h
 | [],_::_,h=>by cases h
 | x::xs,p::ps,h=>by
  cases h with
  | cons h t=>
   obtain⟨q,rfl,I⟩:=h
   exact .cons (.tup (gb.of I) (.cons (.str _) (.cons (.str _) .nil))) (oZ t)
theorem p9:∀{ps:List (Str×Str)},(∀ p∈ps,fZ 12 (.str p.1)=true/\gq (.str p.2)=true)->(PyData.list (jA ps)).canLay0=true
 | [],_=>rfl
 | p::ps,h=>by
  obtain⟨h1,h2⟩:=h p List.mem_cons_self
  have a1:(PyData.str p.1).canLay0=true:=HK (by
   have h':(decide (1<=p.1.length) && decide (p.1.length<=12) && p.1.cps.toList.all gc)=true:=h1
   rw [Bool.and_eq_true] at h'
   exact h'.2)
  have a2:(PyData.str p.2).canLay0=true:=zL fun c I=>by
   have h':(decide (p.2.length<=2000) && p.2.cps.toList.all gZ)=true:=h2
   rw [Bool.and_eq_true] at h'
   have:=rR (List.all_eq_true.mp h'.2 c I)
   omega
  show(((PyData.str p.1).canLay0 && ((PyData.str p.2).canLay0 && true)) && (PyData.list (jA ps)).canLay0)=true
  rw [a1,a2,p9 fun q J=>h q (List.mem_cons_of_mem _ J)]
  rfl
theorem pD:∀ ps:List (Str×Str),(PyData.list (jA ps)).depth<=3
 | []=>by decide
 | p::ps=>by
  show max (max 0 (max 0 0) + 1) (PyData.depthAll (jA ps)) + 1<=3
  have I:PyData.depthAll (jA ps) + 1<=3:=pD ps
  omega
def ke(rows:List (List (Str×Str))):List PyData:=rows.map fun ps=> .list (jA ps)
def gL(H:Hp):List V->List (List (Str×Str))->Prop:=Paired fun v ps=>∃ p xs,v= .ref p/\H p=some (.lst xs)/\gm H xs (ps.map kp)
theorem gL.same {H H':Hp}{xs:List V}{t:List (List (Str×Str))}(h:gL H xs t)(s:eZ H H'):gL H' xs t:=Gn.Paired.imp2 h fun _ _ ⟨p,xs,e,q,r⟩=>⟨p,xs,e,s _ _ q,r.same s⟩
theorem me.rw {H0 H:Hp}{xs:List V}{t:List (List (Str×Str))}(h:me H0 H xs t):gL H xs t:=Gn.Paired.imp2 h fun _ _ ⟨p,xs,e,_,q,r⟩=>⟨p,xs,e,q,r⟩
theorem qf{K:W.Frag}{H:Hp}:∀{xs:List V} {rows:List (List (Str×Str))},gL H xs rows->i8 K H xs (ke rows)
 | [],[],_=> .nil
 | _::_,[],h=>by cases h
 | [],_::_,h=>by cases h
 | x::xs,p::ps,h=>by
  cases h with
  | cons h t=>
   obtain⟨q,ys,rfl,I,J⟩:=h
   exact .cons (.lst (fj.of I) (oZ J)) (qf t)
theorem xF:∀{rows:List (List (Str×Str))},(∀ ps∈rows,∀ p∈ps,fZ 12 (.str p.1)=true/\gq (.str p.2)=true)->(PyData.list (ke rows)).canLay0=true
 | [],_=>rfl
 | ps::rows,h=>by
  show((PyData.list (jA ps)).canLay0 && (PyData.list (ke rows)).canLay0)=true
  rw [p9 (h ps List.mem_cons_self),xF fun q I=>h q (List.mem_cons_of_mem _ I)]
  rfl
theorem xC:∀ rows:List (List (Str×Str)),(PyData.list (ke rows)).depth<=4
 | []=>by decide
 | ps::rows=>by
  show max (PyData.list (jA ps)).depth (PyData.depthAll (ke rows)) + 1<=4
  have h1:=pD ps
  have I:PyData.depthAll (ke rows) + 1<=4:=xC rows
  omega
theorem gN.all {pss:List (List (Str×Str))}(h:gN pss):∀ ps∈pss,∀ p∈ps,fZ 12 (.str p.1)=true/\gq (.str p.2)=true:=fun ps I p J=>h.g p (List.mem_flatten.mpr ⟨ps,I,J⟩)
theorem uz(xs:List V)(v:V):jv (xs++[v]) (-1)=some v:=by
 have e:jI (xs++[v]).length (-1)=some xs.length:=by
  unfold jI
  rw [List.length_append,List.length_singleton]
  rw [if_neg (by decide),if_pos (by omega)]
  congr 1
  omega
 unfold jv
 rw [e]
 simp
theorem yW(xs:List V)(u v:V):jv (xs++[u,v]) (-2)=some u:=by
 have e:jI (xs++[u,v]).length (-2)=some xs.length:=by
  unfold jI
  rw [List.length_append,show [u,v].length=2 from rfl]
  rw [if_neg (by decide),if_pos (by omega)]
  congr 1
  omega
 unfold jv
 rw [e]
 simp
theorem wJ(xs ys:List V){k:Int}(hk:k= -(ys.length:Int))(h:0 < ys.length):jb (xs++ys) none (some k)=xs:=by
 unfold jb
 have e:HT.iZ (xs++ys).length (xs++ys).length (some k)=xs.length:=by
  show(if k < 0 then (k + ((xs++ys).length:Int)).toNat else _)=_
  rw [if_pos (by omega),List.length_append]
  omega
 rw [e,HT.tX,List.drop_zero,Nat.sub_zero,List.take_left']
 rfl
theorem sV{α β:Type}{F:α->β->Prop}:∀{l:List α} {a b:List β},Paired F l (a++b)->∃ l1 l2,l=l1++l2/\Paired F l1 a/\Paired F l2 b
 | l,[],b,h=>⟨[],l,rfl,.nil,h⟩
 | _,x::a,b,.cons h t=>by
  obtain⟨l1,l2,e,h1,h2⟩:=sV t
  exact⟨_::l1,l2,by rw [e];rfl,.cons h h1,h2⟩
theorem tS{α β:Type}{F:α->β->Prop}{l:List α}{b:β}(h:Paired F l [b]):∃ a,l=[a]/\F a b:=by
 cases h with
 | cons h t=>
  cases t
  exact⟨_,rfl,h⟩
section
variable {P : Program} {w : World} {K : PySem.W.Frag} {mg : Str -> Option Value} {base : Heap} {C CH : Addr}
def Dh(K:W.Frag):R2:=fun x y H Q=>∃ dx I,jg K H x dx/\jg K H y I/\dx.canLay0=true/\I.canLay0=true/\min dx.depth I.depth<=100/\Q (.bl (!PyData.eqv dx I)) H
theorem IM{X:Cx}{K:W.Frag}(h:X.K=K)(hu:X.A.units + 100 < cLine):g7 X (compareOp .NotEq) (Dh K):=by subst h;exact oJ hu
theorem EK{X:Cx}{K:W.Frag}{tg l:Expr}{tl:TE}(h:X.K=K)(hl:PE X l tl):PI X tg l (uN K tl):=by subst h;exact gK hl
def ug:Sp:=fun vs H Q _=>∃(U:Addr) (rs:List V) (I:List (List (Str×Str))) (k t:Str),vs=[.ref U,.str k,.str t]/\H U=some (.lst rs)/\gL H rs I/\I.length<=90/\I.flatten.length<=150/\
 ∀ l J H',eZ H H'->H l=none->H' l=some (.lst J)->gL H' J (jE I [(k,t)])->(∀ p,V.ref p∈J->V.ref p∈rs\/H p=none)->Q (.ref l) H'
theorem vo:fU ["_law_rows","_law_key","_law_text_here"] ["_law_rows","_law_key","_law_text_here"] (fD oh):=⟨rfl,rfl,rfl,dk,rfl,dk,dk⟩
def pI(σ:L2.St)(H:Hp):Nat:=match σ with | some (.ref l)::_=>(match H l with | some (.lst xs)=>xs.length | _=>0) | _=>0
theorem Ae{l:Addr}{r:L2.St}{H:Hp}{xs:List V}(h:H l=some (.lst xs)):pI (some (.ref l)::r) H=xs.length:=by unfold pI;simp only [h]
seal fM PS PE PT PA PG PI fT fS in
theorem Et{f:Addr}{fd:FuncData}(D:Df K mg "_law_put" oh f fd)(T:Txt mg):fx P w K mg base fE 1 f fd ["_law_rows","_law_key","_law_text_here"] ug:=by
 refine D.F.ok vo (fun vs H Q E h=>?_) (fun cdv A outer s H vs Q E hr h=>?_)
 ·obtain⟨rl,rs,aa,k,t,rfl,_⟩:=h
  rfl
 ·obtain⟨rl,rs,aa,k,t,rfl,aC,hR,ai,aD,kk⟩:=h
  have hz:(sizeLine:Nat)=16777216:=sizeLine_eq
  refine⟨_,fq (fG (i:=0) vo.nd rfl (Or.inl rfl) (fF oT (pv 0) (gf (eY (gf (eY (iV (eY (pv 1) (eY (pv 2) fe))) fe)) fe))))
   (fq (sh PassesOwn.never (PW.pt (jW (gi ju (gn iE rfl T.len g9 (eY (pv 0) fe)) fy (f9 _)) (kj (gi sS (gn iE rfl T.len g9 (eY (gA g6 (pv 0) (mr lV fy) (fun _ _=>rfl)) fe)) (gn iE rfl T.len g9 (eY (gA g6 (pv 0) (mr lV fy) (fun _ _=>rfl)) fe)) (f9 _)))))
    (fA (fG (i:=0) vo.nd rfl (Or.inl rfl) (fF oT (ig jK (pv 0) iD (g5 (mr lV fy))) (gf (eY (fF oT (gA g6 (pv 0) (mr lV fy) (fun _ _=>rfl)) (gA g6 (pv 0) (mr lV fy) (fun _ _=>rfl))) fe))))))
   (fA (fP (pv 0)))),?_⟩
  have bu:=Gn.Paired.len hR
  refine⟨_,rfl,_,rfl,_,rfl,(by show 2<=sizeLine;decide),fun tt aE=>?_⟩
  have s1:eZ H (upd H tt (.tup [.str k,.str t])):=fC aE
  have e1:upd H tt (.tup [.str k,.str t]) tt=some (.tup [.str k,.str t]):=fv
  generalize upd H tt (.tup [.str k,.str t])=H1 at s1 e1 ⊢
  refine⟨(by show 1<=sizeLine;decide),fun a ha=>?_⟩
  have s2:eZ H1 (upd H1 a (.lst [.ref tt])):=fC ha
  have e2:upd H1 a (.lst [.ref tt]) a=some (.lst [.ref tt]):=fv
  generalize upd H1 a (.lst [.ref tt])=H2 at s2 e2 ⊢
  refine⟨(by show 1<=sizeLine;decide),fun b hb=>?_⟩
  have s3:eZ H2 (upd H2 b (.lst [.ref a])):=fC hb
  have e3:upd H2 b (.lst [.ref a]) b=some (.lst [.ref a]):=fv
  generalize upd H2 b (.lst [.ref a])=H3 at s3 e3 ⊢
  have af:=(s1.trans s2).trans s3
  refine⟨rl,b,rs,[.ref a],rfl,rfl,af _ _ aC,e3,(by show rs.length + 1<=sizeLine;omega),fun l hl=>?_⟩
  have s4:eZ H3 (upd H3 l (.lst (rs++[.ref a]))):=fC hl
  have e4:upd H3 l (.lst (rs++[.ref a])) l=some (.lst (rs++[.ref a])):=fv
  generalize upd H3 l (.lst (rs++[.ref a]))=H4 at s4 e4 ⊢
  have aj:=af.trans s4
  have aF:gL H4 (rs++[.ref a]) (aa++[[(k,t)]]):=Gn.Paired.app (hR.same aj) ⟨a,_,rfl,(s3.trans s4) _ _ e2,.cons ⟨tt,rfl,((s2.trans s3).trans s4) _ _ e1⟩ .nil⟩
  refine rH (fun σ H'=>∃(l:Addr) (ab:List V) (A:List (List (Str×Str))) (X:List (Str×Str)),σ=[some (.ref l),some (.str k),some (.str t)]/\eZ H H'/\H l=none/\H' l=some (.lst ab)/\gL H' ab (A++[X])/\iA [(k,t)] aa.reverse=iA X A.reverse/\A.length<=90/\A.flatten.length + X.length<=151/\(∀ p,V.ref p∈ab->V.ref p∈rs\/H p=none)) pI
   ⟨l,_,aa,[(k,t)],rfl,aj,af.free hl,e4,aF,rfl,ai,by show _ + 1<=151;omega,fun p hp=>?hG0⟩ ?_ ?_
  case hG0=>
   rcases List.mem_append.mp hp with z | z
   ·exact .inl z
   ·rw [V.ref.inj (List.mem_singleton.mp z)]
    exact .inr (s1.free ha)
  ·rintro σ H' ⟨l,ab,A,X,rfl,sm,aG,J,ak,hm,ao,ag,aq⟩
   obtain⟨bz,bA,rfl,ah,aH⟩:=sV ak
   obtain⟨vX,rfl,pX,xX,rfl,ar,au⟩:=tS aH
   have bw:=Gn.Paired.len ah
   have bB:xX.length=X.length:=by have:=Gn.Paired.len au;rwa [List.length_map] at this
   refine⟨_,rfl,l,_,rfl,.inl (fj.of J),_,_,rfl,rfl,_,rfl,?_⟩
   have fin:(iA [(k,t)] aa.reverse).reverse=A++[X]->Q (.ref l) H':=fun e=>kk l _ H' sm aG J (by unfold jE;rw [e];exact ak) aq
   rcases List.eq_nil_or_concat A with rfl | ⟨A',Y,rfl⟩
   ·cases ah
    refine fO (fO ⟨_,rfl,fin ?_⟩)
    rw [hm]
    rfl
   ·rw [List.concat_eq_append] at *
    obtain⟨I,bC,rfl,av,aw⟩:=sV ah
    obtain⟨vY,rfl,pY,xY,rfl,ax,ay⟩:=tS aw
    have bx:=Gn.Paired.len av
    have bD:xY.length=Y.length:=by have:=Gn.Paired.len ay;rwa [List.length_map] at this
    have er:I++[V.ref pY]++[V.ref pX]=I++[V.ref pY,V.ref pX]:=by rw [List.append_assoc];rfl
    rw [List.length_append] at ao
    rw [List.flatten_append,List.length_append] at ag
    have bE:[Y].flatten.length=Y.length:=by simp
    rw [decide_eq_true (show(((I++[V.ref pY]++[V.ref pX]).length:Nat):Int) > 1 by rw [er,List.length_append];show((I.length + 2:Nat):Int) > 1;omega)]
    refine fY ⟨_,rfl,_,rfl,l,_,_,_,rfl,rfl,fj.of J,uz _ _,pX,_,rfl,.inl (fj.of ar),_,rfl,_,rfl,l,_,_,_,rfl,rfl,fj.of J,(by rw [er];exact yW _ _ _),pY,_,rfl,.inl (fj.of ax),_,_,rfl,rfl,_,rfl,?_⟩
    have em:iA X (A'++[Y]).reverse=if Y.length<=X.length then iA (Y++X) A'.reverse else X::Y::A'.reverse:=by rw [List.reverse_append];rfl
    by_cases hle:Y.length<=X.length
    ·rw [decide_eq_true (show((xX.length:Nat):Int) ≥ ((xY.length:Nat):Int) by omega)]
     rw [if_pos hle] at em
     refine fY ⟨_,rfl,_,rfl,_,rfl,l,_,rfl,fj.of J,fun c1 aI=>?_⟩
     have ec:jb (I++[V.ref pY]++[V.ref pX]) none (some (-2))=I:=by rw [er];exact wJ I _ rfl (by show 0 < 2;decide)
     rw [ec]
     have t1:eZ H' (upd H' c1 (.lst I)):=fC aI
     have f1:upd H' c1 (.lst I) c1=some (.lst I):=fv
     generalize upd H' c1 (.lst I)=G1 at t1 f1 ⊢
     refine⟨_,rfl,_,rfl,l,_,_,_,rfl,rfl,fj.of (t1 _ _ J),(by rw [er];exact yW _ _ _),_,rfl,_,rfl,l,_,_,_,rfl,rfl,fj.of (t1 _ _ J),uz _ _,pY,pX,_,_,rfl,rfl,t1 _ _ ax,t1 _ _ ar,by omega,fun U az=>?_⟩
     have t2:eZ G1 (upd G1 U (.lst (xY++xX))):=fC az
     have f2:upd G1 U (.lst (xY++xX)) U=some (.lst (xY++xX)):=fv
     generalize upd G1 U (.lst (xY++xX))=G2 at t2 f2 ⊢
     refine⟨(by show 1<=sizeLine;decide),fun c3 aJ=>?_⟩
     have t3:eZ G2 (upd G2 c3 (.lst [.ref U])):=fC aJ
     have f3:upd G2 c3 (.lst [.ref U]) c3=some (.lst [.ref U]):=fv
     generalize upd G2 c3 (.lst [.ref U])=G3 at t3 f3 ⊢
     refine⟨c1,c3,_,_,rfl,rfl,(t2.trans t3) _ _ f1,f3,(by show I.length + 1<=sizeLine;omega),fun l2 aA=>?_⟩
     have t4:eZ G3 (upd G3 l2 (.lst (I++[.ref U]))):=fC aA
     have f4:upd G3 l2 (.lst (I++[.ref U])) l2=some (.lst (I++[.ref U])):=fv
     generalize upd G3 l2 (.lst (I++[.ref U]))=G4 at t4 f4 ⊢
     have aB:=(t1.trans t2).trans t3
     have ae:=aB.trans t4
     refine⟨⟨l2,_,A',Y++X,rfl,sm.trans ae,(sm.trans aB).free aA,f4,Gn.Paired.app (gL.same av ae) ⟨U,_,rfl,(t3.trans t4) _ _ f2,?_⟩,hm.trans em,by omega,?_,fun p hp=>?_⟩,?_⟩
     ·rw [List.map_append]
      exact Gn.Paired.cat (ay.same ae) (au.same ae)
     ·rw [List.length_append]
      omega
     ·rcases List.mem_append.mp hp with z | z
      ·exact aq p (by rw [er];exact List.mem_append_left _ z)
      ·rw [V.ref.inj (List.mem_singleton.mp z)]
       exact .inr ((sm.trans t1).free az)
     ·show pI (some (V.ref l2)::_) G4 < pI (some (V.ref l)::_) H'
      rw [Ae f4,Ae J,er,List.length_append,List.length_append]
      show I.length + 1 < I.length + 2
      omega
    ·rw [decide_eq_false (show ¬ ((xX.length:Nat):Int) ≥ ((xY.length:Nat):Int) by omega)]
     rw [if_neg hle] at em
     refine fO ⟨_,rfl,fin ?_⟩
     rw [hm,em,List.reverse_cons,List.reverse_cons,List.reverse_reverse]
  ·intro σ H' Q1 Q2 hq h
   obtain⟨v0,e0,p,ys,ep,hs,i,j,ei,ej,c,ec,h⟩:=h
   refine⟨v0,e0,p,ys,ep,hs,i,j,ei,ej,c,ec,?_⟩
   by_cases hc:c=true
   ·rw [if_pos hc] at h ⊢
    obtain⟨a1,a2,a3,a4,a5,a6,a7,a8,a9,aK,aL,aM,aN,aO,aP,aQ,aR,aS,aT,aU,aV,aW,aX,aY,aZ,a0,ba,bb,bc,bf,bg,bh,bj,bo,bp,bq,br,bt,h⟩:=h
    exact⟨a1,a2,a3,a4,a5,a6,a7,a8,a9,aK,aL,aM,aN,aO,aP,aQ,aR,aS,aT,aU,aV,aW,aX,aY,aZ,a0,ba,bb,bc,bf,bg,bh,bj,bo,bp,bq,br,bt,hq _ _ h⟩
   ·rw [if_neg hc] at h ⊢
    exact hq _ _ h
def zy:Sp:=fun vs H Q _=>∃(J:Addr) (rs:List V) (I:List (List (Str×Str))),vs=[.ref J]/\H J=some (.lst rs)/\gL H rs I/\I.length<=90/\I.flatten.length<=150/\
 ∀ l xs H',eZ H H'->H l=none->H' l=some (.lst xs)->gm H' xs (I.flatten.map kp)->Q (.ref l) H'
theorem ux:fU ["_law_rows","_law_found","_law_row"] ["_law_rows"] (fD qx):=⟨rfl,rfl,rfl,dk,rfl,dk,dk⟩
seal fM PS PE PT PA PG PI fT fS in
theorem Iz{f:Addr}{fd:FuncData}(D:Df K mg "_law_laid" qx f fd):fx P w K mg base fE 1 f fd ["_law_rows"] zy:=by
 refine D.F.ok ux (fun vs H Q E h=>?_) (fun cdv A outer s H vs Q E hr h=>?_)
 ·obtain⟨rl,rs,J,rfl,_⟩:=h
  rfl
 ·obtain⟨rl,rs,J,rfl,aa,hR,ao,ah,kk⟩:=h
  have hz:(sizeLine:Nat)=16777216:=sizeLine_eq
  refine⟨_,fq (fG (i:=1) ux.nd rfl (Or.inl rfl) (gf fe))
   (fq (gO PassesOwn.never rfl (gK (pv 0)) (fR (i:=2) ux.nd rfl (Or.inl rfl))
    (fA (gB (gQ F.plainAttrs_list F.slot_list_extend F.type_list_extend qv (pv 1) (eY (pv 2) fe)))))
   (fA (fP (pv 1)))),?_⟩
  refine⟨(by show 0<=sizeLine;decide),fun pa U=>?_⟩
  have s1:eZ H (upd H pa (.lst [])):=fC U
  have e1:upd H pa (.lst []) pa=some (.lst []):=fv
  generalize upd H pa (.lst [])=H1 at s1 e1 ⊢
  have ai:=Gn.Paired.len hR
  refine⟨_,rfl,rl,rfl,⟨_,fj.of (s1 _ _ aa)⟩,?_⟩
  refine jl (xs:=rs) (fun i σ H'=>∃(o2:Option V) (xs:List V),σ=[some (.ref rl),some (.ref pa),o2]/\eZ H H'/\H' pa=some (.lst xs)/\gm H' xs ((J.take i).flatten.map kp)) ⟨none,[],rfl,s1,e1,.nil⟩ ?_ ?_ ?_
  ·rintro i σ H' _ ⟨_,_,_,sm,_⟩
   exact fj.of (sm _ _ aa)
  ·rintro i v σ H' hv ⟨o2,xs,rfl,sm,I,hP⟩
   obtain⟨ps,ab,p,ys,rfl,hp,ae⟩:=gW hR hv
   have aj:=Gn.Paired.len hP
   have ak:=Gn.Paired.len ae
   rw [List.length_map] at aj ak
   have ht:=(rA J (i + 1)).length_le
   rw [qr ab,List.length_append] at ht
   refine⟨_,rfl,.inl ⟨rfl,_,fj.of I⟩,_,rfl,pa,p,xs,ys,rfl,rfl,I,sm _ _ hp,by omega,?_⟩
   refine⟨_,_,rfl,fun b u e=>(fB (fW e U)).trans (sm _ _ e),fv,?_⟩
   rw [qr ab,List.map_append]
   have nt:∀{b:Addr} {ts:List V},H' b=some (.tup ts)->b≠pa:=fun e z=>by rw [z,I] at e;cases e
   exact Gn.Paired.cat (Gn.Paired.imp2 hP fun _ _ ⟨b,e,z⟩=>⟨b,e,(fB (nt z)).trans z⟩) (Gn.Paired.imp2 (ae.same sm) fun _ _ ⟨b,e,z⟩=>⟨b,e,(fB (nt z)).trans z⟩)
  ·rintro σ H2 ⟨o2,xs,rfl,s2,af,ag⟩
   rw [ai,List.take_length] at ag
   exact⟨_,rfl,kk pa xs H2 s2 U af ag⟩
theorem xZ:(["_law_pair","_law_key"]:List Str).Nodup:=dk
theorem BO:(["_law_row","_law_key"]:List Str).Nodup:=dk
theorem vg:(["_law_row"]:List Str).Nodup:=dk
abbrev ya:List Str:=["_law_rows","_law_key","_law_left"]
def BB:TE:=fun σ H Q=>∃(U:Addr) (rs:List V) (I:List (List (Str×Str))) (k:Str),σ[0]? =some (some (.ref U))/\σ[1]? =some (some (.str k))/\H U=some (.lst rs)/\gL H rs I/\I.length<=90/\(∀ ps∈I,ps.length<=150)/\
 ∀ l J H',eZ H H'->H l=none->H' l=some (.lst J)->gL H' J (I.map (wo k))->(∀ p,V.ref p∈J->H p=none)->Q (.ref l) H'
def AY(K:W.Frag):TE:=fun σ H Q=>∃(U:Addr) (rs:List V) (I:List (List (Str×Str))),σ[2]? =some (some (.ref U))/\H U=some (.lst rs)/\gL H rs I/\I.length<=90/\(∀ ps∈I,∀ p∈ps,fZ 12 (.str p.1)=true/\gq (.str p.2)=true)/\
 ∀ l J H',eZ H H'->H l=none->H' l=some (.lst J)->gL H' J (iB I)->(∀ v∈J,v∈rs)->Q (.ref l) H'
def yX(K:W.Frag):Sp:=fun vs H Q _=>∃(U:Addr) (rs:List V) (I:List (List (Str×Str))) (k:Str),vs=[.ref U,.str k]/\H U=some (.lst rs)/\gL H rs I/\gN I/\
 ∀ l J H',eZ H H'->H l=none->H' l=some (.lst J)->gL H' J (kU k I)->(∀ p,V.ref p∈J->H p=none)->Q (.ref l) H'
theorem wM:fU ["_law_rows","_law_key","_law_left"] ["_law_rows","_law_key"] (fD kL):=⟨rfl,rfl,rfl,dk,rfl,dk,dk⟩
def BR:Stmt->Scope
 | .Assign _ (.ListComp _ _ sc _) _=>sc
 | s=>fD s
abbrev FF:Scope:=BR ((gH kL).getD 0 (.Pass ⟨0,0,0,0⟩))
abbrev HL:Scope:=relabel FF (envOfC "" (fD kL) 0 0 .none)
seal fM PS PE PT PA PG PI fT fS in
theorem Iy{f:Addr}{fd:FuncData}(D:Df K mg "_law_without" kL f fd):fx P w K mg base fE 1 f fd ["_law_rows","_law_key"] (yX K):=by
 refine D.F.ok wM (fun vs H Q E h=>?_) (fun cdv A outer s H vs Q E hr h=>?_)
 ·obtain⟨rl,rs,I,k,rfl,_⟩:=h
  rfl
 ·obtain⟨rl,rs,I,k,rfl,J,hR,hok,kk⟩:=h
  have hz:(sizeLine:Nat)=16777216:=sizeLine_eq
  refine⟨_,fq (yu (i:=2) (t':=BB) wM.nd rfl (Or.inl rfl) (own:=1) (caps:=[1]) (N:=["_law_row","_law_key"]) (N0:=ya) (sc0:=fD kL) rfl (gK (pv 0))
    (fun _ _ _=>fR (i:=0) BO rfl (Or.inl rfl)) (fun _ _ _=>iL)
    (fun _ _ _=>il (own:=1) (caps:=[1]) (N:=["_law_pair","_law_key"]) (N0:=["_law_row","_law_key"]) (sc0:=HL) rfl (EK (K:=K) rfl (pv 0))
     (fun _ _ _=>fR (i:=0) xZ rfl (Or.inl rfl)) (fun _ _ _=>qE (gi qL (gA (zm (K:=K) rfl) (pv 0) fy (fun _ _=>rfl)) (pv 1) (f9 _))) (fun _ _ _=>pv 0) (gY (by decide)) rfl rfl
     dk rfl dk dk rfl dk) (gY (by decide)) rfl rfl
    dk rfl dk dk rfl dk ?mL)
   (fA (fP (PE.imp (t':=AY K) (il (own:=1) (caps:=[]) (N:=["_law_row"]) (N0:=ya) (sc0:=fD kL) rfl (gK (pv 2))
    (fun _ _ _=>fR (i:=0) vg rfl (Or.inl rfl)) (fun _ _ _=>qE (gi (IM (K:=K) rfl hr.units100) (pv 0) (gf fe) (f9 _))) (fun _ _ _=>pv 0) (gY (by decide)) rfl rfl
    dk rfl dk dk rfl dk) ?mN))),?_⟩
  case mL=>
   rintro σ H1 Q1 ⟨rl,rs,I,k,h0,h1,J,hR,ak,ai,q⟩
   have aj:=Gn.Paired.len hR
   refine⟨_,h0,rl,rfl,⟨_,fj.of J⟩,jk (xs:=rs) (fun i ys H'=>eZ H1 H'/\gL H' ys ((I.take i).map (wo k))/\∀ p,V.ref p∈ys->H1 p=none) (by omega) (fun i ys H' p=>fj.of (p.1 _ _ J)) ⟨eZ.refl _,.nil,fun p U=>nomatch U⟩ ?_ ?_⟩
   ·rintro i v ys H' N hv ⟨sm,hY,ae⟩ hN
    obtain⟨ps,af,p,xs,rfl,U,hP⟩:=gW hR hv
    have hl:=ai ps (List.mem_of_getElem? af)
    have ah:=Gn.Paired.len hP
    rw [List.length_map] at ah
    have ar:=hP.same sm
    refine g1 ?_
    have e1:(σ[1]?).join=some (V.str k):=by rw [h1];rfl
    show qd 1 [1] _ _ _ _ [some (V.ref p),(σ[1]?).join] H' _
    rw [e1]
    refine⟨_,rfl,p,rfl,⟨_,fj.of (sm _ _ U)⟩,jk (xs:=xs) (fun j zs H2=>H2=H'/\gm H' zs ((wo k (ps.take j)).map kp)) (by omega) (fun j zs H2 e=>by rw [e.1];exact fj.of (sm _ _ U)) ⟨rfl,.nil⟩ ?_ ?_⟩
    ·rintro j u zs H2 N2 hu ⟨rfl,hZ⟩ ao
     obtain⟨kt,ag,tp,rfl,aq⟩:=gW ar hu
     rw [List.getElem?_map] at ag
     cases hpj:ps[j]? with
     | none=>rw [hpj] at ag;cases ag
     | some pr=>
      rw [hpj] at ag
      have e:=Option.some.inj ag
      subst e
      refine⟨_,rfl,tp,_,_,_,rfl,rfl,gb.of aq,gR (j:=0) rfl,_,rfl,rfl,_,rfl,?_⟩
      show(if (!decide (V.str pr.1=V.str k))=true then _ else _)
      have ew:wo k (ps.take (j + 1))=wo k (ps.take j)++wo k [pr]:=by unfold wo;rw [take_snoc hpj,List.filter_append]
      by_cases hk:pr.1=k
      ·rw [decide_eq_true (show(V.str pr.1=V.str k) by rw [hk])]
       refine fO (ao _ _ ⟨rfl,?_⟩)
       have:wo k [pr]=[]:=by unfold wo;rw [List.filter_cons,decide_eq_true hk];rfl
       rw [ew,this,List.append_nil]
       exact hZ
      ·rw [decide_eq_false (show ¬ (V.str pr.1=V.str k) from fun z=>hk (V.str.inj z))]
       refine fY ⟨_,rfl,ao _ _ ⟨rfl,?_⟩⟩
       have:wo k [pr]=[pr]:=by unfold wo;rw [List.filter_cons,decide_eq_false hk];rfl
       rw [ew,this,List.map_append]
       exact Gn.Paired.app hZ ⟨tp,rfl,aq⟩
    ·rintro zs H2 ⟨rfl,hZ⟩ _ c hc
     rw [ah,List.take_length] at hZ
     refine hN _ _ ⟨eZ.upd sm hc,?_,fun p' au=>?_⟩
     ·rw [take_snoc af,List.map_append]
      exact Gn.Paired.app (hY.same (fC hc)) ⟨c,_,rfl,fv,hZ.same (fC hc)⟩
     ·rcases List.mem_append.mp au with z | z
      ·exact ae p' z
      ·rw [V.ref.inj (List.mem_singleton.mp z)]
       exact sm.free hc
   ·rintro ys H' ⟨sm,hY,ae⟩ _ l hl
    rw [aj,List.take_length] at hY
    exact q l ys _ (eZ.upd sm hl) (sm.free hl) fv (hY.same (fC hl)) ae
  case mN=>
   rintro σ H1 Q1 ⟨rl,rs,I,h2,J,hR,ak,hg,q⟩
   have aj:=Gn.Paired.len hR
   refine⟨_,h2,rl,rfl,⟨_,fj.of J⟩,jk (xs:=rs) (fun i ys H'=>eZ H1 H'/\gL H' ys (iB (I.take i))/\∀ v∈ys,v∈rs) (by omega) (fun i ys H' p=>fj.of (p.1 _ _ J)) ⟨eZ.refl _,.nil,fun v hv=>nomatch hv⟩ ?_ ?_⟩
   ·rintro i v ys H' N hv ⟨sm,hY,aa⟩ hN
    obtain⟨ps,af,p,xs,rfl,U,hP⟩:=gW hR hv
    refine⟨_,rfl,(by show 0<=sizeLine;decide),fun c hc=>?_⟩
    have s1:eZ H' (upd H' c (.lst [])):=fC hc
    have e1:upd H' c (.lst []) c=some (.lst []):=fv
    generalize upd H' c (.lst [])=H2 at s1 e1 ⊢
    have ab:=sm.trans s1
    refine⟨.list (jA ps),.list [],.lst (fj.of (ab _ _ U)) (oZ (hP.same ab)),.lst (fj.of e1) .nil,p9 (hg ps (List.mem_of_getElem? af)),rfl,(by have:=pD ps;omega),_,rfl,?_⟩
    have en:iB (I.take (i + 1))=iB (I.take i)++iB [ps]:=by rw [take_snoc af];unfold iB;rw [List.filter_append]
    cases ps with
    | nil=>
     refine fO (hN _ _ ⟨ab,?_,aa⟩)
     rw [en]
     show gL H2 ys (iB (I.take i)++[])
     rw [List.append_nil]
     exact hY.same s1
    | cons a b=>
     refine fY ⟨_,rfl,hN _ _ ⟨ab,?_,fun u hu=>?_⟩⟩
     ·rw [en]
      exact Gn.Paired.app (hY.same s1) ⟨p,xs,rfl,ab _ _ U,hP.same ab⟩
     ·rcases List.mem_append.mp hu with z | z
      ·exact aa u z
      ·rw [List.mem_singleton.mp z]
       exact List.mem_of_getElem? hv
   ·rintro ys H' ⟨sm,hY,aa⟩ _ l hl
    rw [aj,List.take_length] at hY
    exact q l ys _ (eZ.upd sm hl) (sm.free hl) fv (hY.same (fC hl)) aa
  refine⟨rl,rs,I,k,rfl,rfl,J,hR,hok.l,fun ps U=>Nat.le_trans (j3 U).length_le hok.p,fun l av H1 s1 hl aw ax ay=>?_⟩
  have aC:gN (kU k I):=hok.sub (vS k I) (Nat.le_trans (uL k I) hok.l)
  refine⟨l,av,I.map (wo k),rfl,aw,ax,(by rw [List.length_map];exact hok.l),fun ps U p hq=>?_,fun l2 az H2 s2 ah aA aB aa=>kk l2 az H2 (s1.trans s2) (s1.free ah) aA aB fun p U=>ay p (aa _ U)⟩
  obtain⟨qs,h1,h2⟩:=List.mem_map.mp U
  subst h2
  exact hok.all qs h1 p ((List.mem_filter.mp hq).1)
end
structure rK (ks : List Str) : Prop where
 n : ks.Nodup
 g : ∀ k ∈ ks, fZ 12 (.str k) = true
theorem xx{cs:List Nat}(h1:1<=cs.length)(h2:cs.length<=12)(h:cs.all gc=true):fZ 12 (.str ⟨cs.toArray⟩)=true:=by
 show(decide (1<=(⟨cs.toArray⟩:Str).length) && decide ((⟨cs.toArray⟩:Str).length<=12) && (⟨cs.toArray⟩:Str).cps.toList.all gc)=true
 rw [jU,decide_eq_true h1,decide_eq_true h2]
 simpa using h
theorem str_inj{a b:List Nat}(h:(⟨a.toArray⟩:Str)=⟨b.toArray⟩):a=b:=by
 have:(⟨a.toArray⟩:Str).cps.toList=(⟨b.toArray⟩:Str).cps.toList:=by rw [h]
 simpa using this
theorem qN{p:Nat->Bool}{l:List Nat}(n:Nat)(h:l.all p=true):(l.take n).all p=true:=List.all_eq_true.mpr fun c I=>List.all_eq_true.mp h c (List.mem_of_mem_take I)
theorem IE{p:Nat->Bool}{l:List Nat}(n:Nat)(h:l.all p=true):(l.drop n).all p=true:=List.all_eq_true.mpr fun c I=>List.all_eq_true.mp h c (List.mem_of_mem_drop I)
def ua(cs:List Nat)(j:Nat):Str:=⟨(cs.take (j + 1)).toArray⟩
def u7(a m:List Nat)(j:Nat):Str:=⟨(a++((codes iq).getD j 0::m)).toArray⟩
theorem zH{α:Type}{f:Nat->α}{n:Nat}(h:∀ i j,i < n->j < n->f i=f j->i=j):((List.range n).map f).Nodup:=by
 refine List.pairwise_map.mpr (List.Pairwise.imp_of_mem (fun{a b} ha hb I e=>I (h a b (List.mem_range.mp ha) (List.mem_range.mp hb) e)) List.nodup_range)
theorem Dn{cs:List Nat}{n:Nat}(hl:cs.length=12)(h:cs.all gc=true)(hn:n<=12):rK ((List.range n).map (ua cs)):=by
 refine⟨zH fun i j hi I e=>?_,fun k hk=>?_⟩
 ·have:=congrArg List.length (str_inj e)
  rw [List.length_take,List.length_take] at this
  omega
 ·obtain⟨j,I,rfl⟩:=List.mem_map.mp hk
  have:=List.mem_range.mp I
  exact xx (by rw [List.length_take];omega) (by rw [List.length_take];omega) (qN _ h)
theorem y1:(codes iq).length=36/\(codes iq).all gc=true/\(codes iq).Nodup:=dk
theorem Fs{a m:List Nat}{n:Nat}(ha:a.length<=7)(hm:m.length<=3)(h1:a.all gc=true)(h2:m.all gc=true)(hn:n<=36):rK ((List.range n).map (u7 a m)):=by
 obtain⟨s1,s2,s3⟩:=y1
 have I:∀ j,j < 36->(codes iq).getD j 0∈codes iq:=fun j J=>by
  rw [List.getD_eq_getElem?_getD,List.getElem?_eq_getElem (by omega)]
  exact List.getElem_mem _
 refine⟨zH fun i j hi J e=>?_,fun k hk=>?_⟩
 ·have e1:=List.append_cancel_left (str_inj e)
  have U:=(List.cons.inj e1).1
  rw [List.getD_eq_getElem?_getD,List.getD_eq_getElem?_getD,List.getElem?_eq_getElem (by omega),List.getElem?_eq_getElem (by omega)] at U
  exact(List.getElem_inj s3).mp U
 ·obtain⟨j,J,rfl⟩:=List.mem_map.mp hk
  have:=List.mem_range.mp J
  refine xx (by rw [List.length_append,List.length_cons];omega) (by rw [List.length_append,List.length_cons];omega) ?_
  rw [List.all_append,List.all_cons,h1,h2,List.all_eq_true.mp s2 _ (I j (by omega))]
  rfl
theorem rh{R:Str}{j:Int}(h0:0<=j)(h1:j<=R.length):Txt.slice R none (some j)=⟨((codes R).take j.toNat).toArray⟩:=by
 have l:R.cps.toList.length=R.length:=by simp [Str.length]
 have e:Txt.slice R none (some j)=_:=PySem.StrLaws.sliceText_to ⟨h0,by omega⟩
 rw [e,List.drop_zero,Int.sub_zero]
 rfl
theorem Eu{R:Str}{i j:Int}(h0:0<=i)(h1:i<=j)(h2:j<=R.length):Txt.slice R (some i) (some j)=⟨(((codes R).drop i.toNat).take (j - i).toNat).toArray⟩:=by
 have l:R.cps.toList.length=R.length:=by simp [Str.length]
 exact PySem.StrLaws.sliceText_plain ⟨h0,h1,by omega⟩
theorem xg(a b:List Nat):(⟨a.toArray⟩:Str)++(⟨b.toArray⟩:Str)=⟨(a++b).toArray⟩:=by
 have e:(⟨a.toArray⟩:Str)++(⟨b.toArray⟩:Str)=⟨a.toArray++b.toArray⟩:=rfl
 rw [e,List.append_toArray]
section
variable {P : Program} {w : World} {K : PySem.W.Frag} {mg : Str -> Option Value} {base : Heap} {C CH : Addr}
def vf:Sp:=fun vs H Q _=>∃(n:Int) (m:Nat),vs=[.int n,.int m]/\0<=n/\m<=26/\∀ l ks H',eZ H H'->H l=none->H' l=some (.lst (ks.map V.str))->ks.length=m->rK ks->Q (.ref l) H'
abbrev rQ:List Str:=["_law_number_here","_law_many","_law_signs","_law_rest","_law_at"]
theorem sH:fU rQ ["_law_number_here","_law_many"] (fD lE):=⟨rfl,rfl,rfl,dk,rfl,dk,dk⟩
theorem BP:(["_law_j","_law_signs","_law_number_here"]:List Str).Nodup:=dk
theorem A0:(["_law_k","_law_rest"]:List Str).Nodup:=dk
theorem EU:(["_law_k","_law_rest","_law_at","_law_signs","_law_number_here"]:List Str).Nodup:=dk
seal fM PS PE PT PA PG PI fT fS in
theorem ER{f fm:Addr}{fd fdm:FuncData}(D:Df K mg "_law_keys" lE f fd)(DM:Df K mg "_law_mixed" lT fm fdm)(T:Txt mg):fx P w K mg base fE 2 f fd ["_law_number_here","_law_many"] vf:=by
 have GM:fx P w K mg base fE 1 fm fdm ["_law_number_here","_law_k"] pq:=sF DM
 have bM:=DM.F.binds (ps:=["_law_number_here","_law_k"]) fun _ _ _ _ _ _ us hl=>ix (fun _ _=>rfl) us hl
 refine D.F.ok sH (fun vs H Q E h=>?_) (fun cdv A outer s H vs Q E hr h=>?_)
 ·obtain⟨n,m,rfl,_⟩:=h
  rfl
 ·obtain⟨n,m,rfl,aq,ai,kk⟩:=h
  have hl:(sizeLine:Nat)=16777216:=sizeLine_eq
  refine⟨_,fq (fG (i:=2) sH.nd rfl (Or.inr rfl) gd)
   (fq (fG (i:=3) sH.nd rfl (Or.inr rfl) (gQ F.plainAttrs_str F.slot_str_join F.type_str_join wR gd (eY (il (own:=1) (caps:=[2,0]) (N:=["_law_j","_law_signs","_law_number_here"])
     (N0:=rQ) (sc0:=fD lE) rfl
    (lp rfl T.range (eY fy fe)) (fun _ _ _=>fR (i:=0) BP rfl (Or.inl rfl)) (fun _ _ _=>iL)
    (fun _ _ _=>gA rS (pv 1) (fF gF (fN GM hr rfl DM.m DM.F.kp bM .nil fL (eY (pv 2) (eY (fF gy fy (pv 0)) fe))) fy) (fun _ _=>rfl)) (gY (by decide)) rfl rfl
    dk rfl dk dk rfl dk) fe)))
   (fq (gj (PW.pt (jW (gi je (fF gF (pv 0) fy) fy (f9 _)) (kj (gi lB (pv 1) fy (f9 _)))))
    (fA (fP (il (own:=1) (caps:=[3]) (N:=["_law_k","_law_rest"]) (N0:=rQ) (sc0:=fD lE) rfl
     (lp rfl T.range (eY (pv 1) fe)) (fun _ _ _=>fR (i:=0) A0 rfl (Or.inl rfl)) (fun _ _ _=>iL)
     (fun _ _ _=>ig ka (pv 1) iD (g5 (fF gy (pv 0) fy))) (gY (by decide)) rfl rfl
     dk rfl dk dk rfl dk))) gh)
   (fq (fG (i:=4) sH.nd rfl (Or.inr rfl) (fF gF (fF iU (pv 0) fy) fy))
   (fA (fP (il (own:=1) (caps:=[3,4,2,0]) (N:=["_law_k","_law_rest","_law_at","_law_signs","_law_number_here"]) (N0:=rQ) (sc0:=fD lE) rfl
     (lp rfl T.range (eY (pv 1) fe)) (fun _ _ _=>fR (i:=0) EU rfl (Or.inl rfl)) (fun _ _ _=>iL)
     (fun _ _ _=>fF mw (fF mw (ig ka (pv 1) iD (g5 (pv 2))) (gA rS (pv 3) (pv 0) (fun _ _=>rfl))) (ig ka (pv 1) (g5 (pv 2)) (g5 (fF gy (pv 2) (fF gF (fF iU (pv 4) fy) fy))))) (gY (by decide)) rfl rfl
     dk rfl dk dk rfl dk)))))),?_⟩
  obtain⟨ar,hS,_⟩:=y1
  have aj:iq.length=36:=dk
  refine tK fun R1 ab=>?_
  show R1 _ [some (.int n),some (.int m),some (.str iq),none,none] H
  refine ic (R:=R1) ab fun R2 ae=>?_
  refine⟨rfl,12,rfl,by decide,by decide,qt (fun i ys H1=>H1=H/\∃ cs:List Nat,cs.length=i/\cs.all gc=true/\ys=cs.map fun c=>V.str ⟨#[c]⟩) (by rw [hl];decide) ⟨rfl,[],rfl,rfl,rfl⟩ ?_ ?_⟩
  ·rintro i ys H1 N hi ⟨rfl,cs,hc,hok,rfl⟩ hN
   have ak:i < 12:=hi
   refine g1 ?_
   refine⟨_,rfl,_,rfl,_,rfl,_,_,rfl,rfl,_,_,rfl,by omega,by omega,fun r r0 r1=>?_⟩
   refine⟨_,_,rfl,rfl,(by show(0:Int) < 36;decide),?_⟩
   obtain⟨j,hj,au⟩:=jo (r:=r) (n:=36) (by decide)
   have I:j < (codes iq).length:=by omega
   refine⟨iq,_,(codes iq)[j],rfl,rfl,by omega,?_,hN _ _ ⟨rfl,cs++[(codes iq)[j]],by simp [hc],by rw [List.all_append,hok];simp [vL (p:=gc) (l:=codes iq) hS I],by rw [List.map_append];rfl⟩⟩
   rw [<-hj]
   exact gR (List.getElem?_eq_getElem I)
  ·rintro ys H1 ⟨rfl,cs,hc,hok,rfl⟩ _ p hp
   have U:cs.length=12:=hc
   refine⟨_,p,cs.map fun c=>(⟨#[c]⟩:Str),rfl,rfl,fj.of (by rw [fv,List.map_map];rfl),?_,?_⟩
   ·rw [yl,List.length_map]
    show cs.length + cs.length * 0<=_
    omega
   rw [join_eq]
   have sm:eZ H1 (upd H1 p (.lst (cs.map fun c=>V.str ⟨#[c]⟩))):=fC hp
   generalize upd H1 p (.lst (cs.map fun c=>V.str ⟨#[c]⟩))=H2 at sm ⊢
   have af:(⟨cs.toArray⟩:Str).length=12:=by rw [jU];exact U
   have J:codes ⟨cs.toArray⟩=cs:=by unfold codes;simp
   generalize (⟨cs.toArray⟩:Str)=R at af J ⊢
   refine ic (R:=R2) ae fun R3 ag=>?_
   have W2:R3 {nx:=fun x H'=>Q V.non H',rt:=Q} [some (.int n),some (.int m),some (.str iq),some (.str R),none] H2:=by
    subst ag
    obtain⟨at_,ha,av⟩:=jo (r:=n / 3) (n:=8) (by decide)
    obtain⟨ex,he,aw⟩:=jo (r:=n / 24) (n:=4) (by decide)
    refine⟨_,rfl,_,_,rfl,rfl,⟨by decide,by decide⟩,_,_,rfl,rfl,(by show(0:Int) < 8;decide),?_⟩
    show jC 4 (V.int (n / 3 % 8)) _ _ _
    rw [<-ha]
    refine⟨_,rfl,m,rfl,by omega,by omega,qt (fun i ys H3=>H3=H2/\ys=((List.range i).map (u7 (cs.take at_) ((cs.drop at_).take ex))).map V.str) (by rw [hl];omega) ⟨rfl,rfl⟩ ?_ ?_⟩
    ·rintro i ys H3 N hi ⟨rfl,rfl⟩ hN
     have ah:i < m:=by simpa using hi
     have I:i < (codes iq).length:=by omega
     have e1:Txt.slice R none (some ((at_:Nat):Int))=⟨(cs.take at_).toArray⟩:=by rw [rh (by omega) (by omega),J,Int.toNat_natCast]
     have e2:Txt.slice R (some ((at_:Nat):Int)) (some ((at_:Int) + n / 24 % 4))=⟨((cs.drop at_).take ex).toArray⟩:=by
      rw [<-he,Eu (by omega) (by omega) (by omega),J,Int.toNat_natCast]
      congr 3
      omega
     have l1:=Txt.slice_le R none (some ((at_:Nat):Int))
     have l2:=Txt.slice_le R (some ((at_:Nat):Int)) (some ((at_:Int) + n / 24 % 4))
     have ao:(⟨#[(codes iq)[i]]⟩:Str).length=1:=rfl
     refine g1 ?_
     refine⟨_,rfl,_,rfl,_,rfl,R,rfl,by omega,_,rfl,_,rfl,iq,_,(codes iq)[i],rfl,rfl,by omega,(by rw [Int.zero_add];exact gR (List.getElem?_eq_getElem I)),_,_,rfl,rfl,by omega,_,rfl,_,rfl,_,rfl,_,rfl,_,rfl,_,_,rfl,rfl,⟨by decide,by decide⟩,_,_,rfl,rfl,(by show(0:Int) < 4;decide),_,_,rfl,rfl,_,rfl,R,rfl,by omega,_,_,rfl,rfl,by rw [PySem.Str.length_append];omega,hN _ _ ⟨rfl,?_⟩⟩
     rw [List.range_succ,List.map_append,List.map_append]
     congr 1
     show [V.str (Txt.slice R none (some ((at_:Nat):Int))++⟨#[(codes iq)[i]]⟩++Txt.slice R (some ((at_:Nat):Int)) (some ((at_:Int) + n / 24 % 4)))]=[V.str (u7 _ _ i)]
     rw [e1,e2]
     have e3:(⟨#[(codes iq)[i]]⟩:Str)=⟨[(codes iq).getD i 0].toArray⟩:=by
      rw [List.getD_eq_getElem?_getD,List.getElem?_eq_getElem I]
      rfl
     rw [e3,xg,xg,List.append_assoc]
     rfl
    ·rintro ys H3 ⟨rfl,rfl⟩ _ q hq
     rw [Int.toNat_natCast] at *
     refine kk q _ _ (sm.trans (fC hq)) (sm.free hq) fv (by rw [List.length_map,List.length_range]) (Fs ?_ ?_ (qN _ hok) (qN _ (IE _ hok)) (by omega))
     ·rw [List.length_take];omega
     ·rw [List.length_take];omega
   refine⟨_,rfl,_,_,rfl,rfl,(by show(0:Int) < 3;decide),rfl,_,rfl,?_⟩
   refine jX (fun _=>?_) (fun _=>fO W2)
   refine⟨_,rfl,_,_,rfl,rfl,_,rfl,?_⟩
   by_cases aa:(m:Int) < 13
   ·rw [decide_eq_true aa]
    refine fY ⟨_,rfl,m,rfl,by omega,by omega,qt (fun i ys H3=>H3=H2/\ys=((List.range i).map (ua cs)).map V.str) (by rw [hl];omega) ⟨rfl,rfl⟩ ?_ ?_⟩
    ·rintro i ys H3 N hi ⟨rfl,rfl⟩ hN
     have ah:i < m:=by simpa using hi
     refine g1 ?_
     refine⟨_,rfl,_,rfl,_,_,rfl,rfl,_,rfl,R,rfl,by omega,hN _ _ ⟨rfl,?_⟩⟩
     rw [List.range_succ,List.map_append,List.map_append]
     congr 1
     show [V.str (Txt.slice R none (some ((0:Int) + i + 1)))]=[V.str (ua cs i)]
     have e:(0:Int) + i + 1=((i + 1:Nat):Int):=by omega
     rw [e,rh (by omega) (by omega),J,Int.toNat_natCast]
     rfl
    ·rintro ys H3 ⟨rfl,rfl⟩ _ q hq
     rw [Int.toNat_natCast] at *
     exact kk q _ _ (sm.trans (fC hq)) (sm.free hq) fv (by rw [List.length_map,List.length_range]) (Dn U hok (by omega))
   ·rw [decide_eq_false aa]
    exact fO W2
end
structure Tx (ws : List Str) (n : Nat) (x : Str) : Prop where
 d : Drawn x
 l : (tw x).length <= n
 r : Mp ws x
structure Ft (ws : List Str) (m : Nat) (ps : List (Str × Str)) : Prop where
 l : ps.length = m
 k : rK (ps.map (·.1))
 t : ∀ (i : Nat) p, ps[i]? = some p -> Tx ws (if i = 0 then 119 else 12) p.2
def lu(H:Hp):List V->List (Str×Str×Str)->Prop:=Paired fun v d=>∃ p,v= .ref p/\H p=some (.tup [.str d.1,.str d.2.1,.str d.2.2])
theorem lu.same {H H':Hp}{xs:List V}{t:List (Str×Str×Str)}(h:lu H xs t)(s:eZ H H'):lu H' xs t:=Gn.Paired.imp2 h fun _ _ ⟨p,e,q⟩=>⟨p,e,s _ _ q⟩
theorem Dw{H:Hp}{pa:Addr}{xs:List V}{qs:List (Str×Str×Str)}{p:Addr}{q:Str×Str×Str}(ha:H pa=some (.lst xs))(h:lu H xs qs)(hp:H p=some (.tup [.str q.1,.str q.2.1,.str q.2.2])):lu (upd H pa (.lst (xs++[.ref p]))) (xs++[.ref p]) (qs++[q]):=by
 have I:∀{b:Addr} {J:List V},H b=some (.tup J)->b≠pa:=fun e z=>by rw [z,ha] at e;cases e
 exact Gn.Paired.app (Gn.Paired.imp2 h fun _ _ ⟨b,e,z⟩=>⟨b,e,by rw [fB (I z)];exact z⟩) ⟨p,rfl,by rw [fB (I hp)];exact hp⟩
section
variable {P : Program} {w : World} {K : PySem.W.Frag} {mg : Str -> Option Value} {base : Heap} {C CH : Addr}
def wO(K:W.Frag):Sp:=fun vs H Q _=>∃(a b:Addr) (ns:List Int) (ws:List Str) (f m:Nat),vs=[.ref a,.int f,.ref b,.int m]/\f<=100/\fj K H a (ns.map V.int)/\ns.length<=63/\m<=26/\H b=some (.lst (ws.map V.str))/\1<=ws.length/\(∀ z∈ws,Wm z)/\
 ∀ l xs ps H',eZ H H'->H l=none->H' l=some (.lst xs)->gm H' xs (ps.map kp)->Ft ws m ps->Q (.ref l) H'
theorem nK:fU ["_law_script","_law_first","_law_menu_here","_law_many","_law_found","_law_k","_law_key","_law_number_here","_law_size"] ["_law_script","_law_first","_law_menu_here","_law_many"] (fD qq):=⟨rfl,rfl,rfl,dk,rfl,dk,dk⟩
seal fM PS PE PT PA PG PI fT fS in
theorem AQ{f fn fk ft:Addr}{fd fdn fdk fdt:FuncData}(D:Df K mg "_law_pairs" qq f fd)(DN:Df K mg "_law_number" ny fn fdn)(GN:fx P w K mg base fE 2 fn fdn ["_law_script","_law_k"] (tF K))
  (DK:Df K mg "_law_keys" lE fk fdk)(GK:fx P w K mg base fE 2 fk fdk ["_law_number_here","_law_many"] vf)(DT:Df K mg "_law_text" om ft fdt)(GT:fx P w K mg base fE 2 ft fdt ["_law_number_here","_law_menu_here","_law_many"] vK)(T:Txt mg):
  fx P w K mg base fE 3 f fd ["_law_script","_law_first","_law_menu_here","_law_many"] (wO K):=by
 have bN:=DN.F.binds (ps:=["_law_script","_law_k"]) fun _ _ _ _ _ _ us hl=>ix (fun _ _=>rfl) us hl
 have bK:=DK.F.binds (ps:=["_law_number_here","_law_many"]) fun _ _ _ _ _ _ us hl=>ix (fun _ _=>rfl) us hl
 have bT:=DT.F.binds (ps:=["_law_number_here","_law_menu_here","_law_many"]) fun _ _ _ _ _ _ us hl=>lg (fun _ _ _=>rfl) us hl
 refine D.F.ok nK (fun vs H Q E h=>?_) (fun cdv A outer s H vs Q E hr h=>?_)
 ·obtain⟨a,b,ns,ws,f0,m,rfl,_⟩:=h
  rfl
 ·obtain⟨a,b,ns,ws,f0,m,rfl,aG,hS,af,hm,hB,h5,aq,kk⟩:=h
  have hl:(sizeLine:Nat)=16777216:=sizeLine_eq
  refine⟨_,fq (fG (i:=4) nK.nd rfl (Or.inl rfl) (gf fe))
   (fq (gO PassesOwn.never rfl (oq rfl T.enum (eY (fN GK hr rfl DK.m DK.F.kp bK .nil fL (eY (fN GN hr rfl DN.m DN.F.kp bN .nil fL (eY (pv 0) (eY (pv 1) fe))) (eY (pv 3) fe))) fe))
     (jj (n:=2) rfl (gJ (fR (i:=5) nK.nd rfl (Or.inl rfl)) (gJ (fR (i:=6) nK.nd rfl (Or.inl rfl)) jh)))
    (fq (fG (i:=7) nK.nd rfl (Or.inl rfl) (fN GN hr rfl DN.m DN.F.kp bN .nil fL (eY (pv 0) (eY (fF gy (fF gy (pv 1) fy) (pv 5)) fe))))
    (fq (fG (i:=8) nK.nd rfl (Or.inl rfl) (fF gF (fF iU (pv 7) fy) fy))
    (fq (qa (PW.pt (jW (gi je (fF gF (fF iU (pv 7) fy) fy) fy (f9 _)) (kj (gi je (pv 5) fy (f9 _)))))
     (fA (fG (i:=8) nK.nd rfl (Or.inl rfl) (fF gy fy (fF gF (fF iU (pv 7) fy) fy)))) gh)
    (fA (gB (gQ F.plainAttrs_list F.slot_list_append F.type_list_append iO (pv 4)
     (eY (iV (eY (pv 6) (eY (fN GT hr rfl DT.m DT.F.kp bT .nil fL (eY (pv 7) (eY (pv 2) (eY (pv 8) fe)))) fe))) fe))))))))
   (fA (fP (pv 4)))),?_⟩
  refine⟨Nat.zero_le _,fun l aa=>?_⟩
  have s1:eZ H (upd H l (.lst [])):=fC aa
  have e1:upd H l (.lst []) l=some (.lst []):=fv
  generalize upd H l (.lst [])=H1 at s1 e1 ⊢
  refine⟨_,rfl,_,rfl,a,ns,f0,rfl,s1.seq hS,af,by omega,fun r0 H2 ar aH s2=>?_⟩
  refine⟨_,rfl,r0,m,rfl,ar,hm,fun kl ks H3 s3 ag hK au av=>?_⟩
  have ab:=s2.trans s3
  have aw:=s1.trans ab
  refine⟨kl,ks.map V.str,rfl,hK,?_⟩
  refine oA (xs:=ks.map V.str) (fun i σ H'=>∃(xs:List V) (ps:List (Str×Str)) (v5 v6 v7 v8:Option V),σ=[some (.ref a),some (.int f0),some (.ref b),some (.int m),some (.ref l),v5,v6,v7,v8]/\eZ H H'/\H' kl=some (.lst (ks.map V.str))/\H' l=some (.lst xs)/\gm H' xs (ps.map kp)/\ps.map (·.1)=ks.take i/\
   (∀(j:Nat) p,ps[j]? =some p->Tx ws (if j=0 then 119 else 12) p.2)) ?_ ?_ ?_ ?_
  ·exact⟨[],[],none,none,none,none,rfl,aw,hK,ab _ _ e1,.nil,rfl,(fun j p h=>by cases j<;>cases h)⟩
  ·rintro i σ H' _ ⟨_,_,_,_,_,_,_,_,I,_⟩
   exact I
  ·rintro i v σ H' tt hv ⟨xs,ps,v5,v6,v7,v8,rfl,sm,I,hL,hP,hk,ht⟩ ax
   obtain⟨key,U,rfl⟩:∃ key,ks[i]? =some key/\V.str key=v:=by
    rw [List.getElem?_map] at hv
    cases e:ks[i]? with
    | none=>rw [e] at hv;cases hv
    | some z=>rw [e] at hv;exact⟨z,rfl,Option.some.inj hv⟩
   have aI:i < m:=by rw [<-au];exact(List.getElem?_eq_some_iff.mp U).1
   have aJ:ps.length=i:=by
    have:=congrArg List.length hk
    rw [List.length_map,List.length_take] at this
    omega
   have st:eZ H' (upd H' tt (.tup [.int i,.str key])):=fC ax
   refine⟨tt,_,rfl,gb.of fv,rfl,_,_,rfl,_,_,rfl,rfl,?_⟩
   generalize upd H' tt (.tup [.int i,.str key])=H4 at st ⊢
   have ah:=sm.trans st
   refine⟨_,rfl,_,rfl,_,_,rfl,rfl,_,rfl,_,_,rfl,rfl,?_⟩
   refine⟨a,ns,f0 + 1 + i,congrArg (fun z=>[V.ref a,V.int z]) (show((f0:Int) + 1 + (i:Int))=((f0 + 1 + i:Nat):Int) by omega),ah.seq hS,af,by omega,fun r H5 r0 r1 s5=>?_⟩
   refine⟨_,rfl,_,_,rfl,rfl,⟨by decide,by decide⟩,_,_,rfl,rfl,(by show(0:Int) < 13;decide),?_⟩
   have ay:=ah.trans s5
   have ai:=st.trans s5
   refine⟨fun aj H6=>H6=H5/\∃ sz:Nat,sz<=(if i=0 then 119 else 12)/\aj=[some (.ref a),some (.int f0),some (.ref b),some (.int m),some (.ref l),some (.int (i:Int)),some (.str key),some (.int r),some (.int (sz:Int))],?_,?_⟩
   ·obtain⟨j,J,ak⟩:=jo (r:=r / 60) (n:=13) (by decide)
    obtain⟨j2,az,aF⟩:=jo (r:=r / 60) (n:=30) (by decide)
    have small:∃ sz:Nat,sz<=(if i=0 then 119 else 12)/\[some (V.ref a),some (.int f0),some (.ref b),some (.int m),some (.ref l),some (.int (i:Int)),some (.str key),some (.int r),some (V.int (r / 60 % 13))]=[some (.ref a),some (.int f0),some (.ref b),some (.int m),some (.ref l),some (.int (i:Int)),some (.str key),some (.int r),some (.int (sz:Int))]:=⟨j,by split<;>omega,by rw [J]⟩
    refine⟨_,rfl,_,_,rfl,rfl,⟨by decide,by decide⟩,_,_,rfl,rfl,(by show(0:Int) < 9;decide),rfl,_,rfl,?_⟩
    refine jX (fun _=>?_) (fun _=>fO ⟨rfl,small⟩)
    refine⟨_,rfl,rfl,_,rfl,?_⟩
    by_cases ae:i=0
    ·rw [decide_eq_true (show V.int (i:Int)=V.int 0 by rw [ae];rfl)]
     refine fY ⟨_,rfl,_,_,rfl,rfl,⟨by decide,by decide⟩,_,_,rfl,rfl,(by show(0:Int) < 30;decide),_,_,rfl,rfl,rfl,90 + j2,by rw [if_pos ae];omega,?_⟩
     show [some (V.ref a),some (.int f0),some (.ref b),some (.int m),some (.ref l),some (.int (i:Int)),some (.str key),some (.int r),some (V.int (90 + r / 60 % 30))]=_
     rw [<-az]
     rfl
    ·rw [decide_eq_false (show ¬ V.int (i:Int)=V.int 0 from fun z=>ae (by have:=V.int.inj z;omega))]
     exact fO ⟨rfl,small⟩
   ·rintro aj H6 ⟨rfl,sz,hsz,rfl⟩
    refine⟨_,rfl,.inl ⟨rfl,_,fj.of (ai _ _ hL)⟩,_,rfl,_,rfl,_,rfl,_,rfl,?_⟩
    refine⟨r,b,ws,sz,rfl,(Nat.le_trans hsz (by split<;>decide)),ay _ _ hB,h5,aq,fun x H7 s7 aA aB aC aD=>?_⟩
    refine⟨(by show 2<=sizeLine;omega),fun q hq=>?_⟩
    have s8:eZ H' (upd H7 q (.tup [.str key,.str x])):=(ai.trans s7).trans (fC hq)
    have ao:upd H7 q (.tup [.str key,.str x]) q=some (.tup [.str key,.str x]):=fv
    generalize upd H7 q (.tup [.str key,.str x])=H8 at s8 ao ⊢
    have aE:=Gn.Paired.len hP
    rw [List.length_map] at aE
    refine⟨l,_,_,rfl,rfl,s8 _ _ hL,(by omega),?_⟩
    refine⟨xs++[.ref q],ps++[(key,x)],_,_,_,_,rfl,fun c u e=>(fB (fW e aa)).trans ((sm.trans s8) _ _ e),(fB ?_).trans (s8 _ _ I),fv,zq (s8 _ _ hL) (hP.same s8) ao,?_,fun j p J=>?_⟩
    ·intro z
     rw [z] at ag
     have:=ab _ _ e1
     have:=s2 _ _ e1
     rw [ag] at this
     cases this
    ·rw [List.map_append,hk,take_snoc U]
     rfl
    ·by_cases ak:j < ps.length
     ·rw [List.getElem?_append_left ak] at J
      exact ht j p J
     ·rw [List.getElem?_append_right (by omega)] at J
      have:j - ps.length=0:=by
       cases e:j - ps.length with
       | zero=>rfl
       | succ n=>rw [e] at J;cases J
      rw [this] at J
      have ep:(key,x)=p:=Option.some.inj J
      subst ep
      have ej:j=i:=by omega
      subst ej
      exact⟨⟨aA,aB⟩,Nat.le_trans aC hsz,aD⟩
  ·rintro σ H' ⟨xs,ps,v5,v6,v7,v8,rfl,sm,I,hL,hP,hk,ht⟩
   rw [List.length_map,List.take_length] at hk
   refine⟨_,rfl,kk l xs ps H' sm aa hL hP ⟨?_,by rw [hk];exact av,ht⟩⟩
   have:=congrArg List.length hk
   rw [List.length_map] at this
   omega
def Ac(K:W.Frag):Sp:=fun vs H Q _=>∃(a b:Addr) (ns:List Int) (ws:List Str) (f:Nat),vs=[.ref a,.int f,.ref b]/\f<=100/\fj K H a (ns.map V.int)/\ns.length<=63/\H b=some (.lst (ws.map V.str))/\1<=ws.length/\(∀ z∈ws,Wm z)/\
 ∀ l xs ds H',eZ H H'->H l=none->H' l=some (.lst xs)->lu H' xs ds->ds.length<=11->(∀ d∈ds,fZ 12 (.str d.2.1)=true/\Tx ws 90 d.2.2)->Q (.ref l) H'
theorem ma:fU ["_law_script","_law_first","_law_menu_here","_law_keys_here","_law_found","_law_k","_law_number_here","_law_way","_law_size"] ["_law_script","_law_first","_law_menu_here"] (fD pH):=⟨rfl,rfl,rfl,dk,rfl,dk,dk⟩
def p4:List Str:=["put","put","put","put","take","take","pour"]
seal fM PS PE PT PA PG PI fT fS in
theorem CM{f fn fk ft:Addr}{fd fdn fdk fdt:FuncData}(D:Df K mg "_law_deeds" pH f fd)(DN:Df K mg "_law_number" ny fn fdn)(GN:fx P w K mg base fE 2 fn fdn ["_law_script","_law_k"] (tF K))
  (DK:Df K mg "_law_keys" lE fk fdk)(GK:fx P w K mg base fE 2 fk fdk ["_law_number_here","_law_many"] vf)(DT:Df K mg "_law_text" om ft fdt)(GT:fx P w K mg base fE 2 ft fdt ["_law_number_here","_law_menu_here","_law_many"] vK)(T:Txt mg):
  fx P w K mg base fE 3 f fd ["_law_script","_law_first","_law_menu_here"] (Ac K):=by
 have bN:=DN.F.binds (ps:=["_law_script","_law_k"]) fun _ _ _ _ _ _ us hl=>ix (fun _ _=>rfl) us hl
 have bK:=DK.F.binds (ps:=["_law_number_here","_law_many"]) fun _ _ _ _ _ _ us hl=>ix (fun _ _=>rfl) us hl
 have bT:=DT.F.binds (ps:=["_law_number_here","_law_menu_here","_law_many"]) fun _ _ _ _ _ _ us hl=>lg (fun _ _ _=>rfl) us hl
 refine D.F.ok ma (fun vs H Q E h=>?_) (fun cdv A outer s H vs Q E hr h=>?_)
 ·obtain⟨a,b,ns,ws,f0,rfl,_⟩:=h
  rfl
 ·obtain⟨a,b,ns,ws,f0,rfl,aB,hS,U,hB,h5,ak,kk⟩:=h
  have hl:(sizeLine:Nat)=16777216:=sizeLine_eq
  refine⟨_,fq (fG (i:=3) ma.nd rfl (Or.inl rfl) (fN GK hr rfl DK.m DK.F.kp bK .nil fL (eY (fN GN hr rfl DN.m DN.F.kp bN .nil fL (eY (pv 0) (eY (pv 1) fe))) (eY fy fe))))
   (fq (fG (i:=4) ma.nd rfl (Or.inl rfl) (gf fe))
   (fq (gO PassesOwn.never rfl (lp rfl T.range (eY (fF gy fy (fF gF (fN GN hr rfl DN.m DN.F.kp bN .nil fL (eY (pv 0) (eY (fF gy (pv 1) fy) fe))) fy)) fe)) (fR (i:=5) ma.nd rfl (Or.inl rfl))
    (fq (fG (i:=6) ma.nd rfl (Or.inl rfl) (fN GN hr rfl DN.m DN.F.kp bN .nil fL (eY (pv 0) (eY (fF gy (fF gy (pv 1) fy) (pv 5)) fe))))
    (fq (fG (i:=7) ma.nd rfl (Or.inl rfl) (gA g6 (gf (eY gd (eY gd (eY gd (eY gd (eY gd (eY gd (eY gd fe)))))))) (fF gF (pv 6) fy) (fun _ _=>rfl)))
    (fq (fG (i:=8) ma.nd rfl (Or.inl rfl) (fF gF (fF iU (pv 6) fy) fy))
    (fq (qa (gi je (fF gF (fF iU (pv 6) fy) fy) fy (f9 _)) (fA (fG (i:=8) ma.nd rfl (Or.inl rfl) fy)) gh)
    (fA (gB (gQ F.plainAttrs_list F.slot_list_append F.type_list_append iO (pv 4)
     (eY (iV (eY (pv 7) (eY (gA g6 (pv 3) (fF gF (fF iU (pv 6) fy) fy) (fun _ _=>rfl))
      (eY (fN GT hr rfl DT.m DT.F.kp bT .nil fL (eY (fF iU (pv 6) fy) (eY (pv 2) (eY (pv 8) fe)))) fe)))) fe)))))))))
   (fA (fP (pv 4))))),?_⟩
  refine⟨_,rfl,_,rfl,a,ns,f0,rfl,hS,U,by omega,fun r0 H1 ao aC s1=>?_⟩
  refine⟨r0,9,rfl,ao,by decide,fun kl ks H2 s2 aD hK aq ar=>?_⟩
  refine⟨Nat.zero_le _,fun l aa=>?_⟩
  have s3:eZ H2 (upd H2 l (.lst [])):=fC aa
  have e3:upd H2 l (.lst []) l=some (.lst []):=fv
  have ae:=s1.trans s2
  have J:H l=none:=ae.free aa
  have au:kl≠l:=fW hK aa
  generalize upd H2 l (.lst [])=H3 at s3 e3 ⊢
  have af:=ae.trans s3
  refine⟨_,rfl,_,rfl,_,_,rfl,rfl,a,ns,f0 + 1,rfl,af.seq hS,U,by omega,fun r1 H4 aE aF s4=>?_⟩
  obtain⟨j9,aG,aA⟩:=jo (r:=r1) (n:=9) (by decide)
  refine⟨_,_,rfl,rfl,(by show(0:Int) < 9;decide),_,_,rfl,rfl,?_⟩
  refine⟨3 + r1 % 9,rfl,by omega,by omega,?_⟩
  have en:(3 + r1 % 9).toNat=3 + j9:=by omega
  refine sM (fun i σ H'=>∃(xs:List V) (ds:List (Str×Str×Str)) (v5 v6 v7 v8:Option V),σ=[some (.ref a),some (.int f0),some (.ref b),some (.ref kl),some (.ref l),v5,v6,v7,v8]/\eZ H H'/\H' kl=some (.lst (ks.map V.str))/\H' l=some (.lst xs)/\lu H' xs ds/\ds.length=i/\
   (∀ d∈ds,fZ 12 (.str d.2.1)=true/\Tx ws 90 d.2.2)) ?_ ?_ ?_
  ·exact⟨[],[],none,none,none,none,rfl,af.trans s4,(s3.trans s4) _ _ hK,s4 _ _ e3,.nil,rfl,(fun d h=>nomatch h)⟩
  ·rintro i σ H' hi ⟨xs,ds,v5,v6,v7,v8,rfl,sm,ab,hL,hD,hlen,hd⟩
   rw [en] at hi
   refine⟨_,rfl,_,rfl,_,_,rfl,rfl,_,rfl,_,_,rfl,rfl,?_⟩
   refine⟨a,ns,f0 + 2 + i,congrArg (fun z=>[V.ref a,V.int z]) (show((f0:Int) + 2 + (0 + (i:Int)))=((f0 + 2 + i:Nat):Int) by omega),sm.seq hS,U,by omega,fun r H5 r0 r1 s5=>?_⟩
   refine⟨(by show 7<=sizeLine;omega),fun p hp=>?_⟩
   have s6:eZ H5 (upd H5 p (.lst (p4.map V.str))):=fC hp
   obtain⟨wy,aH,ew⟩:=oM (ss:=p4) (n:=r) (L:=7) (by decide) rfl
   refine⟨_,rfl,_,_,rfl,rfl,(by show(0:Int) < 7;decide),p,p4.map V.str,_,_,rfl,rfl,fj.of fv,ew,?_⟩
   refine⟨_,rfl,_,_,rfl,rfl,⟨by decide,by decide⟩,_,_,rfl,rfl,(by show(0:Int) < 9;decide),?_⟩
   have ag:=(sm.trans s5).trans s6
   have I:=s5.trans s6
   refine⟨fun ah H7=>H7=upd H5 p (.lst (p4.map V.str))/\∃ sz:Nat,sz<=90/\ah=[some (.ref a),some (.int f0),some (.ref b),some (.ref kl),some (.ref l),some (.int (0 + (i:Int))),some (.int r),some (.str wy),some (.int (sz:Int))],?_,?_⟩
   ·obtain⟨j,hj,aI⟩:=jo (r:=r / 700) (n:=9) (by decide)
    refine⟨_,rfl,_,_,rfl,rfl,⟨by decide,by decide⟩,_,_,rfl,rfl,(by show(0:Int) < 60;decide),rfl,_,rfl,?_⟩
    refine jX (fun _=>⟨rfl,90,Nat.le_refl _,rfl⟩) (fun _=>⟨rfl,j,by omega,?_⟩)
    show [some (V.ref a),some (.int f0),some (.ref b),some (.ref kl),some (.ref l),some (.int (0 + (i:Int))),some (.int r),some (.str wy),some (V.int (r / 700 % 9))]=_
    rw [<-hj]
   ·rintro ah H7 ⟨rfl,sz,hsz,rfl⟩
    generalize upd H5 p (.lst (p4.map V.str))=H6 at s6 ag I ⊢
    obtain⟨key,ai,ek⟩:=oM (ss:=ks) (n:=r / 7) (L:=9) (by omega) (by rw [aq];rfl)
    refine⟨_,rfl,.inl ⟨rfl,_,fj.of (I _ _ hL)⟩,_,rfl,_,rfl,_,rfl,_,_,rfl,rfl,⟨by decide,by decide⟩,_,_,rfl,rfl,(by show(0:Int) < 9;decide),kl,_,_,_,rfl,rfl,fj.of (I _ _ ab),ek,_,rfl,_,_,rfl,rfl,⟨by decide,by decide⟩,_,rfl,_,rfl,?_⟩
    refine⟨r / 100,b,ws,sz,rfl,by omega,ag _ _ hB,h5,ak,fun x H7 s7 av aw ax ay=>?_⟩
    refine⟨(by show 3<=sizeLine;omega),fun q hq=>?_⟩
    have s8:eZ H' (upd H7 q (.tup [.str wy,.str key,.str x])):=(I.trans s7).trans (fC hq)
    have aj:upd H7 q (.tup [.str wy,.str key,.str x]) q=some (.tup [.str wy,.str key,.str x]):=fv
    generalize upd H7 q (.tup [.str wy,.str key,.str x])=H8 at s8 aj ⊢
    have aJ:=Gn.Paired.len hD
    refine⟨l,_,_,rfl,rfl,s8 _ _ hL,(by omega),?_⟩
    refine⟨xs++[.ref q],ds++[(wy,key,x)],_,_,_,_,rfl,fun c u e=>(fB (fW e J)).trans ((sm.trans s8) _ _ e),(fB au).trans (s8 _ _ ab),fv,Dw (s8 _ _ hL) (hD.same s8) aj,by rw [List.length_append,hlen];rfl,fun d az=>?_⟩
    rcases List.mem_append.mp az with z | z
    ·exact hd d z
    ·rw [List.mem_singleton.mp z]
     exact⟨ar.g key ai,⟨av,aw⟩,Nat.le_trans ax hsz,ay⟩
  ·rintro σ H' ⟨xs,ds,v5,v6,v7,v8,rfl,sm,ab,hL,hD,hlen,hd⟩
   rw [en] at hlen
   exact⟨_,rfl,kk l xs ds H' sm J hL hD (by omega) hd⟩
end
def NE(pss:List (List (Str×Str))):Prop:=∀ ps∈pss,ps≠[]
theorem Al:∀ ps:List (Str×Str),PyData.eqv (.list (jA ps)) (.list [])=decide (ps=[])
 | []=>rfl
 | p::ps=>by rw [decide_eq_false (by simp)];rfl
def wi(k:Str)(ps:List (Str×Str)):List (Str×Str):=ps.filter fun p=>decide (p.1=k)
theorem xk{k:Str}{ps:List (Str×Str)}:wi k ps=[]↔k∉ps.map (·.1):=by
 unfold wi
 rw [List.filter_eq_nil_iff]
 constructor
 ·intro h z
  obtain⟨p,I,e⟩:=List.mem_map.mp z
  exact h p I (decide_eq_true e)
 ·intro h p I z
  exact h (List.mem_map.mpr ⟨p,I,of_decide_eq_true z⟩)
theorem Bb{pss:List (List (Str×Str))}(h:NE pss):rM pss=if pss.flatten=[] then [] else [pss.flatten]:=by
 unfold rM
 cases pss with
 | nil=>rfl
 | cons a r=>
  rw [if_neg (by simp),if_neg]
  intro z
  have:=List.append_eq_nil_iff.mp (show a++r.flatten=[] from z)
  exact h a List.mem_cons_self this.1
theorem oO{α β:Type}{F:α->β->Prop}{l:List α}{m:List β}{a:α}(h:Paired F l m)(ha:a∈l):∃ b,b∈m/\F a b:=by
 obtain⟨i,hi⟩:=List.getElem?_of_mem ha
 obtain⟨b,h1,h2⟩:=gW h hi
 exact⟨b,List.mem_of_getElem? h1,h2⟩
theorem gL.own {L H:Hp}{rs:List V}{rows:List (List (Str×Str))}(h:gL H rs rows)(h1:∀ p l,V.ref p∈rs->H p=some (.lst l)->L p=some (.lst l))(h2:∀ a ts,H a=some (.tup ts)->L a=some (.tup ts)):gL L rs rows:=by
 induction h with
 | nil=>exact .nil
 | cons q t I=>
  obtain⟨p,xs,rfl,e,z⟩:=q
  exact .cons ⟨p,xs,rfl,h1 p xs List.mem_cons_self e,Gn.Paired.imp2 z fun _ _ ⟨b,e,y⟩=>⟨b,e,h2 _ _ y⟩⟩ (I fun p l J=>h1 p l (List.mem_cons_of_mem _ J))
section
variable {P : Program} {w : World} {K : PySem.W.Frag} {mg : Str -> Option Value} {base : Heap} {C CH : Addr}
abbrev As:List Str:=["_law_house","_law_rows","_law_deed","_law_way","_law_key","_law_text_here","_law_there","_law_has"]
theorem oH:fU As ["_law_house","_law_rows","_law_deed"] (fD nQ):=⟨rfl,rfl,rfl,dk,rfl,dk,dk⟩
def AK:TE:=fun σ H Q=>∃(l:Addr) (xs:List V) (ps:List (Str×Str)) (k:Str),σ[6]? =some (some (.ref l))/\σ[4]? =some (some (.str k))/\H l=some (.lst xs)/\gm H xs (ps.map kp)/\ps.length<=150/\
 ∀ c zs,H c=none->gm H zs ((wi k ps).map kp)->Q (.ref c) (upd H c (.lst zs))
def Ag(C CH:Addr):Sp:=fun vs H Q _=>∃(x rl dd:Addr) (rs:List V) (J:List (List (Str×Str))) (wy k t:Str) (L:Hp),vs=[.ref x,.ref rl,.ref dd]/\Hs C CH L H x J/\L rl=some (.lst rs)/\gL L rs J/\H dd=some (.tup [.str wy,.str k,.str t])/\gN J/\NE J/\fZ 12 (.str k)=true/\
 (k∉keysOf J->gN (J++[[(k,t)]]))/\
 ∀ U aa I L' H',eZ L L'->Hs C CH L' H' x I->L' U=some (.lst aa)->gL L' aa I->NE I->gN I->I.flatten.Sublist (J.flatten++[(k,t)])->I.length<=J.length + 1->Q (.ref U) H'
seal fM PS PE PT PA PG PI fT fS in
theorem AX{f fl fp fw hp ht hq:Addr}{fd fdl fdp fdw hdp hdt hdq:FuncData}(D:Df K mg "_law_done_by_rule" nQ f fd)(HC:jH K mg C CH)
  (DL:Df K mg "_law_laid" qx fl fdl)(GL:fx P w K mg base fE 1 fl fdl ["_law_rows"] zy)(DP:Df K mg "_law_put" oh fp fdp)(GP:fx P w K mg base fE 1 fp fdp ["_law_rows","_law_key","_law_text_here"] ug)
  (DW:Df K mg "_law_without" kL fw fdw)(GW:fx P w K mg base fE 1 fw fdw ["_law_rows","_law_key"] (yX K))
  (FP:fV K "put" "House.put" lF hp hdp)(mP:Meth K CH "put" hp)(HP:fx P w K mg base fE 12 hp hdp ["self","key","text"] (vw C CH))
  (FT:fV K "take" "House.take" mi ht hdt)(mT:Meth K CH "take" ht)(HT':fx P w K mg base fE 11 ht hdt ["self","key"] (yq C CH))
  (FQ:fV K "pour" "House.pour" m6 hq hdq)(mQ:Meth K CH "pour" hq)(HQ:fx P w K mg base fE 11 hq hdq ["self"] (wA C CH))(T:Txt mg):fx P w K mg base fE 13 f fd ["_law_house","_law_rows","_law_deed"] (Ag C CH):=by
 have bL:=gu (p:="_law_rows") DL.F fun _ _ _ _ _ _ _=>rfl
 have bP:=DP.F.binds (ps:=["_law_rows","_law_key","_law_text_here"]) fun _ _ _ _ _ _ us hl=>lg (fun _ _ _=>rfl) us hl
 have bW:=DW.F.binds (ps:=["_law_rows","_law_key"]) fun _ _ _ _ _ _ us hl=>ix (fun _ _=>rfl) us hl
 have aI:=FP.binds (ps:=["self","key","text"]) fun _ _ _ _ _ _ us hl=>lg (fun _ _ _=>rfl) us hl
 have aJ:=FT.binds (ps:=["self","key"]) fun _ _ _ _ _ _ us hl=>ix (fun _ _=>rfl) us hl
 have aK:=FQ.binds (ps:=["self"]) fun _ _ _ _ _ _ us hl=>jY (fun _=>rfl) us hl
 refine D.F.ok oH (fun vs H Q E h=>?_) (fun cdv A outer s H vs Q E hr h=>?_)
 ·obtain⟨x,rl,dd,rs,I,wy,k,t,L,rfl,_⟩:=h
  rfl
 ·obtain⟨x,rl,dd,rs,I,wy,k,t,L,rfl,hs,aB,hR,aL,hok,au,aW,aC,kk⟩:=h
  have hz:(sizeLine:Nat)=16777216:=sizeLine_eq
  have hu:=hr.units100
  refine⟨_,fq (vc (pv 2) (jj (n:=3) rfl (gJ (fR (i:=3) oH.nd rfl (Or.inl rfl)) (gJ (fR (i:=4) oH.nd rfl (Or.inr rfl)) (gJ (fR (i:=5) oH.nd rfl (Or.inl rfl)) jh)))))
   (fq (fG (i:=6) oH.nd rfl (Or.inl rfl) (fN (GL.mono (by decide)) hr rfl DL.m DL.F.kp bL .nil fL (eY (pv 1) fe)))
   (fq (fG (i:=7) oH.nd rfl (Or.inl rfl) (j1 (oJ hu) (PE.imp (t':=AK) (il (own:=1) (caps:=[4]) (N:=["_law_pair","_law_key"]) (N0:=As) (sc0:=fD nQ) rfl (gK (pv 6))
     (fun _ _ _=>fR (i:=0) xZ rfl (Or.inl rfl)) (fun _ _ _=>qE (gi je (gA (zm (K:=K) rfl) (pv 0) fy (fun _ _=>rfl)) (pv 1) (f9 _))) (fun _ _ _=>pv 0) (gY (by decide)) rfl rfl
     dk rfl dk dk rfl dk) ?mH) (gf fe) (f9 _)))
   (fq (gj (PW.pt (jW (gi je (pv 3) gd (f9 _)) (kj (hJ (gT (pv 7))))))
    (fq (gB (jD (pv 0) HC.cl mP HP hr aI .nil fL (eY (pv 4) (eY (pv 5) fe))))
    (fA (fP (fN (GP.mono (by decide)) hr rfl DP.m DP.F.kp bP .nil fL (eY (pv 1) (eY (pv 4) (eY (pv 5) fe))))))) gh)
   (fq (gj (PW.pt (jW (gi je (pv 3) gd (f9 _)) (kj (gT (pv 7)))))
    (fq (gB (jD (pv 0) HC.cl mT (HT'.mono (by decide)) hr aJ .nil fL (eY (pv 4) fe)))
    (fA (fP (fN (GW.mono (by decide)) hr rfl DW.m DW.F.kp bW .nil fL (eY (pv 1) (eY (pv 4) fe)))))) gh)
   (fq (gj (gi je (pv 3) gd (f9 _))
    (fq (gB (ji (pv 0) HC.cl mQ (HQ.mono (by decide)) hr aK .nil fL))
    (fA (fP (fF AE (gf (eY (pv 6) fe)) (mm G5 rfl T.int zc (eY (j1 (oJ hu) (pv 6) (gf fe) (f9 _)) fe)))))) gh)
   (fA (fP (pv 1)))))))),?_⟩
  case mH=>
   rintro σ H1 Q1 ⟨l,xs,ps,k,h6,h4,hl,hP,hlen,q⟩
   have aD:=Gn.Paired.len hP
   rw [List.length_map] at aD
   have e4:(σ[4]?).join=some (V.str k):=by rw [h4];rfl
   refine⟨_,h6,l,rfl,⟨_,fj.of hl⟩,?_⟩
   show oa _ _ _ _ [none,(σ[4]?).join] _ _
   rw [e4]
   refine jk (xs:=xs) (fun j zs H2=>H2=H1/\gm H1 zs ((wi k (ps.take j)).map kp)) (by omega) (fun j zs H2 e=>by rw [e.1];exact fj.of hl) ⟨rfl,.nil⟩ ?_ ?_
   ·rintro j u zs H2 N2 hu ⟨rfl,hZ⟩ aE
    obtain⟨kt,ab,tp,rfl,aF⟩:=gW hP hu
    rw [List.getElem?_map] at ab
    cases hpj:ps[j]? with
    | none=>rw [hpj] at ab;cases ab
    | some pr=>
     rw [hpj] at ab
     have e:=Option.some.inj ab
     subst e
     refine⟨_,rfl,tp,_,_,_,rfl,rfl,gb.of aF,gR (j:=0) rfl,_,rfl,rfl,_,rfl,?_⟩
     show(if decide (V.str pr.1=V.str k)=true then _ else _)
     have ew:wi k (ps.take (j + 1))=wi k (ps.take j)++wi k [pr]:=by unfold wi;rw [take_snoc hpj,List.filter_append]
     by_cases hk:pr.1=k
     ·rw [decide_eq_true (show(V.str pr.1=V.str k) by rw [hk])]
      refine fY ⟨_,rfl,aE _ _ ⟨rfl,?_⟩⟩
      have:wi k [pr]=[pr]:=by unfold wi;rw [List.filter_cons,decide_eq_true hk];rfl
      rw [ew,this,List.map_append]
      exact Gn.Paired.app hZ ⟨tp,rfl,aF⟩
     ·rw [decide_eq_false (show ¬ (V.str pr.1=V.str k) from fun z=>hk (V.str.inj z))]
      refine fO (aE _ _ ⟨rfl,?_⟩)
      have:wi k [pr]=[]:=by unfold wi;rw [List.filter_cons,decide_eq_false hk];rfl
      rw [ew,this,List.append_nil]
      exact hZ
   ·rintro zs H2 ⟨rfl,hZ⟩ _ c hc
    rw [aD,List.take_length] at hZ
    exact q c zs hc hZ
  have aM:gL H rs I:=hR.same hs.s
  refine tK fun R1 aN=>?_
  refine⟨_,rfl,dd,_,rfl,gb.of aL,rfl,_,_,rfl,_,_,rfl,_,_,rfl,rfl,?_⟩
  refine ic (R:=R1) aN fun R2 aO=>?_
  refine⟨_,rfl,rl,rs,I,rfl,hs.s _ _ aB,aM,hok.l,hok.p,fun th xs H1 s1 aP ao aq=>?_⟩
  refine ic (R:=R2) aO fun R3 aQ=>?_
  refine⟨th,xs,I.flatten,k,rfl,rfl,ao,aq,hok.p,fun c zs hc hZ=>?_⟩
  have s2:eZ H1 (upd H1 c (.lst zs)):=fC hc
  have e2:upd H1 c (.lst zs) c=some (.lst zs):=fv
  generalize upd H1 c (.lst zs)=H2 at s2 e2 ⊢
  refine⟨(by show 0<=sizeLine;decide),fun c2 aR=>?_⟩
  have s3:eZ H2 (upd H2 c2 (.lst [])):=fC aR
  have e3:upd H2 c2 (.lst []) c2=some (.lst []):=fv
  generalize upd H2 c2 (.lst [])=H3 at s3 e3 ⊢
  have aj:=s2.trans s3
  have aS:=s1.trans aj
  refine⟨.list (jA (wi k I.flatten)),.list [],.lst (fj.of (s3 _ _ e2)) (oZ (hZ.same aj)),.lst (fj.of e3) .nil,p9 (fun p hp=>hok.g p ((List.mem_filter.mp hp).1)),rfl,(by have:=pD (wi k I.flatten);omega),?_⟩
  rw [Al]
  obtain⟨L3,l3,ae,n3,t3⟩:=hs.ext aS
  have af:=l3 _ _ aB
  have ak:gL L3 rs I:=hR.same l3
  obtain⟨vl,dx,bs,av,_⟩:=ae.ex
  obtain⟨has,U⟩:∃ b,b= !decide (wi k I.flatten=[]):=⟨_,rfl⟩
  rw [<-U]
  have stay:Q (.ref rl) H3:=kk rl rs I L3 H3 l3 ae af ak au hok (List.sublist_append_left _ _) (Nat.le_succ _)
  show R3 _ [some (.ref x),some (.ref rl),some (.ref dd),some (.str wy),some (.str k),some (.str t),some (.ref th),some (.bl has)] H3
  refine ic (R:=R3) aQ fun R4 aT=>?_
  have W1:R4 {nx:=fun x H'=>Q V.non H',rt:=Q} [some (.ref x),some (.ref rl),some (.ref dd),some (.str wy),some (.str k),some (.str t),some (.ref th),some (.bl has)] H3:=by
   refine ic (R:=R4) aT fun R5 ag=>?_
   have W2:R5 {nx:=fun x H'=>Q V.non H',rt:=Q} [some (.ref x),some (.ref rl),some (.ref dd),some (.str wy),some (.str k),some (.str t),some (.ref th),some (.bl has)] H3:=by
    subst ag
    refine⟨_,rfl,rfl,_,rfl,?_⟩
    refine jX (fun _=>?_) (fun _=>⟨_,rfl,stay⟩)
    refine⟨_,rfl,x,dx,_,rfl,av,jB,x,I,L3,rfl,ae,hok,fun H4 J=>?_⟩
    rw [Bb au] at J
    obtain⟨L4,l4,aX,n4,t4⟩:=J.ext (eZ.refl _)
    have ar:L3 th=some (.lst xs):=n3 _ _ aP (aj _ _ ao)
    have aG:gm L3 xs (I.flatten.map kp):=Gn.Paired.imp2 (aq.same aj) fun _ _ ⟨b,e,y⟩=>⟨b,e,t3 _ _ y⟩
    have aH:=J.s
    refine⟨_,rfl,(by show 1<=sizeLine;decide),fun g1 aU=>?_⟩
    have s5:eZ H4 (upd H4 g1 (.lst [.ref th])):=fC aU
    have e5:upd H4 g1 (.lst [.ref th]) g1=some (.lst [.ref th]):=fv
    generalize upd H4 g1 (.lst [.ref th])=H5 at s5 e5 ⊢
    refine⟨_,rfl,(by show 0<=sizeLine;decide),fun g2 aV=>?_⟩
    have s6:eZ H5 (upd H5 g2 (.lst [])):=fC aV
    have e6:upd H5 g2 (.lst []) g2=some (.lst []):=fv
    generalize upd H5 g2 (.lst [])=H6 at s6 e6 ⊢
    have aa:=s5.trans s6
    refine⟨.list (jA I.flatten),.list [],.lst (fj.of (aa _ _ (aH _ _ ar))) (oZ (aG.same (aH.trans aa))),.lst (fj.of e6) .nil,p9 hok.g,rfl,(by have:=pD I.flatten;omega),?_⟩
    rw [Al]
    refine .inr ⟨_,rfl,?_⟩
    by_cases h0:I.flatten=[]
    ·rw [decide_eq_true h0]
     rw [if_pos h0] at J
     refine⟨g1,0,_,rfl,rfl,s6 _ _ e5,by decide,by decide,Nat.zero_le _,fun g3 ah=>?_⟩
     obtain⟨L7,l7,aw,n7,t7⟩:=J.ext (aa.trans (fC (o:= .lst []) ah))
     exact kk g3 [] [] L7 _ (l3.trans l7) aw (n7 _ _ (aa.free ah) fv) .nil (fun _ z=>nomatch z) (hok.sub (List.nil_sublist _) (by decide)) (List.nil_sublist _) (Nat.zero_le _)
    ·rw [decide_eq_false h0]
     rw [if_neg h0] at J
     refine⟨g1,1,_,rfl,rfl,s6 _ _ e5,by decide,by decide,(by show 1 * 1<=sizeLine;decide),fun g3 ah=>?_⟩
     obtain⟨L7,l7,aw,n7,t7⟩:=J.ext (aa.trans (fC (o:= .lst [.ref th]) ah))
     refine kk g3 [.ref th] [I.flatten] L7 _ (l3.trans l7) aw (n7 _ _ (aa.free ah) fv) (.cons ⟨th,xs,rfl,l7 _ _ ar,aG.same l7⟩ .nil) (fun ps z=>by rw [List.mem_singleton.mp z];exact h0) (hok.sub (by simp) (by show 1<=90;decide)) (by simp) (by show 1<=_;omega)
   refine⟨_,rfl,rfl,_,rfl,?_⟩
   refine jX (fun _=>?_) (fun _=>fO W2)
   refine⟨_,rfl,has,rfl,?_⟩
   cases hb:has with
   | false=>rw [hb] at W2;exact fO W2
   | true=>
    have hk:k∈keysOf I:=by
     rw [hb] at U
     have:¬ wi k I.flatten=[]:=fun z=>by rw [decide_eq_true z] at U;cases U
     exact Classical.byContradiction fun c=>this (xk.mpr c)
    refine fY ⟨_,rfl,x,dx,_,rfl,av,jB,_,rfl,x,k,I,L3,rfl,ae,hok,hk,fun tx H4 _ J=>?_⟩
    refine⟨_,rfl,_,rfl,rl,rs,I,k,rfl,J.s _ _ af,ak.same J.s,hok,fun l ax H5 s5 hl ay ag az=>?_⟩
    obtain⟨L5,l5,aA,n5,t5⟩:=J.ext s5
    exact kk l ax _ L5 H5 (l3.trans l5) aA (n5 _ _ hl ay) (ag.own (fun p l hp e=>n5 _ _ (az p hp) e) t5) (fun ps hp=>by
     unfold kU iB at hp
     have:=(List.mem_filter.mp hp).2
     intro z
     rw [z] at this
     cases this) (hok.sub (vS k I) (Nat.le_trans (uL k I) hok.l)) ((vS k I).trans (List.sublist_append_left _ _)) (Nat.le_succ_of_le (uL k I))
  refine⟨_,rfl,rfl,_,rfl,?_⟩
  refine jX (fun _=>?_) (fun _=>fO W1)
  refine⟨_,rfl,has,rfl,?_⟩
  cases hb:has with
  | true=>rw [hb] at W1;exact fO W1
  | false=>
   have hk:k∉keysOf I:=by
    rw [hb] at U
    have:wi k I.flatten=[]:=Classical.byContradiction fun z=>by rw [decide_eq_false z] at U;cases U
    exact xk.mp this
   have ai:=aC hk
   refine fY ⟨_,rfl,x,dx,_,rfl,av,jB,_,rfl,_,rfl,x,k,t,I,L3,rfl,ae,ai,fun H4 J=>?_⟩
   refine⟨_,rfl,_,rfl,_,rfl,rl,rs,I,k,t,rfl,J.s _ _ af,ak.same J.s,hok.l,hok.p,fun l ax H5 s5 hl ay ag az=>?_⟩
   obtain⟨L5,l5,aA,n5,t5⟩:=J.ext s5
   have ef:(jE I [(k,t)]).flatten=(I++[[(k,t)]]).flatten:=by rw [sZ,List.flatten_append];simp
   refine kk l ax _ L5 H5 (l3.trans l5) aA (n5 _ _ hl ay) (ag.own (fun p l hp e=>?_) t5) (Ab (by simp) au) (ai.sub (by rw [ef];exact List.Sublist.refl _) ?_) (by rw [sZ];exact List.Sublist.refl _) (vm _ _)
   ·rcases az p hp with z | z
    ·obtain⟨ps,_,p',aY,ep,e',_⟩:=oO ak z
     have:=V.ref.inj ep
     subst this
     have e5:=(J.s.trans s5) _ _ e'
     rw [e] at e5
     cases e5
     exact l5 _ _ e'
    ·exact n5 _ _ z e
   ·have h1:=vm I [(k,t)]
    have h2:=ai.l
    rw [List.length_append] at h2
    exact Nat.le_trans h1 h2
abbrev rW:List Str:=["_law_house","_law_rows","_law_told","_law_found","_law_row"]
theorem sx:fU rW ["_law_house","_law_rows"] (fD lH):=⟨rfl,rfl,rfl,dk,rfl,dk,dk⟩
theorem D3:(["_law_one"]:List Str).Nodup:=dk
def uZ:TE:=fun σ H Q=>∃(J:Addr) (rs:List V) (I:List (List (Str×Str))),σ[1]? =some (some (.ref J))/\H J=some (.lst rs)/\gL H rs I/\I.length<=90/\∀ l,H l=none->Q (.ref l) (upd H l (.lst (nl (I.map List.length))))
def AF(K:W.Frag):TE:=fun σ H Q=>∃(tl:Addr) (ns:List Nat),σ[2]? =some (some (.ref tl))/\H tl=some (.lst (nl ns))/\ns.length<=90/\∀ l,H l=none->Q (.ref l) (upd H l (.lst []))
theorem zk{σ:L2.St}{H1:Hp}{Q1:VK}{te:TE}(hte:∀(σ0:L2.St) (p:Addr) (xs:List V) (H:Hp) (M:VK),σ0[0]? =some (some (.ref p))->H p=some (.lst xs)->M (.int (xs.length:Int)) H->te σ0 H M)(h:uZ σ H1 Q1):
  qd 1 [] (uN K (jQ 1)) (jC 0) q5 te σ H1 Q1:=by
 obtain⟨rl,rs,U,h1,I,hR,hl,q⟩:=h
 have hz:(sizeLine:Nat)=16777216:=sizeLine_eq
 have aa:=Gn.Paired.len hR
 refine⟨_,h1,rl,rfl,⟨_,fj.of I⟩,jk (xs:=rs) (fun i ys H'=>H'=H1/\ys=nl ((U.take i).map List.length)) (by omega) (fun i ys H' p=>by rw [p.1];exact fj.of I) ⟨rfl,rfl⟩ ?_ ?_⟩
 ·rintro i v ys H' N hv ⟨rfl,rfl⟩ hN
  obtain⟨ps,ab,p,xs,rfl,hp,hP⟩:=gW hR hv
  have J:=Gn.Paired.len hP
  rw [List.length_map] at J
  refine g1 (hte _ p xs H' _ rfl hp (hN _ _ ⟨rfl,?_⟩))
  rw [take_snoc ab,List.map_append,jx,J]
  rfl
 ·rintro ys H' ⟨rfl,rfl⟩ _ l hl
  rw [aa,List.take_length]
  exact q l hl
def xW(C CH:Addr):Sp:=fun vs H Q _=>∃(x J:Addr) (rs:List V) (I:List (List (Str×Str))),vs=[.ref x,.ref J]/\jV C CH H x I/\H J=some (.lst rs)/\gL H rs I/\gN I/\∀ H',eZ H H'->Q (.bl true) H'
seal fM PS PE PT PA PG PI fT fS in
theorem Bm{f fb fs:Addr}{fd fdb fds:FuncData}(D:Df K mg "_law_right" lH f fd)(HC:jH K mg C CH)(FB:fV K "books" "House.books" kK fb fdb)(mB:Meth K CH "books" fb)(GB:fx P w K mg base fE 2 fb fdb ["self"] (vq C CH))
  (FS:fV K "shelves" "House.shelves" lD fs fds)(mS:Meth K CH "shelves" fs)(GS:fx P w K mg base fE 1 fs fds ["self"] (ue C CH))(T:Txt mg):fx P w K mg base fE 3 f fd ["_law_house","_law_rows"] (xW C CH):=by
 have bB:=FB.binds (ps:=["self"]) fun _ _ _ _ _ _ us hl=>jY (fun _=>rfl) us hl
 have bS:=FS.binds (ps:=["self"]) fun _ _ _ _ _ _ us hl=>jY (fun _=>rfl) us hl
 refine D.F.ok sx (fun vs H Q E h=>?_) (fun cdv A outer s H vs Q E hr h=>?_)
 ·obtain⟨x,rl,rs,I,rfl,_⟩:=h
  rfl
 ·obtain⟨x,rl,rs,I,rfl,hH,aj,hR,hok,kk⟩:=h
  have hz:(sizeLine:Nat)=16777216:=sizeLine_eq
  have hu:=hr.units100
  have ae:=hok.l
  refine⟨_,fq (fG (i:=2) sx.nd rfl (Or.inl rfl) (ji (pv 0) HC.cl mB GB hr bB .nil fL))
   (fq (fG (i:=3) sx.nd rfl (Or.inl rfl) (ji (pv 0) HC.cl mS (GS.mono (by decide)) hr bS .nil fL))
   (fq (gj (PW.pt (jr (hJ (gT (gn (u9 (K:=K) rfl) rfl T.isi i9 (eY (pv 2) (eY (jN (v:= .ty "list") rfl T.list kZ rfl) fe)))))
     (jr (gi (oJ hu) (pv 2) (PE.imp (t':=uZ) (il (own:=1) (caps:=[]) (N:=["_law_row"]) (N0:=rW) (sc0:=fD lH) rfl (gK (pv 1))
      (fun _ _ _=>fR (i:=0) vg rfl (Or.inl rfl)) (fun _ _ _=>iL) (fun _ _ _=>gn (tR (K:=K) rfl) rfl T.len g9 (eY (pv 0) fe)) (gY (by decide)) rfl rfl
      dk rfl dk dk rfl dk) ?mA) (f9 _)) (kf (gi (oJ hu) (pv 3) (pv 1) (f9 _)))))) (fA (fP iG)) gh)
   (fq (gj (PW.pt (jr (gi (oJ hu) (PE.imp (t':=AF K) (il (own:=1) (caps:=[]) (N:=["_law_one"]) (N0:=rW) (sc0:=fD lH) rfl (gK (pv 2))
      (fun _ _ _=>fR (i:=0) D3 rfl (Or.inl rfl)) (fun _ _ _=>qE (gT (gn (u9 (K:=K) rfl) rfl T.isi i9 (eY (pv 0) (eY (jN (v:= .ty "bool") rfl T.bool zR rfl) fe))))) (fun _ _ _=>pv 0) (gY (by decide)) rfl rfl
      dk rfl dk dk rfl dk) ?mB) (gf fe) (f9 _))
     (kf (hJ (gT (gn (u9 (K:=K) rfl) rfl T.isi i9 (eY (pv 3) (eY (jN (v:= .ty "list") rfl T.list kZ rfl) fe)))))))) (fA (fP iG)) gh)
   (fq (gB (gQ F.plainAttrs_list F.slot_list_append F.type_list_append iO (pv 2) (eY fy fe)))
   (fq (gO PassesOwn.never rfl (gK (pv 3)) (fR (i:=4) sx.nd rfl (Or.inl rfl))
    (fA (gB (gQ F.plainAttrs_list F.slot_list_append F.type_list_append iO (pv 4) (eY (iV (eY gd (eY gd fe))) fe)))))
   (fq (gB (gQ F.plainAttrs_list F.slot_list_append F.type_list_append iO (pv 3) (eY (gf fe) fe)))
   (fA (fP (nW (j1 (qi hu) (ji (pv 0) HC.cl mB GB hr bB .nil fL) (PE.imp (t':=uZ) (il (own:=1) (caps:=[]) (N:=["_law_row"]) (N0:=rW) (sc0:=fD lH) rfl (gK (pv 1))
      (fun _ _ _=>fR (i:=0) vg rfl (Or.inl rfl)) (fun _ _ _=>iL) (fun _ _ _=>gn (tR (K:=K) rfl) rfl T.len g9 (eY (pv 0) fe)) (gY (by decide)) rfl rfl
      dk rfl dk dk rfl dk) ?mC) (f9 _))
     (oV (j1 (qi hu) (ji (pv 0) HC.cl mS (GS.mono (by decide)) hr bS .nil fL) (pv 1) (f9 _)))))))))))),?_⟩
  case mA=>exact fun σ H1 Q1 h=>zk (fun aV p xs H M h0 U hM=>⟨_,h0,p,xs,rfl,.inl (fj.of U),hM⟩) h
  case mC=>exact fun σ H1 Q1 h=>zk (fun aV p xs H M h0 U hM=>⟨_,h0,p,xs,rfl,.inl (fj.of U),hM⟩) h
  case mB=>
   rintro σ H1 Q1 ⟨tl,ns,h2,af,hn,q⟩
   refine⟨_,h2,tl,rfl,⟨_,fj.of af⟩,jk (xs:=nl ns) (fun i ys H'=>H'=H1/\ys=[]) (by rw [List.length_map];omega) (fun i ys H' p=>by rw [p.1];exact fj.of af) ⟨rfl,rfl⟩ ?_ ?_⟩
   ·rintro i v ys H' N hv ⟨rfl,rfl⟩ hN
    obtain⟨n,_,rfl⟩:=List.mem_map.mp (List.mem_of_getElem? hv)
    refine⟨_,rfl,_,.ty "bool",_,_,rfl,.int _,.inl ⟨_,rfl,ye (H:=H') (x:=V.int (n:Int)) (.int _)⟩,_,rfl,fO (hN _ _ ⟨rfl,rfl⟩)⟩
   ·rintro ys H' ⟨rfl,rfl⟩ _ l hl
    exact q l hl
  obtain⟨vl,dx,bs,hx,_⟩:=hH.ex
  have hd:(PyData.list (dN (I.map List.length))).canLay0=true:=yM _
  have bf:=wQ (I.map List.length)
  have J:(PyData.list (ke I)).canLay0=true:=xF hok.all
  have aW:=xC I
  refine⟨_,rfl,x,dx,_,rfl,hx,jB,x,I,rfl,hH,(by omega),fun tl af=>?_⟩
  have s1:eZ H (upd H tl (.lst (nl (I.map List.length)))):=fC af
  have e1:upd H tl (.lst (nl (I.map List.length))) tl=some (.lst (nl (I.map List.length))):=fv
  generalize upd H tl (.lst (nl (I.map List.length)))=H1 at s1 e1 ⊢
  refine⟨_,rfl,x,dx,_,rfl,s1 _ _ hx,jB,x,I,rfl,hH.same s1,(by omega),fun fl ss H2 s2 ak ab=>?_⟩
  have s3:eZ H2 (upd H2 fl (.lst ss)):=fC ak
  have e3:upd H2 fl (.lst ss) fl=some (.lst ss):=fv
  have aG:=s1.trans s2
  have aH:H fl=none:=aG.free ak
  have ay:=ab.same s3
  have aI:∀ p,V.ref p∈ss->p≠fl:=fun p U z=>by
   obtain⟨ps,_,p',ys,ep,_,e',_⟩:=oO ab U
   have:=V.ref.inj ep
   subst this
   rw [z,ak] at e'
   cases e'
  generalize upd H2 fl (.lst ss)=H3 at s3 e3 ay ⊢
  have aB:=aG.trans s3
  have ao:=s2.trans s3
  have bg:=Gn.Paired.len ab
  refine⟨_,rfl,_,_,_,_,rfl,.lst (ao _ _ e1),.inl ⟨_,rfl,qW⟩,_,rfl,fO ⟨_,rfl,?_⟩⟩
  refine⟨rl,rs,I,rfl,aB _ _ aj,hR.same aB,ae,fun c1 aX=>?_⟩
  have s4:eZ H3 (upd H3 c1 (.lst (nl (I.map List.length)))):=fC aX
  have e4:upd H3 c1 (.lst (nl (I.map List.length))) c1=some (.lst (nl (I.map List.length))):=fv
  generalize upd H3 c1 (.lst (nl (I.map List.length)))=H4 at s4 e4 ⊢
  have aC:=aB.trans s4
  refine⟨_,_,.lst (fj.of ((ao.trans s4) _ _ e1)) (p6 _),.lst (fj.of e4) (p6 _),hd,hd,(by omega),_,rfl,?_⟩
  rw [rE hd]
  refine fO ⟨_,rfl,_,rfl,.list (ke I),.list (ke I),.lst (fj.of (s4 _ _ e3)) (qf (ay.rw.same s4)),.lst (fj.of (aC _ _ aj)) (qf (hR.same aC)),J,J,(by omega),_,rfl,?_⟩
  rw [rE J]
  refine fO ?_
  refine⟨tl,I.map List.length,rfl,(ao.trans s4) _ _ e1,(by rw [List.length_map];exact ae),fun c2 aY=>?_⟩
  have s5:eZ H4 (upd H4 c2 (.lst [])):=fC aY
  have e5:upd H4 c2 (.lst []) c2=some (.lst []):=fv
  generalize upd H4 c2 (.lst [])=H5 at s5 e5 ⊢
  refine⟨(by show 0<=sizeLine;decide),fun c3 aZ=>?_⟩
  have s6:eZ H5 (upd H5 c3 (.lst [])):=fC aZ
  have e6:upd H5 c3 (.lst []) c3=some (.lst []):=fv
  generalize upd H5 c3 (.lst [])=H6 at s6 e6 ⊢
  have aJ:=s5.trans s6
  have aq:=s4.trans aJ
  have a0:=aC.trans aJ
  refine⟨.list [],.list [],.lst (fj.of (s6 _ _ e5)) .nil,.lst (fj.of e6) .nil,rfl,rfl,(by decide),_,rfl,fO ⟨_,rfl,_,_,_,_,rfl,.lst (aq _ _ e3),.inl ⟨_,rfl,qW⟩,_,rfl,fO ?_⟩⟩
  have az:=(ao.trans aq) _ _ e1
  refine⟨_,rfl,.inl ⟨rfl,_,fj.of az⟩,tl,_,_,rfl,rfl,az,(by rw [List.length_map,List.length_map];omega),?_⟩
  have a3:∀{b u},H b=some u->b≠tl:=fun e=>fW e af
  have a4:fl≠tl:=fun z=>by have:=s2 _ _ e1;rw [<-z,ak] at this;cases this
  have a5:∀ p,V.ref p∈ss->p≠tl:=fun p U z=>by
   obtain⟨ps,_,p',ys,ep,hn,_⟩:=oO ab U
   have:=V.ref.inj ep
   subst this
   rw [z,e1] at hn
   cases hn
  have h7:∀ b u,H6 b=some u->b≠tl->upd H6 tl (.lst (nl (I.map List.length)++[.int 9])) b=some u:=fun b u e n=>(fB n).trans e
  generalize upd H6 tl (.lst (nl (I.map List.length)++[.int 9]))=H7 at h7 ⊢
  have a6:eZ H H7:=fun b u e=>h7 _ _ (a0 _ _ e) (a3 e)
  have aK:=h7 _ _ (aq _ _ e3) a4
  refine⟨_,rfl,fl,rfl,⟨_,fj.of aK⟩,?_⟩
  refine jl (xs:=ss) (fun i σ H'=>∃ o4:Option V,σ=[some (.ref x),some (.ref rl),some (.ref tl),some (.ref fl),o4]/\eZ H H'/\H' fl=some (.lst ss)/\∀ p,V.ref p∈ss->H p=none/\∃ ys,H' p=some (.lst ys)/\ys.length<=150 + i) ?_ ?_ ?_ ?_
  ·refine⟨none,rfl,a6,aK,fun p U=>?_⟩
   obtain⟨ps,ar,p',ys,ep,hn,e',hP⟩:=oO ab U
   have:=V.ref.inj ep
   subst this
   have hl:=Gn.Paired.len hP
   rw [List.length_map] at hl
   have h2:=Nat.le_trans (j3 ar).length_le hok.p
   exact⟨s1.free hn,ys,h7 _ _ ((s3.trans aq) _ _ e') (a5 _ U),by omega⟩
  ·rintro i σ H' _ ⟨_,_,_,e,_⟩
   exact fj.of e
  ·rintro i v σ H' hv ⟨o4,rfl,sm,aL,ar⟩
   obtain⟨ps,_,p,_,rfl,_⟩:=oO ab (List.mem_of_getElem? hv)
   have aM:=List.mem_of_getElem? hv
   obtain⟨a7,ys,U,bj⟩:=ar p aM
   refine⟨_,rfl,.inl ⟨rfl,_,fj.of U⟩,(by show 2<=sizeLine;decide),fun q hq=>?_⟩
   have s8:eZ H' (upd H' q (.tup [.str "more",.str ""])):=fC hq
   change ∃ _,_
   have bo:i < ss.length:=(List.getElem?_eq_some_iff.mp hv).1
   refine⟨p,ys,_,rfl,rfl,s8 _ _ U,by omega,?_⟩
   refine⟨_,rfl,fun b u e=>(fB (fW e a7)).trans ((sm.trans s8) _ _ e),(fB (Ne.symm (aI p aM))).trans (s8 _ _ aL),fun p' a8=>?_⟩
   obtain⟨aN,aO,aD,bh⟩:=ar p' a8
   refine⟨aN,?_⟩
   by_cases e:p'=p
   ·subst e
    have ey:ys=aO:=by rw [U] at aD;cases aD;rfl
    subst ey
    exact⟨_,fv,by rw [List.length_append];show ys.length + 1<=_;omega⟩
   ·exact⟨aO,(fB e).trans (s8 _ _ aD),by omega⟩
  ·rintro σ H8 ⟨o4,rfl,a9,aA,_⟩
   refine⟨_,rfl,.inl ⟨rfl,_,fj.of aA⟩,(by show 0<=sizeLine;decide),fun c hc=>?_⟩
   have s9:eZ H8 (upd H8 c (.lst [])):=fC hc
   refine⟨fl,ss,_,rfl,rfl,s9 _ _ aA,by omega,?_⟩
   have aa:eZ H (upd (upd H8 c (.lst [])) fl (.lst (ss++[.ref c]))):=fun b u e=>(fB (fW e aH)).trans ((a9.trans s9) _ _ e)
   generalize upd (upd H8 c (.lst [])) fl (.lst (ss++[.ref c]))=au at aa ⊢
   refine⟨_,rfl,x,dx,_,rfl,aa _ _ hx,jB,x,I,rfl,hH.same aa,(by omega),fun t2 ba=>?_⟩
   have aP:eZ au (upd au t2 (.lst (nl (I.map List.length)))):=fC ba
   have aQ:upd au t2 (.lst (nl (I.map List.length))) t2=some (.lst (nl (I.map List.length))):=fv
   generalize upd au t2 (.lst (nl (I.map List.length)))=av at aP aQ ⊢
   have ag:=aa.trans aP
   refine⟨rl,rs,I,rfl,ag _ _ aj,hR.same ag,ae,fun c4 bb=>?_⟩
   have aE:eZ av (upd av c4 (.lst (nl (I.map List.length)))):=fC bb
   have aR:upd av c4 (.lst (nl (I.map List.length))) c4=some (.lst (nl (I.map List.length))):=fv
   generalize upd av c4 (.lst (nl (I.map List.length)))=bp at aE aR ⊢
   have ah:=ag.trans aE
   refine⟨_,_,.lst (fj.of (aE _ _ aQ)) (p6 _),.lst (fj.of aR) (p6 _),hd,hd,(by omega),_,rfl,?_⟩
   rw [rE hd]
   refine fY ⟨_,rfl,x,dx,_,rfl,ah _ _ hx,jB,x,I,rfl,hH.same ah,(by omega),fun f2 aw ax aS bc aT=>?_⟩
   have aF:eZ ax (upd ax f2 (.lst aw)):=fC bc
   have aU:upd ax f2 (.lst aw) f2=some (.lst aw):=fv
   generalize upd ax f2 (.lst aw)=bq at aF aU ⊢
   have ai:=(ah.trans aS).trans aF
   refine⟨_,rfl,.list (ke I),.list (ke I),.lst (fj.of aU) (qf (aT.rw.same aF)),.lst (fj.of (ai _ _ aj)) (qf (hR.same ai)),J,J,(by omega),?_⟩
   rw [rE J]
   exact kk _ ai
end
end K28
namespace L2
open PySem PySem.Spec PyProof.Rows
theorem tH{K:W.Frag}{H:Hp}:∀(ns:List Bool),i8 K H (ns.map V.bl) (ns.map PyData.bool)
 | []=> .nil
 | n::ns=> .cons (.bl n) (tH ns)
theorem tJ:∀(ns:List Bool),(ns.map PyData.bool).all Shape.bool.has=true
 | []=>rfl
 | n::ns=>by rw [List.map_cons,List.all_cons,tJ ns];rfl
section
variable {X : Cx}
theorem EV:j5 X "list.count" (fun x xs H Q=>∃(p:Addr) (bs:List Bool) (k:Bool),x= .ref p/\xs=[.bl k]/\fj X.K H p (bs.map V.bl)/\Q (.int (Spec.countIn (.bool k) (bs.map PyData.bool))) H):=by
 intro pins s σ H x xs v us Q I J rs h
 obtain⟨p,bs,k,rfl,rfl,U,q⟩:=h
 cases J
 obtain⟨u,rfl,r1⟩:=vals1 rs
 cases r1
 obtain⟨aa,r,pl,_⟩:=I.list U
 obtain⟨as,ra⟩:=i8.reads I (tH (K:=X.K) (H:=H) bs) r
 exact count_list_bools pl.isList ra (tJ bs) ⟨.int _,H,I.tok _,⟨_,rfl⟩,q⟩
theorem B5:j5 X "list.index" (fun x xs H Q=>∃(p:Addr) (bs:List Bool) (k:Bool) (j:Nat),x= .ref p/\xs=[.bl k]/\fj X.K H p (bs.map V.bl)/\j < 1000/\bs[j]? =some k/\(∀ m,m < j->bs[m]? ≠some k)/\Q (.int j) H):=by
 intro pins s σ H x xs v us Q I rx rs h
 obtain⟨p,bs,k,j,rfl,rfl,hq,hj,hit,aa,q⟩:=h
 cases rx
 obtain⟨u,rfl,r1⟩:=vals1 rs
 cases r1
 obtain⟨J,r,pl,_⟩:=I.list hq
 obtain⟨as,ra⟩:=i8.reads I (tH (K:=X.K) (H:=H) bs) r
 obtain⟨⟨cls,dd,data,sl⟩,ho,hc,n,hd⟩:=pl.isList
 simp only at hc hd
 subst hc hd
 have hlen:=r.length
 rw [List.length_map] at hlen
 have U:j < J.length:=by
  rw [<-hlen]
  exact(List.getElem?_eq_some_iff.mp hit).1
 refine call_meets F.slot_list_index ⟨_,ho,rfl⟩ F.entry_list_index (F.args_list_index_2 _ _)
  (SeqAt.list_indexAt p J.toArray n dd sl (.bool k) (isBoolOf k) j (by simpa using U) (by omega) ?_ ?_) ⟨ho,fun y hy=>eq_isBoolOf k ra (tJ bs) y (by simpa using hy) _ _,⟨.int _,H,I.tok _,⟨_,rfl⟩,q⟩⟩
 ·show isBoolOf k J[j]=true
  obtain⟨b,e1,e2⟩:=rm r j J[j] (List.getElem?_eq_getElem U)
  rw [hit] at e1
  rw [e2,<-Option.some.inj e1]
  exact beq_self_eq_true k
 ·intro m hm ab
  have ae:m < J.length:=by simpa using hm
  show isBoolOf k J[m]=false
  obtain⟨b,e1,e2⟩:=rm r m J[m] (List.getElem?_eq_getElem ae)
  rw [e2]
  refine beq_eq_false_iff_ne.mpr fun z=>aa m ab ?_
  rw [e1,z]
end
theorem ID{X:Cx}{K:W.Frag}(h:X.K=K):j5 X "list.count" (fun x xs H Q=>∃(p:Addr) (bs:List Bool) (k:Bool),x= .ref p/\xs=[.bl k]/\fj K H p (bs.map V.bl)/\Q (.int (Spec.countIn (.bool k) (bs.map PyData.bool))) H):=by subst h;exact EV
theorem Ct{X:Cx}{K:W.Frag}(h:X.K=K):j5 X "list.index" (fun x xs H Q=>∃(p:Addr) (bs:List Bool) (k:Bool) (j:Nat),x= .ref p/\xs=[.bl k]/\fj K H p (bs.map V.bl)/\j < 1000/\bs[j]? =some k/\(∀ m,m < j->bs[m]? ≠some k)/\Q (.int j) H):=by subst h;exact B5
end L2
namespace K28
open PySem L2 PyProof.Rows PySem.Spec Gn K04 K01 BK
structure CF (K : W.Frag) (CA CK CT C2 CNo D : Addr) (i : Nat) : Prop where
 x : W.ExcCls K D
 k0 : W.kitOne K (.ref D) (.ref CK) = some (decide (i = 0))
 k1 : W.kitOne K (.ref D) (.ref CT) = some (decide (i = 1))
 k2 : W.kitOne K (.ref D) (.ref C2) = some (decide (i = 2))
 n : W.kitOne K (.ref D) (.ref CNo) = some false
 v : W.kitOne K (.ref D) (.type "ValueError") = some true
 e : W.exmOne K (.ref D) (.ref CA) = some true
structure tu (K : W.Frag) (mg : Str -> Option Value) (CA CK CT C2 CNo : Addr) : Prop where
 h : mg "HallError" = some (.ref CA)
 m0 : mg "BadKey" = some (.ref CK)
 m1 : mg "BadText" = some (.ref CT)
 m2 : mg "Twice" = some (.ref C2)
 m4 : mg "NoText" = some (.ref CNo)
 k : CF K CA CK CT C2 CNo CK 0
 t : CF K CA CK CT C2 CNo CT 1
 d : CF K CA CK CT C2 CNo C2 2
theorem tu.at {K:W.Frag}{mg:Str->Option Value}{CA CK CT C2 CNo:Addr}(F:tu K mg CA CK CT C2 CNo):∀{i:Nat},i < 3->CF K CA CK CT C2 CNo (kX CK CT C2 i) i
 | 0,_=>F.k
 | 1,_=>F.t
 | 2,_=>F.d
 | i + 3,h=>by omega
def ll(i:Nat):List Bool:=[decide (i=0),decide (i=1),decide (i=2)]
theorem HD:∀ i,i < 3->Spec.countIn (.bool true) ((ll i).map PyData.bool)=1:=by decide
theorem EA:∀ i,i < 3->(ll i)[i]? =some true:=by decide
theorem El:∀ i,i < 3->∀ m,m < i->(ll i)[m]? ≠some true:=by decide
theorem zo:∀{kts:List (V×V)} {seen:List Str} {i:Nat},ik seen kts=some i->i < 3
 | [],_,_,h=>by cases h
 | (k,t)::r,seen,i,h=>by
  unfold ik at h
  split at h
  ·cases h;decide
  ·split at h
   ·cases h;decide
   ·split at h
    ·cases h;decide
    ·exact zo h
theorem Au{b:List (V×V)}:∀{ps:List (Str×Str)} {seen:List Str},(∀ p∈ps,fZ 12 (.str p.1)=true/\gq (.str p.2)=true)->(ps.map (·.1)).Nodup->(∀ p∈ps,p.1∉seen)->ik seen (ps.map kp++b)=ik (seen++ps.map (·.1)) b
 | [],seen,_,_,_=>by rw [List.map_nil,List.map_nil,List.nil_append,List.append_nil]
 | p::ps,seen,J,hn,hs=>by
  obtain⟨g1,g2⟩:=J p List.mem_cons_self
  have U:(p.1::ps.map (·.1)).Nodup:=hn
  obtain⟨n1,n2⟩:=List.nodup_cons.mp U
  show(if fZ 12 (.str p.1)=false then some 0 else if gq (.str p.2)=false then some 1 else if p.1∈seen then some 2 else ik (seen++[p.1]) (ps.map kp++b))=_
  rw [if_neg (by rw [g1];decide),if_neg (by rw [g2];decide),if_neg (hs p List.mem_cons_self),Au (fun q I=>J q (List.mem_cons_of_mem _ I)) n2 (fun q I hm=>?_),List.append_assoc]
  ·rfl
  ·rcases List.mem_append.mp hm with hm | hm
   ·exact hs q (List.mem_cons_of_mem _ I) hm
   ·exact n1 (by rw [<-List.mem_singleton.mp hm];exact List.mem_map.mpr ⟨q,I,rfl⟩)
theorem pC{seen:List Str}{a b:V}:ik seen [(a,b)]=if fZ 12 a=false then some 0 else if gq b=false then some 1 else if jf a∈seen then some 2 else none:=rfl
section
variable {P : Program} {w : World} {K : PySem.W.Frag} {mg : Str -> Option Value} {base : Heap} {C CH CA CK CT C2 CNo : Addr}
def zg(K:W.Frag):Sp:=fun vs H Q _=>∃(sl:Addr) (ss:List V) (I:List (List (V×V))) (i:Nat),vs=[.ref sl]/\H sl=some (.lst ss)/\oj H ss I/\I.flatten.length<=300/\I.length<=90/\(∀ kt∈I.flatten,js K H kt)/\ik [] I.flatten=some i/\
 ∀ H',eZ H H'->Q (.int (i:Int)) H'
theorem vW:fU ["_law_shelves","e","_law_found"] ["_law_shelves"] (fD qg):=⟨rfl,rfl,rfl,dk,rfl,dk,dk⟩
seal fM PS PE PT PA PG PI fT fS in
theorem CB{f fo:Addr}{fd fdo:FuncData}(D:Df K mg "_law_refused" qg f fd)(X:tu K mg CA CK CT C2 CNo)(DO:Df K mg "house_of" nB fo fdo)(GO:fx P w K mg base (fQ P w) 10 fo fdo ["shelves"] (wu K C CH CK CT C2))(T:Txt mg):
  fx P w K mg base fE 11 f fd ["_law_shelves"] (zg K):=by
 have bO:=gu (p:="shelves") DO.F fun _ _ _ _ _ _ _=>rfl
 refine D.F.ok vW (fun vs H Q E h=>?_) (fun cdv A outer s H vs Q E hr h=>?_)
 ·obtain⟨sl,ss,J,i,rfl,_⟩:=h
  rfl
 ·obtain⟨sl,ss,J,i,rfl,ae,hS,U,aa,hk,hb,kk⟩:=h
  refine⟨_,fq (Dm (CH:=CA) (i:=1) (fun σ cls _ H'=>σ=[some (.ref sl),none,none]/\eZ H H'/\cls= .ref (kX CK CT C2 i)) rfl rfl vW.nd rfl rfl rfl X.h
    (fun p xe hx=>fA (gB (FU GO hr rfl DO.m DO.F.kp bO .nil hx (eY (pv 0) fe))))
    (fun I p=>fq (fG (i:=2) vW.nd rfl (Or.inl rfl) (gf (eY (gn (pK (K:=K) rfl) rfl T.isi i9 (eY (pv 1) (eY (iY (v:= .ref CK) rfl X.m0 rfl) fe))) (eY (gn (pK (K:=K) rfl) rfl T.isi i9 (eY (pv 1) (eY (iY (v:= .ref CT) rfl X.m1 rfl) fe))) (eY (gn (pK (K:=K) rfl) rfl T.isi i9 (eY (pv 1) (eY (iY (v:= .ref C2) rfl X.m2 rfl) fe))) fe)))))
     (fq (gj (PW.pt (jW (gi je (xw (K:=K) rfl PySem.F.plainAttrs_list PySem.F.slot_list_count PySem.F.type_list_count (ID (K:=K) rfl) (pv 2) (eY iG fe)) fy (f9 _))
       (jW (gT (gn (pK (K:=K) rfl) rfl T.isi i9 (eY (pv 1) (eY (jN (v:= .ty "ValueError") rfl T.val Fx rfl) fe)))) (kj (hJ (gT (gn (pK (K:=K) rfl) rfl T.isi i9 (eY (pv 1) (eY (iY (v:= .ref CNo) rfl X.m4 rfl) fe)))))))))
      (fA (fP (xw (K:=K) rfl PySem.F.plainAttrs_list PySem.F.slot_list_index PySem.F.type_list_index (Ct (K:=K) rfl) (pv 2) (eY iG fe)))) gh)
     (fA (fP fy)))))
   (fA (fP (mr lV fy))),?_⟩
  refine⟨?_,?_⟩
  ·refine⟨_,rfl,sl,ss,J,rfl,ae,hS,U,aa,hk,fun j hj H' s'=>?_,fun af e hg=>?_⟩
   ·have e:i=j:=Option.some.inj (hb.symm.trans hj)
    subst e
    exact⟨rfl,s',rfl⟩
   ·exfalso
    rw [e,<-List.map_flatten,rO hg] at hb
    cases hb
  ·rintro ag cls H' I ⟨rfl,sm,rfl⟩ hn
   have hi:=zo hb
   have F:=X.at hi
   have hH:upd H' I (kY I (kX CK CT C2 i)) I=some (kY I (kX CK CT C2 i)):=fv
   have sE:eZ H (upd H' I (kY I (kX CK CT C2 i))):=eZ.upd sm hn
   refine⟨_,rfl,F.e,?_⟩
   generalize upd H' I (kY I (kX CK CT C2 i))=H1 at hH sE ⊢
   refine⟨_,rfl,I,_,_,_,rfl,hH,F.x,.inr (.inl ⟨_,rfl,F.k0⟩),_,rfl,I,_,_,_,rfl,hH,F.x,.inr (.inl ⟨_,rfl,F.k1⟩),_,rfl,I,_,_,_,rfl,hH,F.x,.inr (.inl ⟨_,rfl,F.k2⟩),(by show 3<=sizeLine;decide),fun p hp=>?_⟩
   have s2:eZ H1 (upd H1 p (.lst ((ll i).map V.bl))):=fC hp
   have e2:upd H1 p (.lst ((ll i).map V.bl)) p=some (.lst ((ll i).map V.bl)):=fv
   have ab:=s2 _ _ hH
   refine⟨_,rfl,.inl ⟨rfl,_,fj.of e2⟩,p,ll i,true,rfl,rfl,fj.of e2,?_⟩
   rw [HD i hi]
   refine⟨rfl,_,rfl,fY ⟨_,rfl,I,_,_,_,rfl,ab,F.x,.inl ⟨_,rfl,F.v⟩,_,rfl,fY ⟨_,rfl,I,_,_,_,rfl,ab,F.x,.inr (.inl ⟨_,rfl,F.n⟩),_,rfl,fY ?_⟩⟩⟩
   exact⟨_,rfl,.inl ⟨rfl,_,fj.of e2⟩,p,ll i,true,i,rfl,rfl,fj.of e2,by omega,EA i hi,El i hi,kk _ (sE.trans s2)⟩
def zS:Sp:=fun vs H Q _=>∃(pl:Addr) (xs:List V) (ps:List (Str×Str)) (n:Int),vs=[.ref pl,.int n]/\H pl=some (.lst xs)/\gm H xs (ps.map kp)/\2<=ps.length/\ps.length<=26/\jy ps/\∀ H',eZ H H'->Q (.bl true) H'
theorem mf:fU ["_law_pairs_here","_law_number_here","_law_key","_law_text_here","_law_bad","_law_due","_law_way","_law_wrong","_law_cut"] ["_law_pairs_here","_law_number_here"] (fD pf):=⟨rfl,rfl,rfl,dk,rfl,dk,dk⟩
theorem CZ:fZ 12 (.str "A")=false:=dk
theorem Bf:fZ 12 (.str "")=false:=dk
theorem Ff:gq (.str "a\tb")=false:=dk
theorem rg{z:Str}(h:z.length<=5000:=by decide +kernel):jq (.str z):=fun y e=>by
 injection e with e
 rw [<-e]
 exact h
end
theorem zi{H:Hp}{xs:List V}{kts:List (V×V)}(h:gm H xs kts)(c:Nat):gm H (xs.take c) (kts.take c):=tD c h
theorem z8{H:Hp}{xs:List V}{kts:List (V×V)}(h:gm H xs kts)(c:Nat):gm H (xs.drop c) (kts.drop c):=tY c h
def qH:List Nat:=[0,1,2,0,1]
section
variable {P : Program} {w : World} {K : PySem.W.Frag} {mg : Str -> Option Value} {base : Heap} {C CH CA CK CT C2 CNo : Addr}
seal fM PS PE PT PA PG PI fT fS in
theorem FL{f fr:Addr}{fd fdr:FuncData}(D:Df K mg "_law_shelves_wrong" pf f fd)(DR:Df K mg "_law_refused" qg fr fdr)(GR:fx P w K mg base fE 11 fr fdr ["_law_shelves"] (zg K))(T:Txt mg):
  fx P w K mg base fE 12 f fd ["_law_pairs_here","_law_number_here"] zS:=by
 have bR:=gu (p:="_law_shelves") DR.F fun _ _ _ _ _ _ _=>rfl
 refine D.F.ok mf (fun vs H Q E h=>?_) (fun cdv A outer s H vs Q E hr h=>?_)
 ·obtain⟨pl,xs,ps,n,rfl,_⟩:=h
  rfl
 ·obtain⟨pl,xs,ps,n,rfl,ae,hP,h2,aw,hg,kk⟩:=h
  have hz:(sizeLine:Nat)=16777216:=sizeLine_eq
  refine⟨_,fq (vc (gA g6 (pv 0) (mr lV fy) (fun _ _=>rfl)) (jj (n:=2) rfl (gJ (fR (i:=2) mf.nd rfl (Or.inl rfl)) (gJ (fR (i:=3) mf.nd rfl (Or.inl rfl)) jh))))
   (fq (fG (i:=4) mf.nd rfl (Or.inl rfl) (gf (eY (iV (eY gd (eY (pv 3) fe))) (eY (iV (eY (pv 2) (eY gd fe))) (eY (iV (eY (gA kR (gA g6 (pv 0) fy (fun _ _=>rfl)) fy (fun _ _=>rfl)) (eY (pv 3) fe)))
     (eY (iV (eY gd (eY gd fe))) (eY (iV (eY (gA kR (gA g6 (pv 0) fy (fun _ _=>rfl)) fy (fun _ _=>rfl)) (eY Fh fe))) fe)))))))
   (fq (fG (i:=5) mf.nd rfl (Or.inl rfl) (gf (eY fy (eY fy (eY fy (eY fy (eY fy fe)))))))
   (fq (fG (i:=6) mf.nd rfl (Or.inl rfl) (fF gF (pv 1) fy))
   (fq (fG (i:=7) mf.nd rfl (Or.inl rfl) (fF oT (ig jK (pv 0) iD (g5 (mr lV fy))) (gf (eY (gA g6 (pv 4) (pv 6) (fun _ _=>rfl)) fe))))
   (fq (fG (i:=8) mf.nd rfl (Or.inl rfl) (fF gy fy (fF gF (fF iU (pv 1) fy) (fF ly (gn iE rfl T.len g9 (eY (pv 0) fe)) fy))))
   (fA (fP (j1 je (fN GR hr rfl DR.m DR.F.kp bR .nil fL (eY (gf (eY (ig jK (pv 7) iD (g5 (pv 8))) (eY (ig jK (pv 7) (g5 (pv 8)) iD) fe))) fe)) (gA g6 (pv 5) (pv 6) (fun _ _=>rfl)) (f9 _))))))))),?_⟩
  obtain⟨J,⟨k,t⟩,rfl⟩:∃ J p,ps=J++[p]:=by
   rcases List.eq_nil_or_concat ps with e | ⟨a,b,e⟩
   ·rw [e] at h2;cases h2
   ·exact⟨a,b,by rw [e,List.concat_eq_append]⟩
  obtain⟨p0,r0,e0⟩:∃ p0 r0,J=p0::r0:=by
   cases J with
   | nil=>exact absurd h2 (by show ¬ 2<=1;decide)
   | cons a b=>exact⟨a,b,rfl⟩
  rw [List.map_append] at hP
  obtain⟨I,bb,rfl,ax,aQ⟩:=sV hP
  obtain⟨vl,rfl,pt,rfl,ay⟩:=tS aQ
  have ay:H pt=some (.tup [.str k,.str t]):=ay
  have av:=Gn.Paired.len ax
  rw [List.length_map] at av
  rw [List.length_append] at aw h2
  have aw:J.length + 1<=26:=aw
  have h2:2<=J.length + 1:=h2
  obtain⟨q0,aF,aG⟩:∃ q0,(I++[V.ref pt])[0]? =some (V.ref q0)/\H q0=some (.tup [.str p0.1,.str p0.2]):=by
   subst e0
   cases ax with
   | cons a b=>
    obtain⟨q,rfl,hq⟩:=a
    exact⟨q,rfl,hq⟩
  have ao:jy J:=by
   refine⟨fun p hp=>hg.g p (List.mem_append_left _ hp),?_⟩
   have:=hg.n
   rw [List.map_append] at this
   exact(List.nodup_append.mp this).1
  have af:fZ 12 (.str k)=true/\gq (.str t)=true:=hg.g (k,t) (by simp)
  have ab:=ao.g p0 (by rw [e0];exact List.mem_cons_self)
  refine⟨_,rfl,_,rfl,pl,_,_,_,rfl,rfl,fj.of ae,uz _ _,pt,_,rfl,gb.of ay,rfl,_,_,rfl,_,_,rfl,rfl,?_⟩
  refine⟨_,rfl,(by show 2<=sizeLine;decide),fun t1 aR=>?_⟩
  have s1:eZ H (upd H t1 (.tup [.str "A",.str t])):=fC aR
  have e1:upd H t1 (.tup [.str "A",.str t]) t1=some (.tup [.str "A",.str t]):=fv
  generalize upd H t1 (.tup [.str "A",.str t])=H1 at s1 e1 ⊢
  refine⟨_,rfl,(by show 2<=sizeLine;decide),fun t2 aS=>?_⟩
  have s2:eZ H1 (upd H1 t2 (.tup [.str k,.str "a\tb"])):=fC aS
  have e2:upd H1 t2 (.tup [.str k,.str "a\tb"]) t2=some (.tup [.str k,.str "a\tb"]):=fv
  generalize upd H1 t2 (.tup [.str k,.str "a\tb"])=H2 at s2 e2 ⊢
  have az:=s1.trans s2
  refine⟨_,rfl,pl,_,_,_,rfl,rfl,fj.of (az _ _ ae),gR (j:=0) aF,q0,_,_,_,rfl,rfl,gb.of (az _ _ aG),gR (j:=0) rfl,_,rfl,(by show 2<=sizeLine;decide),fun t3 aT=>?_⟩
  have s3:eZ H2 (upd H2 t3 (.tup [.str p0.1,.str t])):=fC aT
  have e3:upd H2 t3 (.tup [.str p0.1,.str t]) t3=some (.tup [.str p0.1,.str t]):=fv
  generalize upd H2 t3 (.tup [.str p0.1,.str t])=H3 at s3 e3 ⊢
  refine⟨(by show 2<=sizeLine;decide),fun t4 aU=>?_⟩
  have s4:eZ H3 (upd H3 t4 (.tup [.str "",.str "a\tb"])):=fC aU
  have e4:upd H3 t4 (.tup [.str "",.str "a\tb"]) t4=some (.tup [.str "",.str "a\tb"]):=fv
  generalize upd H3 t4 (.tup [.str "",.str "a\tb"])=H4 at s4 e4 ⊢
  have aA:=(az.trans s3).trans s4
  refine⟨_,rfl,pl,_,_,_,rfl,rfl,fj.of (aA _ _ ae),gR (j:=0) aF,q0,_,_,_,rfl,rfl,gb.of (aA _ _ aG),gR (j:=0) rfl,(by show 2<=sizeLine;decide),fun t5 aV=>?_⟩
  have s5:eZ H4 (upd H4 t5 (.tup [.str p0.1,.non])):=fC aV
  have e5:upd H4 t5 (.tup [.str p0.1,.non]) t5=some (.tup [.str p0.1,.non]):=fv
  generalize upd H4 t5 (.tup [.str p0.1,.non])=H5 at s5 e5 ⊢
  refine⟨(by show 5<=sizeLine;decide),fun bl aW=>?_⟩
  have s6:eZ H5 (upd H5 bl (.lst [.ref t1,.ref t2,.ref t3,.ref t4,.ref t5])):=fC aW
  have e6:upd H5 bl (.lst [.ref t1,.ref t2,.ref t3,.ref t4,.ref t5]) bl=some (.lst [.ref t1,.ref t2,.ref t3,.ref t4,.ref t5]):=fv
  generalize upd H5 bl (.lst [.ref t1,.ref t2,.ref t3,.ref t4,.ref t5])=H6 at s6 e6 ⊢
  refine⟨(by show 5<=sizeLine;decide),fun dl aX=>?_⟩
  have s7:eZ H6 (upd H6 dl (.lst (nl qH))):=fC aX
  have e7:upd H6 dl (.lst (nl qH)) dl=some (.lst (nl qH)):=fv
  change eZ H6 (upd H6 dl (.lst [.int 0,.int 1,.int 2,.int 0,.int 1])) at s7
  change upd H6 dl (.lst [.int 0,.int 1,.int 2,.int 0,.int 1]) dl=some (.lst (nl qH)) at e7
  generalize upd H6 dl (.lst [.int 0,.int 1,.int 2,.int 0,.int 1])=H7 at s7 e7 ⊢
  have ag:=(s5.trans s6).trans s7
  have aH:=aA.trans ag
  obtain⟨j,hj,bc⟩:=jo (r:=n) (n:=5) (by decide)
  refine⟨_,rfl,_,_,rfl,rfl,(by show(0:Int) < 5;decide),?_⟩
  show jC 6 (V.int (n % 5)) _ _ _
  rw [<-hj]
  obtain⟨U,b,d,aY,aZ,aI,aJ,a0⟩:∃(U:Addr) (b:V×V) (d:Nat),[V.ref t1,V.ref t2,V.ref t3,V.ref t4,V.ref t5][j]? =some (V.ref U)/\H7 U=some (.tup [b.1,b.2])/\(nl qH)[j]? =some (V.int (d:Int))/\
    ik (J.map (·.1)) [b]=some d/\∀ G:Hp,js K G b:=by
   have kA:∀ G:Hp,js K G (V.str "A",V.str t):=fun G=>⟨⟨_,.str _⟩,rg,⟨_,.str _⟩,p7 af.2⟩
   have kB:∀ G:Hp,js K G (V.str k,V.str "a\tb"):=fun G=>⟨⟨_,.str _⟩,lN af.1 (by decide),⟨_,.str _⟩,rg⟩
   have kC:∀ G:Hp,js K G (V.str p0.1,V.str t):=fun G=>⟨⟨_,.str _⟩,lN ab.1 (by decide),⟨_,.str _⟩,p7 af.2⟩
   have kD:∀ G:Hp,js K G (V.str "",V.str "a\tb"):=fun G=>⟨⟨_,.str _⟩,rg,⟨_,.str _⟩,rg⟩
   have kE:∀ G:Hp,js K G (V.str p0.1,V.non):=fun G=>⟨⟨_,.str _⟩,lN ab.1 (by decide),⟨_,.non⟩,fun z e=>by cases e⟩
   have a3:j < 5:=by omega
   match j,a3 with
   | 0,_=>exact⟨t1,_,0,rfl,((((s2.trans s3).trans s4).trans ag) _ _ e1),rfl,by rw [pC,if_pos CZ],kA⟩
   | 1,_=>exact⟨t2,_,1,rfl,(((s3.trans s4).trans ag) _ _ e2),rfl,by rw [pC,if_neg (by rw [af.1];decide),if_pos Ff],kB⟩
   | 2,_=>exact⟨t3,_,2,rfl,((s4.trans ag) _ _ e3),rfl,by rw [pC,if_neg (by rw [ab.1];decide),if_neg (by rw [af.2];decide),if_pos (show jf (V.str p0.1)∈J.map (·.1) from by rw [e0];exact List.mem_cons_self)],kC⟩
   | 3,_=>exact⟨t4,_,0,rfl,(ag _ _ e4),rfl,by rw [pC,if_pos Bf],kD⟩
   | 4,_=>exact⟨t5,_,1,rfl,((s6.trans s7) _ _ e5),rfl,by rw [pC,if_neg (by rw [ab.1];decide),if_pos (show gq V.non=false from rfl)],kE⟩
  refine⟨_,rfl,_,rfl,_,rfl,pl,_,rfl,fj.of (aH _ _ ae),fun c1 a4=>?_⟩
  have ec:jb (I++[V.ref pt]) none (some (-1))=I:=wJ I _ rfl (by show 0 < 1;decide)
  rw [ec]
  have s8:eZ H7 (upd H7 c1 (.lst I)):=fC a4
  have e8:upd H7 c1 (.lst I) c1=some (.lst I):=fv
  generalize upd H7 c1 (.lst I)=H8 at s8 e8 ⊢
  refine⟨_,rfl,_,rfl,bl,_,_,_,rfl,rfl,fj.of ((s7.trans s8) _ _ e6),gR aY,(by show 1<=sizeLine;decide),fun c2 a5=>?_⟩
  have s9:eZ H8 (upd H8 c2 (.lst [.ref U])):=fC a5
  have e9:upd H8 c2 (.lst [.ref U]) c2=some (.lst [.ref U]):=fv
  generalize upd H8 c2 (.lst [.ref U])=H9 at s9 e9 ⊢
  refine⟨c1,c2,_,_,rfl,rfl,s9 _ _ e8,e9,(by show I.length + 1<=sizeLine;omega),fun wl a6=>?_⟩
  have aK:eZ H9 (upd H9 wl (.lst (I++[.ref U]))):=fC a6
  have aB:upd H9 wl (.lst (I++[.ref U])) wl=some (.lst (I++[.ref U])):=fv
  generalize upd H9 wl (.lst (I++[.ref U]))=ah at aK aB ⊢
  have ai:=(s8.trans s9).trans aK
  have aj:=aH.trans ai
  have a7:gm ah (I++[.ref U]) (J.map kp++[b]):=Gn.Paired.app (gm.same ax aj) ⟨U,rfl,ai _ _ aZ⟩
  have hlen:(((I++[V.ref pt]).length:Nat):Int)=(J.length:Int) + 1:=by rw [List.length_append,av];rfl
  obtain⟨c,hc,bf⟩:=jo (r:=n / 5) (n:=(((I++[V.ref pt]).length:Nat):Int) - 1) (by omega)
  refine⟨_,rfl,_,_,rfl,rfl,⟨by decide,by decide⟩,_,rfl,pl,_,rfl,.inl (fj.of (aj _ _ ae)),_,_,rfl,rfl,_,_,rfl,rfl,(by show(0:Int) < (((I++[V.ref pt]).length:Nat):Int) - 1;omega),_,_,rfl,rfl,?_⟩
  show jC 8 (V.int (1 + n / 5 % ((((I++[V.ref pt]).length:Nat):Int) - 1))) _ _ _
  rw [<-hc,show(1 + (c:Int))=((1 + c:Nat):Int) by omega]
  refine⟨_,rfl,_,rfl,_,rfl,wl,_,rfl,fj.of aB,fun l1 a8=>?_⟩
  rw [oI]
  have aC:eZ ah (upd ah l1 (.lst ((I++[V.ref U]).take (1 + c)))):=fC a8
  have aL:upd ah l1 (.lst ((I++[V.ref U]).take (1 + c))) l1=some (.lst ((I++[V.ref U]).take (1 + c))):=fv
  generalize upd ah l1 (.lst ((I++[V.ref U]).take (1 + c)))=aq at aC aL ⊢
  refine⟨_,rfl,_,rfl,_,rfl,wl,_,rfl,fj.of (aC _ _ aB),fun l2 a9=>?_⟩
  rw [rj]
  have aD:eZ aq (upd aq l2 (.lst ((I++[V.ref U]).drop (1 + c)))):=fC a9
  have aM:upd aq l2 (.lst ((I++[V.ref U]).drop (1 + c))) l2=some (.lst ((I++[V.ref U]).drop (1 + c))):=fv
  generalize upd aq l2 (.lst ((I++[V.ref U]).drop (1 + c)))=ar at aD aM ⊢
  refine⟨(by show 2<=sizeLine;decide),fun sl ba=>?_⟩
  have au:eZ ar (upd ar sl (.lst [.ref l1,.ref l2])):=fC ba
  have aN:upd ar sl (.lst [.ref l1,.ref l2]) sl=some (.lst [.ref l1,.ref l2]):=fv
  generalize upd ar sl (.lst [.ref l1,.ref l2])=bg at au aN ⊢
  have aa:=(aC.trans aD).trans au
  have ak:=gm.same a7 aa
  have aE:[(J.map kp++[b]).take (1 + c),(J.map kp++[b]).drop (1 + c)].flatten=J.map kp++[b]:=by
   rw [List.flatten_cons,List.flatten_cons,List.flatten_nil,List.append_nil,List.take_append_drop]
  refine⟨sl,_,[(J.map kp++[b]).take (1 + c),(J.map kp++[b]).drop (1 + c)],d,rfl,aN,.cons ⟨l1,_,rfl,(aD.trans au) _ _ aL,zi ak _⟩ (.cons ⟨l2,_,rfl,au _ _ aM,z8 ak _⟩ .nil),?_,(by show 2<=90;decide),?_,?_,fun bh aO=>?_⟩
  ·rw [aE,List.length_append,List.length_map]
   show J.length + 1<=300
   omega
  ·rw [aE]
   intro kt aP
   rcases List.mem_append.mp aP with z | z
   ·exact wb ao kt z
   ·rw [List.mem_singleton.mp z]
    exact a0 _
  ·rw [aE,Au (seen:=[]) ao.g ao.n (fun _ _ z=>by cases z),List.nil_append]
   exact aJ
  ·refine⟨_,rfl,_,rfl,dl,_,_,_,rfl,rfl,fj.of (((ai.trans aa).trans aO) _ _ e7),gR aI,rfl,?_⟩
   rw [decide_eq_true (show V.int (d:Int)=V.int (d:Int) from rfl)]
   exact kk _ ((aj.trans aa).trans aO)
end
theorem qU{ps:List (Str×Str)}{m:Nat}(h:∀ p∈ps,(tw p.2).length<=m):gx (fz ps)<=ps.length * m:=by
 induction ps with
 | nil=>exact Nat.zero_le _
 | cons p r I=>
  have h1:=h p List.mem_cons_self
  have h2:=I fun q J=>h q (List.mem_cons_of_mem _ J)
  show((tw p.2).length::(fz r).map List.length).sum<=_
  rw [List.sum_cons,List.length_cons,Nat.succ_mul]
  have U:gx (fz r)=((fz r).map List.length).sum:=rfl
  omega
structure Un (ws : List Str) (U : List (Str × Str)) : Prop where
 g : ∀ p ∈ U, (fZ 12 (.str p.1) = true /\ gq (.str p.2) = true) /\ Mp ws p.2
 t : gx (fz U) <= 1300
 l : U.length <= 60
theorem Un.ok {ws:List Str}{U:List (Str×Str)}{pss:List (List (Str×Str))}(h:Un ws U)(hw:∀ z∈ws,Wm z)(h5:ws.length=5)(s:pss.flatten.Sublist U)(n:(keysOf pss).Nodup)(l:pss.length<=90):gN pss:=by
 have hl:(fz U).length=U.length:=by unfold fz;rw [List.length_map]
 have J:iK (fz U):=⟨by have:=h.l;omega,h.t⟩
 have hW:ng (fz U):=⟨pres ws,by rw [E4,h5];decide,fun us hu x hx=>by
  obtain⟨p,I,rfl⟩:=List.mem_map.mp hu
  exact(h.g p I).2.pres hw x hx⟩
 exact⟨fun p I=>(h.g p (s.mem I)).1,n,J.sub s,hW.sub s,l,by have:=s.length_le;have:=h.l;omega⟩
theorem Un.app {ws:List Str}{U V:List (Str×Str)}(hU:∀ p∈U,(fZ 12 (.str p.1)=true/\gq (.str p.2)=true)/\Mp ws p.2)(hV:∀ p∈V,(fZ 12 (.str p.1)=true/\gq (.str p.2)=true)/\Mp ws p.2)(ht:gx (fz U) + gx (fz V)<=1300)(hl:U.length + V.length<=60):Un ws (U++V):=
 ⟨fun p I=>(List.mem_append.mp I).elim (hU p) (hV p),by rw [uW,xA];exact ht,by rw [List.length_append];exact hl⟩
def iW(d:Str×Str×Str):Str×Str:=(d.2.1,d.2.2)
theorem yU{pss:List (List (Str×Str))}{k t:Str}(n:(keysOf pss).Nodup)(h:k∉keysOf pss):(keysOf (pss++[[(k,t)]])).Nodup:=by
 have e:keysOf (pss++[[(k,t)]])=keysOf pss++[k]:=by unfold keysOf;rw [List.flatten_append,List.map_append];simp
 rw [e]
 exact List.nodup_append.mpr ⟨n,by simp,fun a ha b hb e=>h (by rw [<-List.mem_singleton.mp hb,<-e];exact ha)⟩
theorem rD{pss:List (List (Str×Str))}{p:Str×Str}:(pss++[[p]]).flatten=pss.flatten++[p]:=by rw [List.flatten_append];simp
def jF(x:Str):Str:=Txt.slice x none (some 9)
def jO(p:Str×Str):Str×Str:=(p.1,jF p.2)
theorem Bl{len:Nat}(h:len < 9):Builtin.Str.strSliceIndices none (some 9) 1 len=Builtin.Str.strSliceIndices none (some (len:Int)) 1 len:=by
 have a:¬ ((len:Int) < 0):=by omega
 have b:min (9:Int) (len:Int)=len:=by omega
 simp [Builtin.Str.strSliceIndices,a,b]
theorem v9(x:Str):codes (jF x)=(codes x).take 9:=by
 have l:(codes x).length=x.length:=by unfold codes;simp [Str.length]
 unfold jF
 by_cases h:(9:Int)<=x.length
 ·rw [rh (by decide) h]
  show((codes x).take (Int.toNat 9)).toArray.toList=_
  rfl
 ·have e:Txt.slice x none (some 9)=Txt.slice x none (some (x.length:Int)):=by
   unfold Txt.slice
   rw [Bl (by omega)]
  rw [e,rh (by omega) (Int.le_refl _),Int.toNat_natCast]
  show((codes x).take x.length).toArray.toList=_
  rw [List.take_of_length_le (i:=9) (by omega),List.take_of_length_le (i:=x.length) (by omega)]
theorem Tx.cut {ws:List Str}{n:Nat}{x:Str}(h:Tx ws n x):Tx ws 9 (jF x):=by
 have I:(codes (jF x)).length<=9:=by rw [v9,List.length_take];omega
 have J:(codes (jF x)).length=(jF x).length:=by unfold codes;simp [Str.length]
 refine⟨⟨by omega,?_⟩,?_,h.r.cut (v9 x)⟩
 ·rw [v9]
  exact qN 9 h.d.2
 ·rw [uk]
  exact Nat.le_trans (x9 _ _) I
theorem Tx.txt {ws:List Str}{n:Nat}{x:Str}(h:Tx ws n x):gq (.str x)=true:=FV h.d
theorem tZ:∀{a b:List (List (Str×Str))},a.map (List.map kp)=b.map (List.map kp)->a=b
 | [],[],_=>rfl
 | [],_::_,h=>by cases h
 | _::_,[],h=>by cases h
 | x::a,y::b,h=>by
  rw [List.map_cons,List.map_cons] at h
  obtain⟨h1,h2⟩:=List.cons.inj h
  rw [lZ h1,tZ h2]
section
variable {C CH : Addr}
theorem y7{H:Hp}{x dx vl:Addr}(hx:H x=none)(hdx:H dx=none)(hvl:upd (upd H dx (.own x)) x (.ins CH dx []) vl=none):Hs C CH H (upd (upd (upd (upd H dx (.own x)) x (.ins CH dx [])) vl (.lst [])) x (.ins CH dx (iw vl))) x []:=by
 have s4:eZ H (upd (upd H dx (.own x)) x (.ins CH dx [])):=qO hx hdx
 have I:vl≠x:=fun z=>by rw [z,fv] at hvl;cases hvl
 refine⟨⟨vl,dx,[],fv,(fB I).trans fv,s4.free hvl,.nil⟩,hx,fun b u e=>(fB (fW e hx)).trans ((fB (fW (s4 _ _ e) hvl)).trans (s4 _ _ e))⟩
structure Ho (C CH : Addr) (L H : Hp) (x rl : Addr) (pss : List (List (Str × Str))) : Prop where
 hs : Hs C CH L H x pss
 r : ∃ rs, L rl = some (.lst rs) /\ gL L rs pss
 ok : gN pss
 ne : NE pss
theorem Ho.ext {L H H':Hp}{x rl:Addr}{pss:List (List (Str×Str))}(h:Ho C CH L H x rl pss)(s:eZ H H'):∃ L',eZ L L'/\Ho C CH L' H' x rl pss/\(∀ a o,H a=none->H' a=some o->L' a=some o)/\∀ a ts,H' a=some (.tup ts)->L' a=some (.tup ts):=by
 obtain⟨L',l,hs,n,t⟩:=h.hs.ext s
 obtain⟨rs,h1,h2⟩:=h.r
 exact⟨L',l,⟨hs,⟨rs,l _ _ h1,h2.same l⟩,h.ok,h.ne⟩,n,t⟩
end
theorem Mp.mono {ws vs:List Str}{x:Str}(h:Mp ws x)(s:∀ z∈ws,z∈vs):Mp vs x:=fun r I=>by
 obtain⟨z,J,e⟩:=h r I
 exact⟨z,s z J,e⟩
theorem IS{L H4 H5 L5:Hp}{rs rs':List V}{pss rows:List (List (Str×Str))}(hR:gL L rs pss)(l5:eZ L L5)(sLH:eZ L H4)(s5:eZ H4 H5)(n5:∀ a o,H4 a=none->H5 a=some o->L5 a=some o)(t5:∀ a ts,H5 a=some (.tup ts)->L5 a=some (.tup ts))
  (hR5:gL H5 rs' rows)(hn5:∀ p,V.ref p∈rs'->V.ref p∈rs\/H4 p=none):gL L5 rs' rows:=hR5.own (fun p l U e=>by
 rcases hn5 p U with z | z
 ·obtain⟨ps,_,p',aa,ep,I,_⟩:=oO hR z
  have:=V.ref.inj ep
  subst this
  have J:=(sLH.trans s5) _ _ I
  rw [e] at J
  cases J
  exact l5 _ _ I
 ·exact n5 _ _ z e) t5
section
variable {P : Program} {w : World} {K : PySem.W.Frag} {mg : Str -> Option Value} {base : Heap} {C CH CK CT C2 : Addr}
def oU(K:W.Frag):Sp:=fun vs H Q _=>∃(a:Addr) (ns:List Int),vs=[.ref a]/\fj K H a (ns.map V.int)/\ns.length<=63/\∀ H',Q (.bl true) H'
theorem iS:fU ["_law_script","_law_menu_here","_law_house","_law_rows","_law_key","_law_text_here","_law_deed","_law_many","_law_pairs_here","_law_cut","_law_shelves","_law_other"] ["_law_script"] (fD km):=⟨rfl,rfl,rfl,dk,rfl,dk,dk⟩
set_option maxHeartbeats 8000000 in
seal fM PS PE PT PA PG PI fT fS in
theorem Ja{f fMe fNu fPa fDe fDo fRi fWr fLP fi fHO hp hb hs:Addr}{fd fdMe fdNu fdPa fdDe fdDo fdRi fdWr fdLP fdi fdHO hdp hdb hds:FuncData}(D:Df K mg "law" km f fd)(T:Txt mg)(HC:jH K mg C CH)
  (DMe:Df K mg "_law_menu" m3 fMe fdMe)(GMe:fx P w K mg base fE 2 fMe fdMe ["_law_number_here"] An)
  (DNu:Df K mg "_law_number" ny fNu fdNu)(GNu:fx P w K mg base fE 2 fNu fdNu ["_law_script","_law_k"] (tF K))
  (DPa:Df K mg "_law_pairs" qq fPa fdPa)(GPa:fx P w K mg base fE 3 fPa fdPa ["_law_script","_law_first","_law_menu_here","_law_many"] (wO K))
  (DDe:Df K mg "_law_deeds" pH fDe fdDe)(GDe:fx P w K mg base fE 3 fDe fdDe ["_law_script","_law_first","_law_menu_here"] (Ac K))
  (DDo:Df K mg "_law_done_by_rule" nQ fDo fdDo)(GDo:fx P w K mg base fE 13 fDo fdDo ["_law_house","_law_rows","_law_deed"] (Ag C CH))
  (DRi:Df K mg "_law_right" lH fRi fdRi)(GRi:fx P w K mg base fE 3 fRi fdRi ["_law_house","_law_rows"] (xW C CH))
  (DWr:Df K mg "_law_shelves_wrong" pf fWr fdWr)(GWr:fx P w K mg base fE 12 fWr fdWr ["_law_pairs_here","_law_number_here"] zS)
  (DLP:Df K mg "_law_put" oh fLP fdLP)(GLP:fx P w K mg base fE 1 fLP fdLP ["_law_rows","_law_key","_law_text_here"] ug)
  (FHI:fV K "__init__" "House.__init__" lY fi fdi)(MH:L2.Mk K CH fi)(GHI:fx P w K mg base fE 1 fi fdi ["self"] (va CH))
  (DHO:Df K mg "house_of" nB fHO fdHO)(GHO:fx P w K mg base (fQ P w) 10 fHO fdHO ["shelves"] (wu K C CH CK CT C2))
  (FHP:fV K "put" "House.put" lF hp hdp)(mP:Meth K CH "put" hp)(HP:fx P w K mg base fE 12 hp hdp ["self","key","text"] (vw C CH))
  (FB:fV K "books" "House.books" kK hb hdb)(mB:Meth K CH "books" hb)(GB:fx P w K mg base fE 2 hb hdb ["self"] (vq C CH))
  (FS:fV K "shelves" "House.shelves" lD hs hds)(mS:Meth K CH "shelves" hs)(GS:fx P w K mg base fE 1 hs hds ["self"] (ue C CH)):fx P w K mg base fE 14 f fd ["_law_script"] (oU K):=by
 have c7:=gu (p:="_law_number_here") DMe.F fun _ _ _ _ _ _ _=>rfl
 have az:=DNu.F.binds (ps:=["_law_script","_law_k"]) fun _ _ _ _ _ _ us hl=>ix (fun _ _=>rfl) us hl
 have bT:=DPa.F.binds (ps:=["_law_script","_law_first","_law_menu_here","_law_many"]) fun _ _ _ _ _ _ us hl=>match us,hl with | [_,_,_,_],_=>rfl
 have bU:=DDe.F.binds (ps:=["_law_script","_law_first","_law_menu_here"]) fun _ _ _ _ _ _ us hl=>lg (fun _ _ _=>rfl) us hl
 have bV:=DDo.F.binds (ps:=["_law_house","_law_rows","_law_deed"]) fun _ _ _ _ _ _ us hl=>lg (fun _ _ _=>rfl) us hl
 have a9:=DRi.F.binds (ps:=["_law_house","_law_rows"]) fun _ _ _ _ _ _ us hl=>ix (fun _ _=>rfl) us hl
 have c8:=DWr.F.binds (ps:=["_law_pairs_here","_law_number_here"]) fun _ _ _ _ _ _ us hl=>ix (fun _ _=>rfl) us hl
 have c9:=DLP.F.binds (ps:=["_law_rows","_law_key","_law_text_here"]) fun _ _ _ _ _ _ us hl=>lg (fun _ _ _=>rfl) us hl
 have bW:=FHI.binds (ps:=["self"]) fun _ _ _ _ _ _ us hl=>jY (fun _=>rfl) us hl
 have bX:=gu (p:="shelves") DHO.F fun _ _ _ _ _ _ _=>rfl
 have da:=FHP.binds (ps:=["self","key","text"]) fun _ _ _ _ _ _ us hl=>lg (fun _ _ _=>rfl) us hl
 have bB:=FB.binds (ps:=["self"]) fun _ _ _ _ _ _ us hl=>jY (fun _=>rfl) us hl
 have bS:=FS.binds (ps:=["self"]) fun _ _ _ _ _ _ us hl=>jY (fun _=>rfl) us hl
 refine D.F.ok iS (fun vs H Q E h=>?_) (fun cdv A outer s H vs Q E hr h=>?_)
 ·obtain⟨a,ns,rfl,_⟩:=h
  rfl
 ·obtain⟨a,ns,rfl,hS,ab,kk⟩:=h
  have hz:(sizeLine:Nat)=16777216:=sizeLine_eq
  have hu:=hr.units100
  refine⟨_,(fq (fG (i:=1) iS.nd rfl (Or.inl rfl) (fN (GMe.mono (by decide)) hr rfl DMe.m DMe.F.kp c7 .nil fL (eY (fN (GNu.mono (by decide)) hr rfl DNu.m DNu.F.kp az .nil fL (eY (pv 0) (eY fy fe))) fe)))
   (fq (fG (i:=2) iS.nd rfl (Or.inl rfl) (uq MH (GHI.mono (k:=12) (by decide)) hr rfl HC.mgC bW .nil fL))
   (fq (fG (i:=3) iS.nd rfl (Or.inl rfl) (gf fe))
   (fq (qa (gi je (fF gF (fN (GNu.mono (by decide)) hr rfl DNu.m DNu.F.kp az .nil fL (eY (pv 0) (eY fy fe))) fy) fy (f9 _)) (fq (gO PassesOwn.never rfl (gK (fN (GPa.mono (by decide)) hr rfl DPa.m DPa.F.kp bT .nil fL (eY (pv 0) (eY fy (eY (ig jK (pv 1) iD (g5 fy)) (eY (fF gy fy (fF gF (fN (GNu.mono (by decide)) hr rfl DNu.m DNu.F.kp az .nil fL (eY (pv 0) (eY fy fe))) fy)) fe)))))) (jj (n:=2) rfl (gJ (fR (i:=4) iS.nd rfl (Or.inl rfl)) (gJ (fR (i:=5) iS.nd rfl (Or.inl rfl)) jh))) (fq (gB (jD (pv 2) HC.cl mP (HP.mono (by decide)) hr da .nil fL (eY (pv 4) (eY (ig ka (pv 5) iD (g5 fy)) fe))))
   (fA (fG (i:=3) iS.nd rfl (Or.inl rfl) (fN (GLP.mono (by decide)) hr rfl DLP.m DLP.F.kp c9 .nil fL (eY (pv 3) (eY (pv 4) (eY (ig ka (pv 5) iD (g5 fy)) fe))))))))
   (fA (gj (hJ (gT (fN (GRi.mono (by decide)) hr rfl DRi.m DRi.F.kp a9 .nil fL (eY (pv 2) (eY (pv 3) fe))))) (fA (fP iG)) gh))) gh)
   (fq (gO PassesOwn.never rfl (gK (fN (GDe.mono (by decide)) hr rfl DDe.m DDe.F.kp bU .nil fL (eY (pv 0) (eY fy (eY (pv 1) fe))))) (fR (i:=6) iS.nd rfl (Or.inl rfl)) (fq (fG (i:=3) iS.nd rfl (Or.inl rfl) (fN (GDo.mono (by decide)) hr rfl DDo.m DDo.F.kp bV .nil fL (eY (pv 2) (eY (pv 3) (eY (pv 6) fe)))))
   (fA (gj (hJ (gT (fN (GRi.mono (by decide)) hr rfl DRi.m DRi.F.kp a9 .nil fL (eY (pv 2) (eY (pv 3) fe))))) (fA (fP iG)) gh))))
   (fq (fG (i:=7) iS.nd rfl (Or.inl rfl) (fF gy fy (fF gF (fN (GNu.mono (by decide)) hr rfl DNu.m DNu.F.kp az .nil fL (eY (pv 0) (eY fy fe))) fy)))
   (fq (qa (gi je (fF gF (fN (GNu.mono (by decide)) hr rfl DNu.m DNu.F.kp az .nil fL (eY (pv 0) (eY fy fe))) fy) fy (f9 _)) (fA (fG (i:=7) iS.nd rfl (Or.inl rfl) (fF gy fy (fF kH (pv 7) fy)))) gh)
   (fq (fG (i:=8) iS.nd rfl (Or.inl rfl) (fN (GPa.mono (by decide)) hr rfl DPa.m DPa.F.kp bT .nil fL (eY (pv 0) (eY fy (eY (pv 1) (eY (pv 7) fe))))))
   (fq (gj (hJ (gT (fN (GWr.mono (by decide)) hr rfl DWr.m DWr.F.kp c8 .nil fL (eY (pv 8) (eY (fN (GNu.mono (by decide)) hr rfl DNu.m DNu.F.kp az .nil fL (eY (pv 0) (eY fy fe))) fe))))) (fA (fP iG)) gh)
   (fq (fG (i:=9) iS.nd rfl (Or.inl rfl) (fF gy fy (fF gF (fN (GNu.mono (by decide)) hr rfl DNu.m DNu.F.kp az .nil fL (eY (pv 0) (eY fy fe))) (fF ly (gn iE rfl T.len g9 (eY (pv 8) fe)) fy))))
   (fq (fG (i:=10) iS.nd rfl (Or.inl rfl) (gf (eY (ig jK (pv 8) iD (g5 (pv 9))) (eY (ig jK (pv 8) (g5 (pv 9)) iD) fe))))
   (fq (fG (i:=11) iS.nd rfl (Or.inl rfl) (fN (GHO.mono (by decide)) hr rfl DHO.m DHO.F.kp bX .nil ja (eY (pv 10) fe)))
   (fq (fG (i:=3) iS.nd rfl (Or.inl rfl) (gf (eY (ig jK (pv 8) iD (g5 (pv 9))) (eY (ig jK (pv 8) (g5 (pv 9)) iD) fe))))
   (fq (gB (gQ F.plainAttrs_list F.slot_list_append F.type_list_append iO (gA g6 (pv 10) fy (fun _ _=>rfl)) (eY (iV (eY gd (eY gd fe))) fe)))
   (fq (gB (qA F.plainAttrs_list F.slot_list_clear F.type_list_clear IX (pv 10)))
   (fq (gj (hJ (gT (fN (GRi.mono (by decide)) hr rfl DRi.m DRi.F.kp a9 .nil fL (eY (pv 11) (eY (pv 3) fe))))) (fA (fP iG)) gh)
   (fq (gO PassesOwn.never rfl (gK (ig jK (fN (GDe.mono (by decide)) hr rfl DDe.m DDe.F.kp bU .nil fL (eY (pv 0) (eY fy (eY (pv 1) fe)))) iD (g5 fy))) (fR (i:=6) iS.nd rfl (Or.inl rfl)) (fq (fG (i:=3) iS.nd rfl (Or.inl rfl) (fN (GDo.mono (by decide)) hr rfl DDo.m DDo.F.kp bV .nil fL (eY (pv 11) (eY (pv 3) (eY (pv 6) fe)))))
   (fA (gj (hJ (gT (fN (GRi.mono (by decide)) hr rfl DRi.m DRi.F.kp a9 .nil fL (eY (pv 11) (eY (pv 3) fe))))) (fA (fP iG)) gh))))
   (fA (fP (nW (j1 (qi hu) (ji (fN (GHO.mono (by decide)) hr rfl DHO.m DHO.F.kp bX .nil ja (eY (gf fe) fe)) HC.cl mB (GB.mono (by decide)) hr bB .nil fL) (gf fe) (f9 _)) (oV (j1 (qi hu) (ji (uq MH (GHI.mono (k:=12) (by decide)) hr rfl HC.mgC bW .nil fL) HC.cl mS (GS.mono (by decide)) hr bS .nil fL) (gf fe) (f9 _))))))))))))))))))))))),?_⟩
  refine tK fun R1 dc=>?_
  refine⟨_,rfl,a,ns,0,rfl,hS,ab,by decide,fun r0 H1 _ _ s1=>?_⟩
  refine⟨r0,rfl,fun ml H2 ws s2 aK h5 ag=>?_⟩
  have dd:=s1.trans s2
  have ae:=dd.seq hS
  have u0:Un ws []:=⟨(fun p hp=>nomatch hp),by decide,by decide⟩
  have bY:gN []:=u0.ok ag h5 (List.Sublist.refl _) List.nodup_nil (by decide)
  refine ic (R:=R1) dc fun R2 de=>?_
  intro x dx hx df eD
  refine⟨x,dx,rfl,fv,fun vl dg=>⟨rfl,?_⟩⟩
  have bZ:=y7 (C:=C) (CH:=CH) hx df dg
  generalize upd (upd (upd (upd H2 dx (.own x)) x (.ins CH dx [])) vl (.lst [])) x (.ins CH dx (iw vl))=H3 at bZ ⊢
  refine ic (R:=R2) de fun R3 dh=>?_
  refine⟨Nat.zero_le _,fun rl b0=>?_⟩
  obtain⟨L4,l4,bC,n4,t4⟩:=bZ.ext (fC (o:= .lst []) b0)
  have bp:=n4 rl _ b0 fv
  generalize upd H3 rl (.lst [])=H4 at bC n4 t4 bp ⊢
  have di:Ho C CH L4 H4 x rl []:=⟨bC,⟨[],bp,.nil⟩,bY,fun _ z=>nomatch z⟩
  refine ic (R:=R3) dh fun R4 dj=>?_
  refine⟨fun aL H'=>∃(rl:Addr) (I:List (List (Str×Str))) (L:Hp) (U:List (Str×Str)) (o4 o5:Option V),aL=[some (.ref a),some (.ref ml),some (.ref x),some (.ref rl),o4,o5,none,none,none,none,none,none]/\eZ H2 L/\Ho C CH L H' x rl I/\I.flatten.Sublist U/\I.length<=U.length/\(∀ p∈U,(fZ 12 (.str p.1)=true/\gq (.str p.2)=true)/\Mp ws p.2)/\gx (fz U)<=225/\U.length<=25,?_,?_⟩
  ·refine⟨_,rfl,a,ns,23,rfl,(l4.trans bC.s).seq ae,ab,by decide,fun r H5 _ _ s5=>?_⟩
   refine⟨_,_,rfl,rfl,(by show(0:Int) < 4;decide),rfl,_,rfl,?_⟩
   obtain⟨L5,l5,ah,n5,t5⟩:=di.ext s5
   have ai:=l4.trans l5
   refine jX (fun _=>?_) (fun _=>⟨rl,[],L5,[],none,none,rfl,ai,ah,List.Sublist.refl _,Nat.le_refl _,(fun p hp=>nomatch hp),by decide,by decide⟩)
   have b1:H5 ml=some (.lst (ws.map V.str)):=ah.hs.s _ _ (ai _ _ aK)
   refine⟨_,rfl,_,rfl,_,rfl,ml,_,rfl,fj.of b1,fun m2 b2=>?_⟩
   have ec:jb (ws.map V.str) none (some 2)=(ws.take 2).map V.str:=by rw [List.map_take];exact oI _ 2
   rw [ec]
   have s6:eZ H5 (upd H5 m2 (.lst ((ws.take 2).map V.str))):=fC b2
   have e6:upd H5 m2 (.lst ((ws.take 2).map V.str)) m2=some (.lst ((ws.take 2).map V.str)):=fv
   generalize upd H5 m2 (.lst ((ws.take 2).map V.str))=H6 at s6 e6 ⊢
   refine⟨_,rfl,a,ns,22,rfl,((ai.trans ah.hs.s).trans s6).seq ae,ab,by decide,fun r2 H7 _ _ s7=>?_⟩
   obtain⟨j,hj,eE⟩:=jo (r:=r2) (n:=14) (by decide)
   refine⟨_,_,rfl,rfl,(by show(0:Int) < 14;decide),_,_,rfl,rfl,?_⟩
   refine⟨a,m2,ns,ws.take 2,60,12 + j,congrArg (fun z=>[V.ref a,V.int 60,V.ref m2,V.int z]) (show(12 + r2 % 14)=((12 + j:Nat):Int) by omega),by decide,(((ai.trans ah.hs.s).trans s6).trans s7).seq ae,ab,by omega,s7 _ _ e6,(by rw [List.length_take];omega),fun z hz=>ag z (List.mem_of_mem_take hz),fun pl xs ps H8 s8 bD bq dk aa=>?_⟩
   obtain⟨L8,l8,aM,n8,t8⟩:=ah.ext ((s6.trans s7).trans s8)
   have b3:L8 pl=some (.lst xs):=n8 _ _ ((s6.trans s7).free bD) bq
   have b4:gm L8 xs (ps.map kp):=Gn.Paired.imp2 dk fun _ _ ⟨b,e,y⟩=>⟨b,e,t8 _ _ y⟩
   have bE:=Gn.Paired.len b4
   rw [List.length_map] at bE
   have aN:=aa.l
   have ba:∀ p∈ps.map jO,Tx ws 9 p.2/\fZ 12 (.str p.1)=true:=fun p hp=>by
    obtain⟨q,hq,rfl⟩:=List.mem_map.mp hp
    obtain⟨i,hi⟩:=List.getElem?_of_mem hq
    have h1:=(aa.t i q hi).cut
    exact⟨⟨h1.d,h1.l,h1.r.mono fun z hz=>List.mem_of_mem_take hz⟩,aa.k.g _ (List.mem_map.mpr ⟨q,hq,rfl⟩)⟩
   have gP:∀ p∈ps.map jO,(fZ 12 (.str p.1)=true/\gq (.str p.2)=true)/\Mp ws p.2:=fun p hp=>⟨⟨(ba p hp).2,(ba p hp).1.txt⟩,(ba p hp).1.r⟩
   have eF:(ps.map jO).length=12 + j:=by rw [List.length_map];exact aN
   have b5:gx (fz (ps.map jO))<=225:=by
    have:=qU (ps:=ps.map jO) (m:=9) fun p hp=>(ba p hp).1.l
    omega
   have dm:((ps.map jO).map (·.1)).Nodup:=by rw [List.map_map];exact aa.k.n
   have aO:Un ws (ps.map jO):=⟨gP,by omega,by omega⟩
   refine⟨pl,rfl,⟨_,fj.of bq⟩,?_⟩
   refine jl (xs:=xs) (fun i σ H'=>∃(rl:Addr) (I:List (List (Str×Str))) (L:Hp) (o4 o5:Option V),σ=[some (.ref a),some (.ref ml),some (.ref x),some (.ref rl),o4,o5,none,none,none,none,none,none]/\eZ L8 L/\Ho C CH L H' x rl I/\I.flatten=(ps.map jO).take i/\I.length<=i) ⟨rl,[],L8,none,none,rfl,eZ.refl _,aM,rfl,Nat.le_refl _⟩ ?_ ?_ ?_
   ·rintro i σ H' _ ⟨_,_,L,_,_,_,lL,J,_⟩
    exact fj.of (J.hs.s _ _ (lL _ _ b3))
   ·rintro i v σ H' hv ⟨rl,I,L,o4,o5,rfl,lL,J,bb,aP⟩
    obtain⟨kt,aA,q,rfl,hq⟩:=gW (b4.same lL) hv
    obtain⟨p,hp,rfl⟩:∃ p,ps[i]? =some p/\kp p=kt:=by
     rw [List.getElem?_map] at aA
     cases e:ps[i]? with
     | none=>rw [e] at aA;cases aA
     | some z=>rw [e] at aA;exact⟨z,rfl,Option.some.inj aA⟩
    have dq:H' q=some (.tup [.str p.1,.str p.2]):=J.hs.s _ _ hq
    have b6:(ps.map jO)[i]? =some (jO p):=by rw [List.getElem?_map,hp];rfl
    have br:(I++[[(p.1,jF p.2)]]).flatten=(ps.map jO).take (i + 1):=by rw [rD,bb,take_snoc b6];rfl
    have b7:i < ps.length:=(List.getElem?_eq_some_iff.mp hp).1
    have b8:gN (I++[[(p.1,jF p.2)]]):=aO.ok ag h5 (by rw [br];exact List.take_sublist _ _) (by unfold keysOf;rw [br,List.map_take];exact(List.take_sublist _ _).nodup dm) (by rw [List.length_append];show I.length + 1<=90;omega)
    have hlen:p.2.length<=2000:=(aa.t i p hp).d.1
    obtain⟨vl,dx,bs,dt,_⟩:=J.hs.ex
    obtain⟨rs,aB,au⟩:=J.r
    refine⟨q,_,rfl,gb.of dq,rfl,_,_,rfl,_,_,rfl,rfl,?_⟩
    refine⟨_,rfl,x,dx,_,rfl,dt,jB,_,rfl,_,rfl,_,rfl,p.2,rfl,by omega,x,p.1,jF p.2,I,L,rfl,J.hs,b8,fun H9 bc=>?_⟩
    refine⟨_,rfl,_,rfl,_,rfl,_,rfl,p.2,rfl,by omega,rl,rs,I,p.1,jF p.2,rfl,bc.s _ _ aB,au.same bc.s,J.ok.l,J.ok.p,fun l aC du bf hl b9 aQ cb=>?_⟩
    obtain⟨dv,cc,cf,cg,dw⟩:=bc.ext bf
    have eG:=vm I [(p.1,jF p.2)]
    refine⟨l,jE I [(p.1,jF p.2)],dv,_,_,rfl,lL.trans cc,⟨cf,⟨aC,cg _ _ hl b9,IS au cc bc.s bf cg dw aQ cb⟩,b8.sub (by rw [sZ,rD];exact List.Sublist.refl _) (by omega),Ab (by simp) J.ne⟩,by rw [sZ,bb,take_snoc b6];rfl,by omega⟩
   ·rintro σ H' ⟨rl,I,L,o4,o5,rfl,lL,J,bb,aP⟩
    obtain⟨rs,aB,au⟩:=J.r
    refine⟨_,rfl,_,rfl,x,rl,rs,I,rfl,J.hs.r,J.hs.s _ _ aB,au.same J.hs.s,J.ok,fun H9 s9=>⟨_,rfl,fO ?_⟩⟩
    obtain⟨L9,l9,dy,n9,t9⟩:=J.ext s9
    exact⟨rl,I,L9,ps.map jO,_,_,rfl,(ai.trans l8).trans (lL.trans l9),dy,by rw [bb];exact List.take_sublist _ _,by omega,gP,b5,by omega⟩
  ·rintro aL H5 ⟨rl,I,L5,U,o4,o5,rfl,ai,ah,cj,bD,gU,tU,lU⟩
   refine ic (R:=R4) dj fun R5 dz=>?_
   refine⟨_,rfl,_,rfl,a,ml,ns,ws,1,rfl,by decide,(ai.trans ah.hs.s).seq ae,ab,ah.hs.s _ _ (ai _ _ aK),by omega,ag,fun dl xs ds H6 s6 aR bt dA eo hds=>?_⟩
   obtain⟨L6,l6,bg,n6,t6⟩:=ah.ext s6
   have aS:L6 dl=some (.lst xs):=n6 _ _ aR bt
   have bF:lu L6 xs ds:=Gn.Paired.imp2 dA fun _ _ ⟨b,e,y⟩=>⟨b,e,t6 _ _ y⟩
   have gD:∀ p∈ds.map iW,((fZ 12 (.str p.1)=true/\gq (.str p.2)=true)/\Mp ws p.2)/\(tw p.2).length<=90:=fun p hp=>by
    obtain⟨d,hd,rfl⟩:=List.mem_map.mp hp
    obtain⟨h1,h2⟩:=hds d hd
    exact⟨⟨⟨h1,h2.txt⟩,h2.r⟩,h2.l⟩
   have aO:Un ws (U++ds.map iW):=Un.app gU (fun p hp=>(gD p hp).1) (by have:=qU (ps:=ds.map iW) (m:=90) fun p hp=>(gD p hp).2;rw [List.length_map] at this;omega) (by rw [List.length_map];omega)
   refine⟨dl,rfl,⟨_,fj.of bt⟩,?_⟩
   refine jl (xs:=xs) (fun i σ H'=>∃(rl:Addr) (I:List (List (Str×Str))) (L:Hp) (o6:Option V),σ=[some (.ref a),some (.ref ml),some (.ref x),some (.ref rl),o4,o5,o6,none,none,none,none,none]/\eZ L6 L/\Ho C CH L H' x rl I/\I.flatten.Sublist (U++(ds.take i).map iW)/\I.length<=U.length + i) ⟨rl,I,L6,none,rfl,eZ.refl _,bg,by simpa using cj,by omega⟩ ?_ ?_ ?_
   ·rintro i σ H' _ ⟨_,_,L,_,_,lL,J,_⟩
    exact fj.of (J.hs.s _ _ (lL _ _ aS))
   ·rintro i v σ H' hv ⟨rl,I,L,o6,rfl,lL,J,bG,aP⟩
    obtain⟨d,hd,q,rfl,hq⟩:=gW (bF.same lL) hv
    obtain⟨rs,aB,au⟩:=J.r
    have b7:i < ds.length:=(List.getElem?_eq_some_iff.mp hd).1
    have aT:=List.mem_of_getElem? hd
    have bH:(ds.take (i + 1)).map iW=(ds.take i).map iW++[(d.2.1,d.2.2)]:=by rw [take_snoc hd,List.map_append];rfl
    have aU:(I.flatten++[(d.2.1,d.2.2)]).Sublist (U++(ds.take (i + 1)).map iW):=by rw [bH,<-List.append_assoc];exact bG.append (List.Sublist.refl _)
    have bI:(U++(ds.take (i + 1)).map iW).Sublist (U++ds.map iW):=(List.Sublist.refl _).append ((List.take_sublist _ _).map _)
    refine⟨_,rfl,_,rfl,_,rfl,x,rl,q,rs,I,d.1,d.2.1,d.2.2,L,rfl,J.hs,aB,au,J.hs.s _ _ hq,J.ok,J.ne,(hds d aT).1,fun hk=>?_,fun aV aC av L' H7 l7 aj aw aD aW ax aE bJ=>?_⟩
    ·exact aO.ok ag h5 (by rw [rD];exact aU.trans bI) (yU J.ok.n hk) (by rw [List.length_append];show I.length + 1<=90;omega)
    ·refine⟨_,rfl,_,rfl,x,aV,aC,av,rfl,aj.r,aj.s _ _ aw,aD.same aj.s,ax,fun H8 s8=>⟨_,rfl,fO ?_⟩⟩
     obtain⟨L8,l8,aM,_,_⟩:=(Ho.mk aj ⟨aC,aw,aD⟩ ax aW).ext s8
     exact⟨aV,av,L8,_,rfl,lL.trans (l7.trans l8),aM,aE.trans aU,by omega⟩
   ·rintro σ H7 ⟨ck,er,L7,o6,rfl,l7,dB,_,_⟩
    have cm:eZ H2 H7:=(ai.trans (l6.trans l7)).trans dB.hs.s
    refine ic (R:=R5) dz fun R6 dC=>?_
    refine⟨_,rfl,a,ns,25,rfl,cm.seq ae,ab,by decide,fun r6 H8 _ _ s8=>?_⟩
    obtain⟨j6,dD,et⟩:=jo (r:=r6) (n:=6) (by decide)
    refine⟨_,_,rfl,rfl,(by show(0:Int) < 6;decide),_,_,rfl,rfl,?_⟩
    show jC 7 (V.int (2 + r6 % 6)) _ _ _
    rw [<-dD,show(2 + (j6:Int))=((2 + j6:Nat):Int) by omega]
    have bK:=cm.trans s8
    refine ic (R:=R6) dC fun R7 aD=>?_
    refine⟨fun aL H'=>∃ m:Nat,2<=m/\m<=26/\aL=[some (.ref a),some (.ref ml),some (.ref x),some (.ref ck),o4,o5,o6,some (.int (m:Int)),none,none,none,none]/\eZ H2 H',?_,?_⟩
    ·refine⟨_,rfl,a,ns,24,rfl,bK.seq ae,ab,by decide,fun r7 H9 _ _ s9=>?_⟩
     refine⟨_,_,rfl,rfl,(by show(0:Int) < 4;decide),rfl,_,rfl,?_⟩
     refine jX (fun _=>?_) (fun _=>⟨2 + j6,by omega,by omega,rfl,bK.trans s9⟩)
     refine⟨_,rfl,_,_,rfl,rfl,.inr ⟨by decide,by decide⟩,_,_,rfl,rfl,12 + (2 + j6) * 2,by omega,by omega,?_,bK.trans s9⟩
     show [some (V.ref a),some (V.ref ml),some (V.ref x),some (V.ref ck),o4,o5,o6,some (V.int (12 + ((2 + j6:Nat):Int) * 2)),none,none,none,none]=_
     rw [show(12 + ((2 + j6:Nat):Int) * 2)=((12 + (2 + j6) * 2:Nat):Int) by omega]
    ·rintro aL H9 ⟨m,b2,cn,rfl,bL⟩
     refine ic (R:=R7) aD fun R8 dE=>?_
     refine⟨_,rfl,_,rfl,_,rfl,a,ml,ns,ws,30,m,rfl,by decide,bL.seq ae,ab,cn,bL _ _ aK,by omega,ag,fun pl xs ps du bf bD aF aX aa=>?_⟩
     have aN:=aa.l
     have bE:=Gn.Paired.len aX
     rw [List.length_map] at bE
     have gP:∀ p∈ps,(fZ 12 (.str p.1)=true/\gq (.str p.2)=true)/\Mp ws p.2:=fun p hp=>by
      obtain⟨i,hi⟩:=List.getElem?_of_mem hp
      have h1:=aa.t i p hi
      exact⟨⟨aa.k.g _ (List.mem_map.mpr ⟨p,hp,rfl⟩),h1.txt⟩,h1.r⟩
     have ak:jy ps:=⟨fun p hp=>(gP p hp).1,aa.k.n⟩
     have b5:gx (fz ps)<=419:=by
      cases ps with
      | nil=>exact Nat.zero_le _
      | cons p0 r0=>
       have h1:=(aa.t 0 p0 rfl).l
       rw [if_pos rfl] at h1
       have h2:=qU (ps:=r0) (m:=12) fun p hp=>by
        obtain⟨i,hi⟩:=List.getElem?_of_mem hp
        have:=(aa.t (i + 1) p hi).l
        rwa [if_neg (by omega)] at this
       have h3:gx (fz (p0::r0))=(tw p0.2).length + gx (fz r0):=rfl
       rw [List.length_cons] at aN
       omega
     have bu:=bL.trans bf
     refine ic (R:=R8) dE fun R9 dF=>?_
     refine⟨_,rfl,_,rfl,a,ns,26,rfl,bu.seq ae,ab,by decide,fun r9 eH _ _ bM=>?_⟩
     refine⟨pl,xs,ps,r9,rfl,bM _ _ aF,aX.same bM,by omega,by omega,ak,fun eI dG=>⟨_,rfl,fO ?_⟩⟩
     have aY:=bM.trans dG
     have bw:=bu.trans aY
     refine ic (R:=R9) dF fun dH aQ=>?_
     refine⟨_,rfl,a,ns,27,rfl,bw.seq ae,ab,by decide,fun cq dI _ _ cu=>?_⟩
     obtain⟨c0,dJ,eu⟩:=jo (r:=cq) (n:=((xs.length:Nat):Int) - 1) (by omega)
     have aG:=aY.trans cu
     refine⟨_,rfl,pl,_,rfl,.inl (fj.of (aG _ _ aF)),_,_,rfl,rfl,_,_,rfl,rfl,(by show(0:Int) < ((xs.length:Nat):Int) - 1;omega),_,_,rfl,rfl,?_⟩
     show jC 9 (V.int (1 + cq % (((xs.length:Nat):Int) - 1))) _ _ _
     rw [<-dJ,show(1 + (c0:Int))=((1 + c0:Nat):Int) by omega]
     obtain⟨c,hc⟩:∃ c,c=1 + c0:=⟨_,rfl⟩
     rw [<-hc]
     have ao:=aG _ _ aF
     have bx:=aX.same aG
     have ay:=bw.trans cu
     generalize ew:dI=G0 at ao bx ay ⊢
     refine ic (R:=dH) aQ fun dM cv=>?_
     refine⟨_,rfl,_,rfl,_,rfl,pl,_,rfl,fj.of ao,fun l1 cw=>?_⟩
     rw [oI]
     have sa:eZ G0 (upd G0 l1 (.lst (xs.take c))):=fC cw
     have ea:upd G0 l1 (.lst (xs.take c)) l1=some (.lst (xs.take c)):=fv
     generalize upd G0 l1 (.lst (xs.take c))=Ga at sa ea ⊢
     refine⟨_,rfl,_,rfl,_,rfl,pl,_,rfl,fj.of (sa _ _ ao),fun l2 dO=>?_⟩
     rw [rj]
     have sb:eZ Ga (upd Ga l2 (.lst (xs.drop c))):=fC dO
     have eb:upd Ga l2 (.lst (xs.drop c)) l2=some (.lst (xs.drop c)):=fv
     generalize upd Ga l2 (.lst (xs.drop c))=Gb at sb eb ⊢
     refine⟨(by show 2<=sizeLine;decide),fun sl aZ=>?_⟩
     have bh:eZ Gb (upd Gb sl (.lst [.ref l1,.ref l2])):=fC aZ
     have a0:upd Gb sl (.lst [.ref l1,.ref l2]) sl=some (.lst [.ref l1,.ref l2]):=fv
     generalize upd Gb sl (.lst [.ref l1,.ref l2])=Gc at bh a0 ⊢
     have aJ:=(sa.trans sb).trans bh
     have a3:=(sb.trans bh) _ _ ea
     have dP:=bh _ _ eb
     have cx:=bx.same aJ
     have bz:=aJ _ _ ao
     have cy:gm Gc (xs.take c) ((ps.take c).map kp):=by rw [List.map_take];exact zi cx c
     have cz:gm Gc (xs.drop c) ((ps.drop c).map kp):=by rw [List.map_drop];exact z8 cx c
     have ef:[ps.take c,ps.drop c].flatten=ps:=by rw [List.flatten_cons,List.flatten_cons,List.flatten_nil,List.append_nil,List.take_append_drop]
     have bN:([ps.take c,ps.drop c].map (List.map kp)).flatten=ps.map kp:=by rw [<-List.map_flatten,ef]
     have cA:Un ws ps:=⟨gP,by omega,by omega⟩
     have gZ:gN [ps.take c,ps.drop c]:=cA.ok ag h5 (by rw [ef];exact List.Sublist.refl _) (by unfold keysOf;rw [ef];exact ak.n) (by show 2<=90;decide)
     refine ic (R:=dM) cv fun dQ cB=>?_
     refine⟨_,rfl,sl,_,[ps.take c,ps.drop c].map (List.map kp),rfl,a0,.cons ⟨l1,_,rfl,a3,cy⟩ (.cons ⟨l2,_,rfl,dP,cz⟩ .nil),(by rw [bN,List.length_map];omega),(by show 2<=90;decide),(by rw [bN];exact wb ak),fun i hi=>(by rw [bN,rO ak] at hi;cases hi),fun I e hg=>?_⟩
     have cC:=tZ e
     subst cC
     refine⟨gZ,fun x2 Gd sd eJ dR=>?_⟩
     have eK:=aJ.trans sd
     refine ic (R:=dQ) cB fun dS cD=>?_
     refine⟨_,rfl,_,rfl,_,rfl,pl,_,rfl,fj.of (sd _ _ bz),fun l3 cE=>?_⟩
     rw [oI]
     have se:eZ Gd (upd Gd l3 (.lst (xs.take c))):=fC cE
     have ee:upd Gd l3 (.lst (xs.take c)) l3=some (.lst (xs.take c)):=fv
     generalize upd Gd l3 (.lst (xs.take c))=Ge at se ee ⊢
     refine⟨_,rfl,_,rfl,_,rfl,pl,_,rfl,fj.of ((sd.trans se) _ _ bz),fun l4 cF=>?_⟩
     rw [rj]
     have bj:eZ Ge (upd Ge l4 (.lst (xs.drop c))):=fC cF
     have cG:upd Ge l4 (.lst (xs.drop c)) l4=some (.lst (xs.drop c)):=fv
     generalize upd Ge l4 (.lst (xs.drop c))=Gf at bj cG ⊢
     refine⟨(by show 2<=sizeLine;decide),fun aq bA=>?_⟩
     have sg:eZ Gf (upd Gf aq (.lst [.ref l3,.ref l4])):=fC bA
     have eg:upd Gf aq (.lst [.ref l3,.ref l4]) aq=some (.lst [.ref l3,.ref l4]):=fv
     generalize upd Gf aq (.lst [.ref l3,.ref l4])=Gg at sg eg ⊢
     have cH:=(se.trans bj).trans sg
     have bo:=sd.trans cH
     have eL:=aJ.trans bo
     refine ic (R:=dS) cD fun dU cI=>?_
     refine⟨_,rfl,sl,_,_,_,rfl,rfl,fj.of (bo _ _ a0),gR (j:=0) rfl,.inl ⟨rfl,_,fj.of (bo _ _ a3)⟩,(by show 2<=sizeLine;decide),fun q hq=>?_⟩
     have sq:eZ Gg (upd Gg q (.tup [.str "more",.str "more"])):=fC hq
     have dV:upd Gg q (.tup [.str "more",.str "more"]) l1=some (.lst (xs.take c)):=sq _ _ (bo _ _ a3)
     obtain⟨Lq,lq,dW,nq,tq⟩:=dR.ext (cH.trans sq)
     have a4:Gd l3=none:=cE
     have a5:Gd l4=none:=se.free cF
     have a6:Gd aq=none:=(se.trans bj).free bA
     have L3:Lq l3=some (.lst (xs.take c)):=nq _ _ a4 (((bj.trans sg).trans sq) _ _ ee)
     have dX:Lq l4=some (.lst (xs.drop c)):=nq _ _ a5 ((sg.trans sq) _ _ cG)
     have Lr:Lq aq=some (.lst [.ref l3,.ref l4]):=nq _ _ a6 (sq _ _ eg)
     have L1:Lq l1=some (.lst (xs.take c)):=lq _ _ a3
     have Ls:Lq sl=some (.lst [.ref l1,.ref l2]):=lq _ _ a0
     have cJ:gm Lq (xs.take c) ((ps.take c).map kp):=cy.same lq
     have cK:gm Lq (xs.drop c) ((ps.drop c).map kp):=cz.same lq
     have ar:=dW.lset (l:=xs.take c++[.ref q]) L1
     have dY:l1≠sl:=fun z=>by rw [<-z] at aZ;rw [sb _ _ ea] at aZ;cases aZ
     refine⟨l1,_,_,rfl,rfl,dV,(by rw [List.length_take];omega),?_⟩
     generalize upd (upd Gg q (.tup [.str "more",.str "more"])) l1 (.lst (xs.take c++[.ref q]))=Gh at ar ⊢
     have bO:upd Lq l1 (.lst (xs.take c++[.ref q])) sl=some (.lst [.ref l1,.ref l2]):=(fB (Ne.symm dY)).trans Ls
     have aH:=ar.lset (l:=[]) bO
     refine ic (R:=dU) cI fun dZ cL=>?_
     refine⟨_,rfl,.inl ⟨rfl,_,fj.of (ar.s _ _ bO)⟩,sl,_,rfl,rfl,ar.s _ _ bO,?_⟩
     generalize upd Gh sl (.lst [])=Gi at aH ⊢
     have keep:∀ b u,Lq b=some u->b≠l1->b≠sl->upd (upd Lq l1 (.lst (xs.take c++[.ref q]))) sl (.lst []) b=some u:=fun b u e n1 n2=>(fB n2).trans ((fB n1).trans e)
     have a7:∀ b ts,Lq b=some (.tup ts)->upd (upd Lq l1 (.lst (xs.take c++[.ref q]))) sl (.lst []) b=some (.tup ts):=fun b ts e=>keep b _ e (fun z=>by rw [z,L1] at e;cases e) (fun z=>by rw [z,Ls] at e;cases e)
     have fr:∀{b},Gd b=none->b≠l1/\b≠sl:=fun{b} e=>⟨(fun z=>by rw [z,sd _ _ a3] at e;cases e),(fun z=>by rw [z,sd _ _ a0] at e;cases e)⟩
     have aI:∀{ys:List V} {qs:List (Str×Str)},gm Lq ys (qs.map kp)->gm (upd (upd Lq l1 (.lst (xs.take c++[.ref q]))) sl (.lst [])) ys (qs.map kp):=fun h=>Gn.Paired.imp2 h fun _ _ ⟨b,e,y⟩=>⟨b,e,a7 _ _ y⟩
     have K3:=keep _ _ L3 (fr a4).1 (fr a4).2
     have cM:=keep _ _ dX (fr a5).1 (fr a5).2
     have Kr:=keep _ _ Lr (fr a6).1 (fr a6).2
     have cN:=aI cJ
     have cO:=aI cK
     have eM:Gc ml=some (.lst (ws.map V.str)):=aJ _ _ (ay _ _ aK)
     have kS:∀ b u,H2 b=some u->b≠l1->b≠sl->upd (upd Lq l1 (.lst (xs.take c++[.ref q]))) sl (.lst []) b=some u:=fun b u e n1 n2=>keep b u (lq _ _ (aJ _ _ (ay _ _ e))) n1 n2
     have cP:∀{b u},H2 b=some u->b≠l1/\b≠sl:=fun{b u} e=>⟨fW (ay _ _ e) cw,fW ((sa.trans sb) _ _ (ay _ _ e)) aZ⟩
     have sK:eZ H2 (upd (upd Lq l1 (.lst (xs.take c++[.ref q]))) sl (.lst [])):=fun b u e=>kS b u e (cP e).1 (cP e).2
     generalize upd (upd Lq l1 (.lst (xs.take c++[.ref q]))) sl (.lst [])=Li at aH keep a7 aI K3 cM Kr cN cO kS sK
     have d0:NE [ps.take c,ps.drop c]:=fun zs hz=>by
      have:zs=ps.take c\/zs=ps.drop c:=by simpa using hz
      intro z
      rcases this with e | e
      ·rw [z] at e
       have:=congrArg List.length e
       rw [List.length_take] at this
       have h0:([]:List (Str×Str)).length=0:=rfl
       omega
      ·rw [z] at e
       have:=congrArg List.length e
       rw [List.length_drop] at this
       have h0:([]:List (Str×Str)).length=0:=rfl
       omega
     have a8:Ho C CH Li Gi x2 aq [ps.take c,ps.drop c]:=⟨aH,⟨_,Kr,.cons ⟨l3,_,rfl,K3,cN⟩ (.cons ⟨l4,_,rfl,cM,cO⟩ .nil)⟩,gZ,d0⟩
     refine ic (R:=dZ) cL fun d1 cQ=>?_
     obtain⟨d2,cR,cS⟩:=a8.r
     refine⟨_,rfl,_,rfl,x2,aq,d2,_,rfl,a8.hs.r,a8.hs.s _ _ cR,cS.same a8.hs.s,gZ,fun Gj sj=>⟨_,rfl,fO ?_⟩⟩
     obtain⟨Lj,lj,bP,nj,tj⟩:=a8.ext sj
     have cT:=sK.trans lj
     refine ic (R:=d1) cQ fun d3 cU=>?_
     refine⟨_,rfl,_,rfl,a,ml,ns,ws,28,rfl,by decide,(cT.trans bP.hs.s).seq ae,ab,bP.hs.s _ _ (cT _ _ aK),by omega,ag,fun d4 af d5 Gk sk ey bQ d6 d7 cV=>?_⟩
     refine⟨_,rfl,d4,_,rfl,fj.of bQ,fun dl aR=>?_⟩
     have d8:jb af none (some 6)=af.take 6:=oI _ 6
     rw [d8]
     obtain⟨L6,l6,bg,n6,t6⟩:=bP.ext (sk.trans (fC (o:= .lst (af.take 6)) aR))
     have aS:L6 dl=some (.lst (af.take 6)):=n6 _ _ (sk.free aR) fv
     obtain⟨ds,bR⟩:∃ ds,ds=d5.take 6:=⟨_,rfl⟩
     have bF:lu L6 (af.take 6) ds:=by
      rw [bR]
      exact Gn.Paired.imp2 (tD 6 (d6.same (fC (o:= .lst (af.take 6)) aR))) fun _ _ ⟨b,e,y⟩=>⟨b,e,t6 _ _ y⟩
     have hds:∀ d∈ds,fZ 12 (.str d.2.1)=true/\Tx ws 90 d.2.2:=fun d hd=>cV d (by rw [bR] at hd;exact List.mem_of_mem_take hd)
     have eN:ds.length<=6:=by rw [bR,List.length_take];omega
     obtain⟨U,eU⟩:∃ U,U=ps:=⟨_,rfl⟩
     have lU:U.length<=26:=by rw [eU];omega
     have gD:∀ p∈ds.map iW,((fZ 12 (.str p.1)=true/\gq (.str p.2)=true)/\Mp ws p.2)/\(tw p.2).length<=90:=fun p hp=>by
      obtain⟨d,hd,rfl⟩:=List.mem_map.mp hp
      obtain⟨h1,h2⟩:=hds d hd
      exact⟨⟨⟨h1,h2.txt⟩,h2.r⟩,h2.l⟩
     have aO:Un ws (U++ds.map iW):=Un.app (by rw [eU];exact gP) (fun p hp=>(gD p hp).1) (by have:=qU (ps:=ds.map iW) (m:=90) fun p hp=>(gD p hp).2;rw [List.length_map] at this;rw [eU];omega) (by rw [List.length_map];omega)
     have cW:upd Gk dl (.lst (af.take 6)) dl=some (.lst (af.take 6)):=fv
     generalize upd Gk dl (.lst (af.take 6))=Gl at bg n6 t6 cW ⊢
     refine⟨dl,rfl,⟨_,fj.of cW⟩,?_⟩
     have eO:2<=U.length:=by rw [eU];omega
     refine jl (xs:=af.take 6) (fun i σ H'=>∃(rl:Addr) (I:List (List (Str×Str))) (L:Hp) (d9:Option V),σ=[some (.ref a),some (.ref ml),some (.ref x),some (.ref rl),o4,o5,d9,some (.int (m:Int)),some (.ref pl),some (.int (c:Int)),some (.ref sl),some (.ref x2)]/\eZ L6 L/\Ho C CH L H' x2 rl I/\I.flatten.Sublist (U++(ds.take i).map iW)/\I.length<=U.length + i) ⟨aq,_,L6,o6,rfl,eZ.refl _,bg,(by rw [ef,eU,List.take_zero,List.map_nil,List.append_nil];exact List.Sublist.refl _),(by show 2<=U.length + 0;omega)⟩ ?_ ?_ ?_
     ·rintro i σ H' _ ⟨_,_,L,_,_,lL,J,_⟩
      exact fj.of (J.hs.s _ _ (lL _ _ aS))
     ·rintro i v σ H' hv ⟨rl,I,L,o6,rfl,lL,J,bG,aP⟩
      obtain⟨d,hd,q,rfl,hq⟩:=gW (bF.same lL) hv
      obtain⟨rs,aB,au⟩:=J.r
      have b7:i < ds.length:=(List.getElem?_eq_some_iff.mp hd).1
      have aT:=List.mem_of_getElem? hd
      have bH:(ds.take (i + 1)).map iW=(ds.take i).map iW++[(d.2.1,d.2.2)]:=by rw [take_snoc hd,List.map_append];rfl
      have aU:(I.flatten++[(d.2.1,d.2.2)]).Sublist (U++(ds.take (i + 1)).map iW):=by rw [bH,<-List.append_assoc];exact bG.append (List.Sublist.refl _)
      have bI:(U++(ds.take (i + 1)).map iW).Sublist (U++ds.map iW):=(List.Sublist.refl _).append ((List.take_sublist _ _).map _)
      refine⟨_,rfl,_,rfl,_,rfl,x2,rl,q,rs,I,d.1,d.2.1,d.2.2,L,rfl,J.hs,aB,au,J.hs.s _ _ hq,J.ok,J.ne,(hds d aT).1,fun hk=>?_,fun aV aC av L' H7 l7 aj aw aD aW ax aE bJ=>?_⟩
      ·exact aO.ok ag h5 (by rw [rD];exact aU.trans bI) (yU J.ok.n hk) (by rw [List.length_append];show I.length + 1<=90;omega)
      ·refine⟨_,rfl,_,rfl,x2,aV,aC,av,rfl,aj.r,aj.s _ _ aw,aD.same aj.s,ax,fun H8 s8=>⟨_,rfl,fO ?_⟩⟩
       obtain⟨L8,l8,aM,_,_⟩:=(Ho.mk aj ⟨aC,aw,aD⟩ ax aW).ext s8
       exact⟨aV,av,L8,_,rfl,lL.trans (l7.trans l8),aM,aE.trans aU,by omega⟩
     ·rintro σ Gm ⟨eP,ez,L8,o8,rfl,eQ,eA,_,_⟩
      refine uB (R:=d3) cU ?_
      refine⟨Nat.zero_le _,fun c1 eR=>?_⟩
      refine⟨c1,[],[],rfl,fv,.nil,Nat.zero_le _,Nat.zero_le _,(fun kt aA=>by cases aA),(fun i hi=>by cases hi),fun I e hg=>?_⟩
      have ep:[]=I:=tZ e
      subst ep
      refine⟨bY,fun x3 eS sn eT cX=>?_⟩
      obtain⟨eV,ed,ll,cY,_⟩:=cX.ex
      refine⟨x3,ed,_,rfl,cY,jB,x3,[],rfl,cX.r,Nat.zero_le _,fun l hl=>⟨Nat.zero_le _,fun c2 eh=>?_⟩⟩
      refine⟨.list [],.list [],.lst (fj.of (fC eh _ _ fv)) .nil,.lst (fj.of fv) .nil,rfl,rfl,(by decide),true,rfl,fY ?_⟩
      intro x4 cZ ei c4 eB
      refine⟨x4,cZ,rfl,fv,fun eW c5=>⟨rfl,?_⟩⟩
      have c6:=y7 (C:=C) (CH:=CH) ei c4 c5
      refine⟨x4,cZ,_,rfl,fv,jB,x4,[],rfl,c6.r,Nat.zero_le _,fun eX ej Go so eC ek=>⟨Nat.zero_le _,fun c3 el=>?_⟩⟩
      have en:ej=[]:=by cases ek;rfl
      subst en
      exact⟨.list [],.list [],.lst (fj.of (fC el _ _ fv)) .nil,.lst (fj.of fv) .nil,rfl,rfl,(by decide),kk _⟩
end
section
variable {P : Program} {w : World} {K : PySem.W.Frag} {mg : Str -> Option Value} {base h : Heap} {CK CT C2 CN C0 CW CA C CH : Addr}
theorem Ib(X:K.In h)(G:h.Ns mainGlobals mg){t0 t1 t2 t3 t4 t5 t6:Tok}
  (n0:W.nsIn K mainGlobals "isinstance"=some none)
  (n1:W.nsIn K mainGlobals "int"=some none)
  (n2:W.nsIn K mainGlobals "bool"=some none)
  (n3:W.nsIn K mainGlobals "str"=some none)
  (n4:W.nsIn K mainGlobals "list"=some none)
  (n5:W.nsIn K mainGlobals "tuple"=some none)
  (n6:W.nsIn K mainGlobals "len"=some none)
  (n7:W.nsIn K mainGlobals "all"=some none)
  (n8:W.nsIn K mainGlobals "ord"=some none)
  (n9:W.nsIn K mainGlobals "range"=some none)
  (n10:W.nsIn K mainGlobals "enumerate"=some none)
  (n11:W.nsIn K mainGlobals "sorted"=some none)
  (n12:W.nsIn K mainGlobals "ValueError"=some none)
  (c0:W.nsIn K mainGlobals "MOST_TEXT_SIGNS"=some (some (.int 2000 t0)))
  (c1:W.nsIn K mainGlobals "MOST_KEY_SIGNS"=some (some (.int 12 t1)))
  (c2:W.nsIn K mainGlobals "MOST_WORD_SIGNS"=some (some (.int 2000 t2)))
  (c3:W.nsIn K mainGlobals "SMALL_SIGNS"=some (some (.str "abcdefghijklmnopqrstuvwxyz0123456789" t3)))
  (c4:W.nsIn K mainGlobals "PERCENT_NUMBER"=some (some (.int 37 t4)))
  (c5:W.nsIn K mainGlobals "GREATEST_PART"=some (some (.int 255 t5)))
  (c6:W.nsIn K mainGlobals "MORE_COMES"=some (some (.int 128 t6)))
  :Txt mg where
 isi:=W.mg_none_of X G n0
 int:=W.mg_none_of X G n1
 bool:=W.mg_none_of X G n2
 str:=W.mg_none_of X G n3
 list:=W.mg_none_of X G n4
 tuple:=W.mg_none_of X G n5
 len:=W.mg_none_of X G n6
 all:=W.mg_none_of X G n7
 ord:=W.mg_none_of X G n8
 range:=W.mg_none_of X G n9
 enum:=W.mg_none_of X G n10
 sorted:=W.mg_none_of X G n11
 val:=W.mg_none_of X G n12
 cText:=⟨t0,W.mg_of X G c0⟩
 cKey:=⟨t1,W.mg_of X G c1⟩
 cWord:=⟨t2,W.mg_of X G c2⟩
 cSmall:=⟨t3,W.mg_of X G c3⟩
 cPer:=⟨t4,W.mg_of X G c4⟩
 cGreat:=⟨t5,W.mg_of X G c5⟩
 cMore:=⟨t6,W.mg_of X G c6⟩
def uj(K:W.Frag)(mg:Str->Option Value):Prop:=∃ CK CT C2 CN C0 CW CA,Ex K mg "BadKey" CK/\Ex K mg "BadText" CT/\Ex K mg "Twice" C2/\Ex K mg "BadNumber" CN/\Ex K mg "NoText" C0/\Ex K mg "BadWord" CW/\tu K mg CA CK CT C2 C0/\W.exmOne K (.ref C0) (.ref C0)=some true
theorem D1(X:K.In h)(G:h.Ns mainGlobals mg)
  (a0:W.nsIn K mainGlobals "BadKey"=some (some (.ref CK)))
  (x0:W.excIn K CK [.type "ValueError",.type "Exception",.type "BaseException",.type "object"] "ValueError.__new__"=true)
  (a1:W.nsIn K mainGlobals "BadText"=some (some (.ref CT)))
  (x1:W.excIn K CT [.type "ValueError",.type "Exception",.type "BaseException",.type "object"] "ValueError.__new__"=true)
  (a2:W.nsIn K mainGlobals "Twice"=some (some (.ref C2)))
  (x2:W.excIn K C2 [.type "ValueError",.type "Exception",.type "BaseException",.type "object"] "ValueError.__new__"=true)
  (a3:W.nsIn K mainGlobals "BadNumber"=some (some (.ref CN)))
  (x3:W.excIn K CN [.type "ValueError",.type "Exception",.type "BaseException",.type "object"] "ValueError.__new__"=true)
  (a4:W.nsIn K mainGlobals "NoText"=some (some (.ref C0)))
  (x4:W.excIn K C0 [.type "ValueError",.type "Exception",.type "BaseException",.type "object"] "ValueError.__new__"=true)
  (a5:W.nsIn K mainGlobals "BadWord"=some (some (.ref CW)))
  (x5:W.excIn K CW [.type "ValueError",.type "Exception",.type "BaseException",.type "object"] "ValueError.__new__"=true)
  (aA:W.nsIn K mainGlobals "HallError"=some (some (.ref CA)))
  (hn:W.specialIn K (.builtin "object.__class__") "__get__"=some (some (.builtin "getset_descriptor.__get__")))
  (ht:W.takesIn K (.builtin "object.__class__")=some true)
  {cd0:ClassData}
  (cl0:W.clsIn K CK=some cd0)
  (ga0:W.findIn K (.ref CK) "__getattribute__"=some (some (.builtin "BaseException.__getattribute__")))
  (hk0:W.findIn K (.ref CK) "__getattr__"=some none)
  (ha0:W.findIn K (.ref CK) "__class__"=some (some (.builtin "object.__class__")))
  (hm0:W.mroIn K CK (.type "object")=some true)
  (hb0:W.mroIn K CK (.type "BaseException")=some true)
  (q0_0:W.kitOne K (.ref CK) (.ref CK)=some true)
  (q1_0:W.kitOne K (.ref CK) (.ref CT)=some false)
  (q2_0:W.kitOne K (.ref CK) (.ref C2)=some false)
  (q3_0:W.kitOne K (.ref CK) (.ref C0)=some false)
  (v0:W.kitOne K (.ref CK) (.type "ValueError")=some true)
  (e0:W.exmOne K (.ref CK) (.ref CA)=some true)
  {cd1:ClassData}
  (cl1:W.clsIn K CT=some cd1)
  (ga1:W.findIn K (.ref CT) "__getattribute__"=some (some (.builtin "BaseException.__getattribute__")))
  (hk1:W.findIn K (.ref CT) "__getattr__"=some none)
  (ha1:W.findIn K (.ref CT) "__class__"=some (some (.builtin "object.__class__")))
  (hm1:W.mroIn K CT (.type "object")=some true)
  (hb1:W.mroIn K CT (.type "BaseException")=some true)
  (q0_1:W.kitOne K (.ref CT) (.ref CK)=some false)
  (q1_1:W.kitOne K (.ref CT) (.ref CT)=some true)
  (q2_1:W.kitOne K (.ref CT) (.ref C2)=some false)
  (q3_1:W.kitOne K (.ref CT) (.ref C0)=some false)
  (v1:W.kitOne K (.ref CT) (.type "ValueError")=some true)
  (e1:W.exmOne K (.ref CT) (.ref CA)=some true)
  {cd2:ClassData}
  (cl2:W.clsIn K C2=some cd2)
  (ga2:W.findIn K (.ref C2) "__getattribute__"=some (some (.builtin "BaseException.__getattribute__")))
  (hk2:W.findIn K (.ref C2) "__getattr__"=some none)
  (ha2:W.findIn K (.ref C2) "__class__"=some (some (.builtin "object.__class__")))
  (hm2:W.mroIn K C2 (.type "object")=some true)
  (hb2:W.mroIn K C2 (.type "BaseException")=some true)
  (q0_2:W.kitOne K (.ref C2) (.ref CK)=some false)
  (q1_2:W.kitOne K (.ref C2) (.ref CT)=some false)
  (q2_2:W.kitOne K (.ref C2) (.ref C2)=some true)
  (q3_2:W.kitOne K (.ref C2) (.ref C0)=some false)
  (v2:W.kitOne K (.ref C2) (.type "ValueError")=some true)
  (e2:W.exmOne K (.ref C2) (.ref CA)=some true)
  (ee:W.exmOne K (.ref C0) (.ref C0)=some true)
  :uj K mg:=
 ⟨CK,CT,C2,CN,C0,CW,CA,⟨W.mg_of X G a0,x0⟩,⟨W.mg_of X G a1,x1⟩,⟨W.mg_of X G a2,x2⟩,⟨W.mg_of X G a3,x3⟩,⟨W.mg_of X G a4,x4⟩,⟨W.mg_of X G a5,x5⟩,⟨W.mg_of X G aA,W.mg_of X G a0,W.mg_of X G a1,W.mg_of X G a2,W.mg_of X G a4,⟨⟨by rw [cl0];rfl,ga0,hk0,ha0,hn,ht,hm0,hb0⟩,q0_0,q1_0,q2_0,q3_0,v0,e0⟩,⟨⟨by rw [cl1];rfl,ga1,hk1,ha1,hn,ht,hm1,hb1⟩,q0_1,q1_1,q2_1,q3_1,v1,e1⟩,⟨⟨by rw [cl2];rfl,ga2,hk2,ha2,hn,ht,hm2,hb2⟩,q0_2,q1_2,q2_2,q3_2,v2,e2⟩⟩,ee⟩
def Bk(K:W.Frag)(mg:Str->Option Value):Prop:=∃ C CH:Addr,iN K mg C/\jH K mg C CH/\(∃ f d,lr K "__init__" "Book.__init__" j8 f d #[.none]/\L2.Mk K C f)/\(∃ f d,fV K "__init__" "House.__init__" lY f d/\L2.Mk K CH f)/\(∃ f d,fV K "many" "Book.many" jT f d/\Meth K C "many" f)/\(∃ f d,fV K "need_own" "Book.need_own" mx f d/\Meth K C "need_own" f)/\(∃ f d,fV K "key_of" "Book.key_of" nL f d/\Meth K C "key_of" f)/\(∃ f d,fV K "text_of" "Book.text_of" lW f d/\Meth K C "text_of" f)/\(∃ f d,fV K "number_of" "Book.number_of" mD f d/\Meth K C "number_of" f)/\(∃ f d,fV K "words" "Book.words" mJ f d/\Meth K C "words" f)/\(∃ f d,fV K "parts_of" "Book.parts_of" mF f d/\Meth K C "parts_of" f)/\(∃ f d,fV K "row_of" "Book.row_of" m5 f d/\Meth K C "row_of" f)/\(∃ f d,fV K "place_of" "House.place_of" mq f d/\Meth K CH "place_of" f)/\(∃ f d,fV K "has" "House.has" nc f d/\Meth K CH "has" f)/\(∃ f d,fV K "put" "House.put" lF f d/\Meth K CH "put" f)/\(∃ f d,fV K "take" "House.take" mi f d/\Meth K CH "take" f)/\(∃ f d,fV K "books" "House.books" kK f d/\Meth K CH "books" f)/\(∃ f d,fV K "shelves" "House.shelves" lD f d/\Meth K CH "shelves" f)/\(∃ f d,fV K "pour" "House.pour" m6 f d/\Meth K CH "pour" f)
theorem Dj{fI T:Addr}{odI anI tdI:Option Addr}{slI tslI:Array (Option Value)}{ocI kVI dcI pmI cdI ctI tcI:Value}{tnI:Nat}{fJ:Addr}{odJ anJ:Option Addr}{slJ:Array (Option Value)}{ocJ kVJ dcJ pmJ cdJ ctJ:Value}{f0:Addr}{od0 an0:Option Addr}{sl0:Array (Option Value)}{oc0 kV0 dc0 pm0 cd0 ct0:Value}{f1:Addr}{od1 an1:Option Addr}{sl1:Array (Option Value)}{oc1 kV1 dc1 pm1 cd1 ct1:Value}{f2:Addr}{od2 an2:Option Addr}{sl2:Array (Option Value)}{oc2 kV2 dc2 pm2 cd2 ct2:Value}{f3:Addr}{od3 an3:Option Addr}{sl3:Array (Option Value)}{oc3 kV3 dc3 pm3 cd3 ct3:Value}{f4:Addr}{od4 an4:Option Addr}{sl4:Array (Option Value)}{oc4 kV4 dc4 pm4 cd4 ct4:Value}{f5:Addr}{od5 an5:Option Addr}{sl5:Array (Option Value)}{oc5 kV5 dc5 pm5 cd5 ct5:Value}{f6:Addr}{od6 an6:Option Addr}{sl6:Array (Option Value)}{oc6 kV6 dc6 pm6 cd6 ct6:Value}{f7:Addr}{od7 an7:Option Addr}{sl7:Array (Option Value)}{oc7 kV7 dc7 pm7 cd7 ct7:Value}{f20:Addr}{od20 an20:Option Addr}{sl20:Array (Option Value)}{oc20 kV20 dc20 pm20 cd20 ct20:Value}{f21:Addr}{od21 an21:Option Addr}{sl21:Array (Option Value)}{oc21 kV21 dc21 pm21 cd21 ct21:Value}{f22:Addr}{od22 an22:Option Addr}{sl22:Array (Option Value)}{oc22 kV22 dc22 pm22 cd22 ct22:Value}{f23:Addr}{od23 an23:Option Addr}{sl23:Array (Option Value)}{oc23 kV23 dc23 pm23 cd23 ct23:Value}{f24:Addr}{od24 an24:Option Addr}{sl24:Array (Option Value)}{oc24 kV24 dc24 pm24 cd24 ct24:Value}{f25:Addr}{od25 an25:Option Addr}{sl25:Array (Option Value)}{oc25 kV25 dc25 pm25 cd25 ct25:Value}{f26:Addr}{od26 an26:Option Addr}{sl26:Array (Option Value)}{oc26 kV26 dc26 pm26 cd26 ct26:Value}
  (X:K.In h)(G:h.Ns mainGlobals mg)
  (aC:W.nsIn K mainGlobals "Book"=some (some (.ref C)))
  (aI:W.findIn K (.ref C) "__init__"=some (some (.ref fI)))
  (iI:W.isFn K (.ref fI)=true)
  (lI:K.lookup fI=some ⟨ocI,odI,.func (W.fnOf "__init__" "Book.__init__" (gX j8) (gH j8) (fD j8) (.ref T) kVI dcI pmI anI cdI ctI),slI⟩)
  (cI:W.codeIn K cdI "Book.__init__"=true)
  (tI:K.lookup T=some ⟨tcI,tdI,.seq #[.none] tnI,tslI⟩)
  (a0:W.findIn K (.ref C) "many"=some (some (.ref f0)))
  (i0:W.isFn K (.ref f0)=true)
  (l0:K.lookup f0=some ⟨oc0,od0,.func (W.fnOf "many" "Book.many" (gX jT) (gH jT) (fD jT) .none kV0 dc0 pm0 an0 cd0 ct0),sl0⟩)
  (c0:W.codeIn K cd0 "Book.many"=true)
  (k0:W.keepIn K (.ref f0)=true)
  (a1:W.findIn K (.ref C) "need_own"=some (some (.ref f1)))
  (i1:W.isFn K (.ref f1)=true)
  (l1:K.lookup f1=some ⟨oc1,od1,.func (W.fnOf "need_own" "Book.need_own" (gX mx) (gH mx) (fD mx) .none kV1 dc1 pm1 an1 cd1 ct1),sl1⟩)
  (c1:W.codeIn K cd1 "Book.need_own"=true)
  (k1:W.keepIn K (.ref f1)=true)
  (a2:W.findIn K (.ref C) "key_of"=some (some (.ref f2)))
  (i2:W.isFn K (.ref f2)=true)
  (l2:K.lookup f2=some ⟨oc2,od2,.func (W.fnOf "key_of" "Book.key_of" (gX nL) (gH nL) (fD nL) .none kV2 dc2 pm2 an2 cd2 ct2),sl2⟩)
  (c2:W.codeIn K cd2 "Book.key_of"=true)
  (k2:W.keepIn K (.ref f2)=true)
  (a3:W.findIn K (.ref C) "text_of"=some (some (.ref f3)))
  (i3:W.isFn K (.ref f3)=true)
  (l3:K.lookup f3=some ⟨oc3,od3,.func (W.fnOf "text_of" "Book.text_of" (gX lW) (gH lW) (fD lW) .none kV3 dc3 pm3 an3 cd3 ct3),sl3⟩)
  (c3:W.codeIn K cd3 "Book.text_of"=true)
  (k3:W.keepIn K (.ref f3)=true)
  (a4:W.findIn K (.ref C) "number_of"=some (some (.ref f4)))
  (i4:W.isFn K (.ref f4)=true)
  (l4:K.lookup f4=some ⟨oc4,od4,.func (W.fnOf "number_of" "Book.number_of" (gX mD) (gH mD) (fD mD) .none kV4 dc4 pm4 an4 cd4 ct4),sl4⟩)
  (c4:W.codeIn K cd4 "Book.number_of"=true)
  (k4:W.keepIn K (.ref f4)=true)
  (a5:W.findIn K (.ref C) "words"=some (some (.ref f5)))
  (i5:W.isFn K (.ref f5)=true)
  (l5:K.lookup f5=some ⟨oc5,od5,.func (W.fnOf "words" "Book.words" (gX mJ) (gH mJ) (fD mJ) .none kV5 dc5 pm5 an5 cd5 ct5),sl5⟩)
  (c5:W.codeIn K cd5 "Book.words"=true)
  (k5:W.keepIn K (.ref f5)=true)
  (a6:W.findIn K (.ref C) "parts_of"=some (some (.ref f6)))
  (i6:W.isFn K (.ref f6)=true)
  (l6:K.lookup f6=some ⟨oc6,od6,.func (W.fnOf "parts_of" "Book.parts_of" (gX mF) (gH mF) (fD mF) .none kV6 dc6 pm6 an6 cd6 ct6),sl6⟩)
  (c6:W.codeIn K cd6 "Book.parts_of"=true)
  (k6:W.keepIn K (.ref f6)=true)
  (a7:W.findIn K (.ref C) "row_of"=some (some (.ref f7)))
  (i7:W.isFn K (.ref f7)=true)
  (l7:K.lookup f7=some ⟨oc7,od7,.func (W.fnOf "row_of" "Book.row_of" (gX m5) (gH m5) (fD m5) .none kV7 dc7 pm7 an7 cd7 ct7),sl7⟩)
  (c7:W.codeIn K cd7 "Book.row_of"=true)
  (k7:W.keepIn K (.ref f7)=true)
  (pg:W.plainGet K C Str.empty=true)
  (hd:W.hasDictIn K C=true)
  (po:W.plainOver K C=true)
  (sa:W.findIn K (.ref C) "__setattr__"=some (some (.builtin "object.__setattr__")))
  (mk:W.makesIn K C=true)
  (kc:W.keepIn K (.ref C)=true)
  (nN:W.findIn K (.ref C) "numbers"=some none)
  (nP:W.findIn K (.ref C) "pairs"=some none)
  (nS:W.findIn K (.ref C) "sizes"=some none)
  (nR:W.findIn K (.ref C) "rows"=some none)
  (nI:W.findIn K (.ref C) "rising"=some none)
  (aH:W.nsIn K mainGlobals "House"=some (some (.ref CH)))
  (aJ:W.findIn K (.ref CH) "__init__"=some (some (.ref fJ)))
  (iJ:W.isFn K (.ref fJ)=true)
  (lJ:K.lookup fJ=some ⟨ocJ,odJ,.func (W.fnOf "__init__" "House.__init__" (gX lY) (gH lY) (fD lY) .none kVJ dcJ pmJ anJ cdJ ctJ),slJ⟩)
  (cJ:W.codeIn K cdJ "House.__init__"=true)
  (kJ:W.keepIn K (.ref fJ)=true)
  (a20:W.findIn K (.ref CH) "place_of"=some (some (.ref f20)))
  (i20:W.isFn K (.ref f20)=true)
  (l20:K.lookup f20=some ⟨oc20,od20,.func (W.fnOf "place_of" "House.place_of" (gX mq) (gH mq) (fD mq) .none kV20 dc20 pm20 an20 cd20 ct20),sl20⟩)
  (c20:W.codeIn K cd20 "House.place_of"=true)
  (k20:W.keepIn K (.ref f20)=true)
  (a21:W.findIn K (.ref CH) "has"=some (some (.ref f21)))
  (i21:W.isFn K (.ref f21)=true)
  (l21:K.lookup f21=some ⟨oc21,od21,.func (W.fnOf "has" "House.has" (gX nc) (gH nc) (fD nc) .none kV21 dc21 pm21 an21 cd21 ct21),sl21⟩)
  (c21:W.codeIn K cd21 "House.has"=true)
  (k21:W.keepIn K (.ref f21)=true)
  (a22:W.findIn K (.ref CH) "put"=some (some (.ref f22)))
  (i22:W.isFn K (.ref f22)=true)
  (l22:K.lookup f22=some ⟨oc22,od22,.func (W.fnOf "put" "House.put" (gX lF) (gH lF) (fD lF) .none kV22 dc22 pm22 an22 cd22 ct22),sl22⟩)
  (c22:W.codeIn K cd22 "House.put"=true)
  (k22:W.keepIn K (.ref f22)=true)
  (a23:W.findIn K (.ref CH) "take"=some (some (.ref f23)))
  (i23:W.isFn K (.ref f23)=true)
  (l23:K.lookup f23=some ⟨oc23,od23,.func (W.fnOf "take" "House.take" (gX mi) (gH mi) (fD mi) .none kV23 dc23 pm23 an23 cd23 ct23),sl23⟩)
  (c23:W.codeIn K cd23 "House.take"=true)
  (k23:W.keepIn K (.ref f23)=true)
  (a24:W.findIn K (.ref CH) "books"=some (some (.ref f24)))
  (i24:W.isFn K (.ref f24)=true)
  (l24:K.lookup f24=some ⟨oc24,od24,.func (W.fnOf "books" "House.books" (gX kK) (gH kK) (fD kK) .none kV24 dc24 pm24 an24 cd24 ct24),sl24⟩)
  (c24:W.codeIn K cd24 "House.books"=true)
  (k24:W.keepIn K (.ref f24)=true)
  (a25:W.findIn K (.ref CH) "shelves"=some (some (.ref f25)))
  (i25:W.isFn K (.ref f25)=true)
  (l25:K.lookup f25=some ⟨oc25,od25,.func (W.fnOf "shelves" "House.shelves" (gX lD) (gH lD) (fD lD) .none kV25 dc25 pm25 an25 cd25 ct25),sl25⟩)
  (c25:W.codeIn K cd25 "House.shelves"=true)
  (k25:W.keepIn K (.ref f25)=true)
  (a26:W.findIn K (.ref CH) "pour"=some (some (.ref f26)))
  (i26:W.isFn K (.ref f26)=true)
  (l26:K.lookup f26=some ⟨oc26,od26,.func (W.fnOf "pour" "House.pour" (gX m6) (gH m6) (fD m6) .none kV26 dc26 pm26 an26 cd26 ct26),sl26⟩)
  (c26:W.codeIn K cd26 "House.pour"=true)
  (k26:W.keepIn K (.ref f26)=true)
  (pgH:W.plainGet K CH Str.empty=true)
  (hdH:W.hasDictIn K CH=true)
  (poH:W.plainOver K CH=true)
  (saH:W.findIn K (.ref CH) "__setattr__"=some (some (.builtin "object.__setattr__")))
  (mkH:W.makesIn K CH=true)
  (kcH:W.keepIn K (.ref CH)=true)
  (nV:W.findIn K (.ref CH) "volumes"=some none)
  (ne:CH≠C)
  :Bk K mg:=
 ⟨C,CH,⟨⟨pg,hd,po,sa⟩,nN,nP,nS,nR,nI,W.mg_of X G aC⟩,⟨⟨pgH,hdH,poH,saH⟩,nV,W.mg_of X G aH,ne⟩,⟨fI,_,⟨ocI,odI,kVI,dcI,pmI,anI,cdI,ctI,slI,T,_,tnI,rfl,lI,cI,tI,rfl⟩,⟨mk,aI,iI,kc⟩⟩,⟨fJ,_,iX lJ cJ kJ,⟨mkH,aJ,iJ,kcH⟩⟩,⟨f0,_,iX l0 c0 k0,⟨a0,i0,k0⟩⟩,⟨f1,_,iX l1 c1 k1,⟨a1,i1,k1⟩⟩,⟨f2,_,iX l2 c2 k2,⟨a2,i2,k2⟩⟩,⟨f3,_,iX l3 c3 k3,⟨a3,i3,k3⟩⟩,⟨f4,_,iX l4 c4 k4,⟨a4,i4,k4⟩⟩,⟨f5,_,iX l5 c5 k5,⟨a5,i5,k5⟩⟩,⟨f6,_,iX l6 c6 k6,⟨a6,i6,k6⟩⟩,⟨f7,_,iX l7 c7 k7,⟨a7,i7,k7⟩⟩,⟨f20,_,iX l20 c20 k20,⟨a20,i20,k20⟩⟩,⟨f21,_,iX l21 c21 k21,⟨a21,i21,k21⟩⟩,⟨f22,_,iX l22 c22 k22,⟨a22,i22,k22⟩⟩,⟨f23,_,iX l23 c23 k23,⟨a23,i23,k23⟩⟩,⟨f24,_,iX l24 c24 k24,⟨a24,i24,k24⟩⟩,⟨f25,_,iX l25 c25 k25,⟨a25,i25,k25⟩⟩,⟨f26,_,iX l26 c26 k26,⟨a26,i26,k26⟩⟩⟩
theorem Gq(T:Txt mg)(X:uj K mg)(B:Bk K mg)
  (d_sWhole:∃ f fd,Df K mg "is_whole" kN f fd)
  (d_sSign:∃ f fd,Df K mg "is_text_sign" qK f fd)
  (d_sText:∃ f fd,Df K mg "is_text" ow f fd)
  (d_sRow:∃ f fd,Df K mg "is_small_row" nk f fd)
  (d_sKey:∃ f fd,Df K mg "is_key" mX f fd)
  (d_sNText:∃ f fd,Df K mg "need_text" ni f fd)
  (d_sNKey:∃ f fd,Df K mg "need_key" nU f fd)
  (d_sOne:∃ f fd,Df K mg "parts_of_one" pZ f fd)
  (d_sPacked:∃ f fd,Df K mg "packed" pE f fd)
  (d_sNParts:∃ f fd,Df K mg "need_parts" qc f fd)
  (d_sUnp:∃ f fd,Df K mg "unpacked" qC f fd)
  (d_sRis:∃ f fd,Df K mg "is_rising" nF f fd)
  (d_sHasP:∃ f fd,Df K mg "has_places" pO f fd)
  (d_sNRow:∃ f fd,Df K mg "need_row" mY f fd)
  (d_sGaps:∃ f fd,Df K mg "gaps_of" nO f fd)
  (d_sNums:∃ f fd,Df K mg "numbers_by" pM f fd)
  (d_sPRow:∃ f fd,Df K mg "packed_row" oC f fd)
  (d_sURow:∃ f fd,Df K mg "unpacked_row" pJ f fd)
  (d_sWord:∃ f fd,Df K mg "is_word" p8 f fd)
  (d_sNWord:∃ f fd,Df K mg "need_word" oX f fd)
  (d_sWordsIn:∃ f fd,Df K mg "words_in" ql f fd)
  (d_sPlain:∃ f fd,Df K mg "plain_words" nZ f fd)
  (d_sNBK:∃ f fd,Df K mg "numbers_by_key" og f fd)
  (d_sPBW:∃ f fd,Df K mg "places_by_word" qJ f fd)
  (d_sPRs:∃ f fd,Df K mg "packed_rows" oR f fd)
  (d_sRBW:∃ f fd,Df K mg "rows_by_word" p1 f fd)
  (d_sCopy:∃ f fd,Df K mg "copied_rows" pT f fd)
  (d_sNGone:∃ f fd,Df K mg "need_gone" pP f fd)
  (d_sPour:∃ f fd,Df K mg "pour_rows" qm f fd)
  (d_sPB:∃ f fd,Df K mg "poured_behind" qj f fd)
  (d_sHO:∃ f fd,Df K mg "house_of" nB f fd)
  (d_lMixed:∃ f fd,Df K mg "_law_mixed" lT f fd)
  (d_lNumber:∃ f fd,Df K mg "_law_number" ny f fd)
  (d_lMenu:∃ f fd,Df K mg "_law_menu" m3 f fd)
  (d_lText:∃ f fd,Df K mg "_law_text" om f fd)
  (d_lKeys:∃ f fd,Df K mg "_law_keys" lE f fd)
  (d_lPairs:∃ f fd,Df K mg "_law_pairs" qq f fd)
  (d_lDeeds:∃ f fd,Df K mg "_law_deeds" pH f fd)
  (d_lPut:∃ f fd,Df K mg "_law_put" oh f fd)
  (d_lWithout:∃ f fd,Df K mg "_law_without" kL f fd)
  (d_lDone:∃ f fd,Df K mg "_law_done_by_rule" nQ f fd)
  (d_lLaid:∃ f fd,Df K mg "_law_laid" qx f fd)
  (d_lRight:∃ f fd,Df K mg "_law_right" lH f fd)
  (d_lRefused:∃ f fd,Df K mg "_law_refused" qg f fd)
  (d_lWrong:∃ f fd,Df K mg "_law_shelves_wrong" pf f fd)
  (d_sNNum:∃ f fd,iR K mg "need_number" lO f fd #[.none])
  (d_sPoured:∃ f fd,iR K mg "poured" m9 f fd #[.none])
  {f:Addr}{fd:FuncData}(D:Df K mg "law" km f fd):fx P w K mg base fE 14 f fd ["_law_script"] (oU K):=by
 obtain⟨CK,CT,C2,CN,C0,CW,CA,XK,XT,X2,XN,X0,XW,XF,XE⟩:=X
 obtain⟨C,CH,BC,HC,⟨fI,dI,FI,MI⟩,⟨fJ,dJ,FJ,MJ⟩,⟨f0,e0,F0,M0⟩,⟨f1,e1,F1,M1⟩,⟨f2,e2,F2,M2⟩,⟨f3,e3,F3,M3⟩,⟨f4,e4,F4,M4⟩,⟨f5,e5,F5,M5⟩,⟨f6,e6,F6,M6⟩,⟨f7,e7,F7,M7⟩,⟨b7,b8,bw,bI⟩,⟨b9,cb,bJ,bZ⟩,⟨cc,cf,bx,bK⟩,⟨cg,cj,bL,b0⟩,⟨ck,cm,bz,bM⟩,⟨cn,cq,bA,bN⟩,⟨cu,cv,bO,b1⟩⟩:=B
 obtain⟨_,_,I⟩:=d_sWhole
 obtain⟨_,_,a4⟩:=d_sSign
 obtain⟨_,_,aJ⟩:=d_sText
 obtain⟨_,_,aX⟩:=d_sRow
 obtain⟨_,_,aj⟩:=d_sKey
 obtain⟨_,_,ab⟩:=d_sNText
 obtain⟨_,_,ao⟩:=d_sNKey
 obtain⟨_,_,aY⟩:=d_sOne
 obtain⟨_,_,aq⟩:=d_sPacked
 obtain⟨_,_,ar⟩:=d_sNParts
 obtain⟨_,_,aZ⟩:=d_sUnp
 obtain⟨_,_,ak⟩:=d_sRis
 obtain⟨_,_,aK⟩:=d_sHasP
 obtain⟨_,_,aL⟩:=d_sNRow
 obtain⟨_,_,a5⟩:=d_sGaps
 obtain⟨_,_,a6⟩:=d_sNums
 obtain⟨_,_,aM⟩:=d_sPRow
 obtain⟨_,_,aN⟩:=d_sURow
 obtain⟨_,_,aO⟩:=d_sWord
 obtain⟨_,_,ay⟩:=d_sNWord
 obtain⟨_,_,ag⟩:=d_sWordsIn
 obtain⟨_,_,az⟩:=d_sPlain
 obtain⟨_,_,aF⟩:=d_sNBK
 obtain⟨_,_,a0⟩:=d_sPBW
 obtain⟨_,_,aG⟩:=d_sPRs
 obtain⟨_,_,a3⟩:=d_sRBW
 obtain⟨_,_,aP⟩:=d_sCopy
 obtain⟨_,_,aA⟩:=d_sNGone
 obtain⟨_,_,aQ⟩:=d_sPour
 obtain⟨_,_,a7⟩:=d_sPB
 obtain⟨_,_,aV⟩:=d_sHO
 obtain⟨_,_,ae⟩:=d_lMixed
 obtain⟨_,_,J⟩:=d_lNumber
 obtain⟨_,_,aR⟩:=d_lMenu
 obtain⟨_,_,au⟩:=d_lText
 obtain⟨_,_,av⟩:=d_lKeys
 obtain⟨_,_,aB⟩:=d_lPairs
 obtain⟨_,_,aC⟩:=d_lDeeds
 obtain⟨_,_,aH⟩:=d_lPut
 obtain⟨_,_,ah⟩:=d_lWithout
 obtain⟨_,_,aS⟩:=d_lDone
 obtain⟨_,_,aT⟩:=d_lLaid
 obtain⟨_,_,aD⟩:=d_lRight
 obtain⟨_,_,ai⟩:=d_lRefused
 obtain⟨_,_,aE⟩:=d_lWrong
 obtain⟨_,_,aa⟩:=d_sNNum
 obtain⟨_,_,U⟩:=d_sPoured
 have bB:=E2 (P:=P) (w:=w) (base:=base) aJ a4 T
 have a8:=CL (P:=P) (w:=w) (base:=base) aj aX T
 have bC:=D8 (P:=P) (w:=w) (base:=base) aO aX T
 have aI:=Ay ab aJ XT bB
 have a9:=Hq ao aj XK a8
 have bf:=C6 ay aO XW bC
 have ba:=Iu (P:=P) (w:=w) (base:=base) aa I XN T
 have bg:=Dt az ag (Cw ag ab aI T)
 have bP:=Io (P:=P) (w:=w) (base:=base) aZ ar (DF ar I T) T
 have bD:=EG aN aZ bP a6 T
 have bb:=C5 (P:=P) (w:=w) (base:=base) aq aY (F8 aY T) aa (G7 aa I T)
 have bE:=EN (P:=P) (w:=w) (base:=base) aL ak (AN ak I T) aK (Ij aK ak (AR ak I T) T) T
 have bF:=C3 aM aL bE a5 aq bb T
 have br:=Cv aG aM bF
 have bQ:=Ic a3 a0 (D5 a0 T) aG br T
 have bt:=FE aF ao a9 ab aI X2 T
 have aW:=Hx FI BC T aF bt az bg a3 bQ aP (Fm aP T)
 have af:=Bp (P:=P) (w:=w) (base:=base) F0 BC T
 have bu:=A2 F1 BC F0 M0 af aa ba
 have bh:=IB F1 M1 bu BC F2
 have aU:=CY F1 M1 bu BC F3
 have bj:=G9 F4 BC aj a8 X0
 have bo:=Cr (P:=P) (w:=w) (base:=base) F5 BC T
 have bp:=Hi F6 BC ay bf T
 have bq:=Hd F7 BC F6 M6 bp aN bD
 have b2:=AH aA BC F0 M0 af aa ba XN T
 have bG:=Fc aQ BC F5 M5 bo F7 M7 bq
 have aw:=E7 U BC T aA b2 F0 M0 af F2 M2 bh F3 M3 aU aQ bG aG br FI MI aW
 have b3:=BD a7 BC F0 M0 af U aw T
 have hI:=Fg (P:=P) (w:=w) (base:=base) FJ HC
 have bR:=BE bw HC BC aj a8 X0 T
 have b4:=Iq bJ HC bw bI bR X0 XE
 have bS:=Cj bx HC BC ao a9 ab aI bJ bZ b4 a7 b3 FI MI aW
 have b5:=Bx bL HC BC bw bI bR F4 M4 bj U aw F0 M0 af F3 M3 aU
 have bT:=IH bz HC BC F0 M0 af
 have bU:=EI (P:=P) (w:=w) (base:=base) bA HC BC T
 have b6:=E5 bO HC U aw T
 have bV:=D2 aV HC BC aF bt FJ MJ hI FI MI aW
 have ax:=A3 (P:=P) (w:=w) (base:=base) J ae T
 have bc:=ER (P:=P) (w:=w) (base:=base) av ae T
 have bW:=IT (P:=P) (w:=w) (base:=base) au ae T
 have bX:=Et (P:=P) (w:=w) (base:=base) aH T
 have bH:=AX aS HC aT (Iz aT) aH bX ah (Iy ah) bx bK bS bL b0 b5 bO b1 b6 T
 have bY:=CB ai XF aV bV T
 exact Ja D T HC aR (IZ aR ae T) J ax aB (AQ aB J ax av bc au bW T) aC (CM aC J ax av bc au bW T) aS bH aD (Bm aD HC bz bM bT bA bN bU T) aE (FL aE ai bY T) aH bX FJ MJ hI aV bV bx bK bS bz bM bT bA bN bU
theorem Ej{f fa:Addr}{oc kV doc pm cd ct:Value}{od an:Option Addr}{sl:Array (Option Value)}(X:K.In h)(G:h.Ns mainGlobals mg)(hfa:mg "law"=some (.ref fa))(a:W.nsIn K mainGlobals "law"=some (some (.ref f)))
  (l:K.lookup f=some ⟨oc,od,.func (W.fnOf "law" "law" (gX km) (gH km) (fD km) .none kV doc pm an cd ct),sl⟩)(c:W.codeIn K cd "law"=true)(k:W.keepIn K (.ref f)=true)
  (ok:∀(fd:FuncData) (base:Heap),Df K mg "law" km f fd->fx P w K mg base fE 14 f fd ["_law_script"] (oU K)):
  ∃ fd:FuncData,(∀(s:Shared) (v:Value),BindsTo s fd ⟨[v],[]⟩ [("_law_script",v)])/\∀ base:Heap,K.In base->base.Ns mainGlobals mg->fx P w K mg base fE 14 fa fd ["_law_script"] (oU K):=by
 have e:=hfa.symm.trans (W.mg_of X G a)
 cases e
 exact⟨W.fnOf "law" "law" (gX km) (gH km) (fD km) .none kV doc pm an cd ct,fun s v=> .of_eq rfl,fun base _ _=>ok _ base ⟨iX l c k,W.mg_of X G a⟩⟩
end
theorem walk{l:W.OpenLaw}{q:Program}{loose:List Str}{XP:(Str->Option Value)->Heap->Prop}{YP:World->Heap->Prop}{d:DefRec}{K:Params->W.Frag}(hn:l.most=some 63)(hdf:d.params.defaults=[])
  (hY:∀(w:World) (h:Heap),YP w h->(K w.params).In h)
  (F:∀(w:World) (mg:Str->Option Value) (fa:Addr) (h:Heap),(K w.params).In h->h.Ns mainGlobals mg->mg d.name=some (.ref fa)->
   ∃ fd:FuncData,(∀(s:Shared) (u:Value),BindsTo s fd ⟨[u],[]⟩ [("_law_script",u)])/\∀ base:Heap,(K w.params).In base->base.Ns mainGlobals mg->fx l.prog w (K w.params) mg base fE 14 fa fd ["_law_script"] (oU (K w.params))):
  W.WalkO q loose XP YP l.row.toRowW d [] (fun f vs=>PySem.call f vs):=
 GZ (n:=63) (k:=14) (x:="_law_script") (sp:=oU) hn (by decide) hdf ⟨rfl,by decide,by decide⟩ hY F fun K H a ns I hb J=>⟨a,ns,rfl,J,I,fun _=>rfl⟩
end K28
open PySem PySem.W PyProof.Rows
set_option maxRecDepth 100000 in
set_option maxHeartbeats 0 in
theorem PySem.Challenge.cw_findhall_k28_books_by_the_rule_holds : PySem.Challenge.rw_findhall_k28_books_by_the_rule.Holds := by
 refine H28.head ?_
 k_fill
 refine K28.walk (l := PySem.Challenge.rw_findhall_k28_books_by_the_rule) rfl rfl (fun w h Y => PySem.W.kIn_of Y) ?F
 case F =>
  intro w mg fa h I G a8
  have hC : K28.uj (L2.fH I) mg := by
   dsimp only [L2.fH]
   refine' K28.D1 I G ?a0 ?x0 ?a1 ?x1 ?a2 ?x2 ?a3 ?x3 ?a4 ?x4 ?a5 ?x5 ?aA ?hn ?ht ?cl0 ?ga0 ?hk0 ?ha0 ?hm0 ?hb0 ?q0_0 ?q1_0 ?q2_0 ?q3_0 ?v0 ?e0 ?cl1 ?ga1 ?hk1 ?ha1 ?hm1 ?hb1 ?q0_1 ?q1_1 ?q2_1 ?q3_1 ?v1 ?e1 ?cl2 ?ga2 ?hk2 ?ha2 ?hm2 ?hb2 ?q0_2 ?q1_2 ?q2_2 ?q3_2 ?v2 ?e2 ?ee
   (case a0 => k_is)
   (case x0 => k_exc)
   (case a1 => k_is)
   (case x1 => k_exc)
   (case a2 => k_is)
   (case x2 => k_exc)
   (case a3 => k_is)
   (case x3 => k_exc)
   (case a4 => k_is)
   (case x4 => k_exc)
   (case a5 => k_is)
   (case x5 => k_exc)
   (case aA => k_is)
   (case hn => k_is)
   (case ht => k_is)
   (case cl0 => k_is)
   (case ga0 => k_is)
   (case hk0 => k_is)
   (case ha0 => k_is)
   (case hm0 => k_is)
   (case hb0 => k_is)
   (case q0_0 => kit_is)
   (case q1_0 => kit_is)
   (case q2_0 => kit_is)
   (case q3_0 => kit_is)
   (case v0 => kit_is)
   (case e0 => kts_exm)
   (case cl1 => k_is)
   (case ga1 => k_is)
   (case hk1 => k_is)
   (case ha1 => k_is)
   (case hm1 => k_is)
   (case hb1 => k_is)
   (case q0_1 => kit_is)
   (case q1_1 => kit_is)
   (case q2_1 => kit_is)
   (case q3_1 => kit_is)
   (case v1 => kit_is)
   (case e1 => kts_exm)
   (case cl2 => k_is)
   (case ga2 => k_is)
   (case hk2 => k_is)
   (case ha2 => k_is)
   (case hm2 => k_is)
   (case hb2 => k_is)
   (case q0_2 => kit_is)
   (case q1_2 => kit_is)
   (case q2_2 => kit_is)
   (case q3_2 => kit_is)
   (case v2 => kit_is)
   (case e2 => kts_exm)
   (case ee => kts_exm)
  have T : K28.Txt mg := by
   refine' K28.Ib I G ?n0 ?n1 ?n2 ?n3 ?n4 ?n5 ?n6 ?n7 ?n8 ?n9 ?n10 ?n11 ?n12 ?c0 ?c1 ?c2 ?c3 ?c4 ?c5 ?c6
   (case n0 => k_is)
   (case n1 => k_is)
   (case n2 => k_is)
   (case n3 => k_is)
   (case n4 => k_is)
   (case n5 => k_is)
   (case n6 => k_is)
   (case n7 => k_is)
   (case n8 => k_is)
   (case n9 => k_is)
   (case n10 => k_is)
   (case n11 => k_is)
   (case n12 => k_is)
   (case c0 => k_is)
   (case c1 => k_is)
   (case c2 => k_is)
   (case c3 => k_is)
   (case c4 => k_is)
   (case c5 => k_is)
   (case c6 => k_is)
  have B : K28.Bk (L2.fH I) mg := by
   dsimp only [L2.fH]
   refine' K28.Dj I G ?zaC ?zaI ?ziI ?zlI ?zcI ?ztI ?za0 ?zi0 ?zl0 ?zc0 ?zk0 ?za1 ?zi1 ?zl1 ?zc1 ?zk1 ?za2 ?zi2 ?zl2 ?zc2 ?zk2 ?za3 ?zi3 ?zl3 ?zc3 ?zk3 ?za4 ?zi4 ?zl4 ?zc4 ?zk4 ?za5 ?zi5 ?zl5 ?zc5 ?zk5 ?za6 ?zi6 ?zl6 ?zc6 ?zk6 ?za7 ?zi7 ?zl7 ?zc7 ?zk7 ?zpg ?zhd ?zpo ?zsa ?zmk ?zkc ?znN ?znP ?znS ?znR ?znI ?zaH ?zaJ ?ziJ ?zlJ ?zcJ ?zkJ ?za20 ?zi20 ?zl20 ?zc20 ?zk20 ?za21 ?zi21 ?zl21 ?zc21 ?zk21 ?za22 ?zi22 ?zl22 ?zc22 ?zk22 ?za23 ?zi23 ?zl23 ?zc23 ?zk23 ?za24 ?zi24 ?zl24 ?zc24 ?zk24 ?za25 ?zi25 ?zl25 ?zc25 ?zk25 ?za26 ?zi26 ?zl26 ?zc26 ?zk26 ?zpgH ?zhdH ?zpoH ?zsaH ?zmkH ?zkcH ?znV ?zne
   (case zaC => k_is)
   (case zaI => k_is)
   (case ziI => k_is)
   (case zlI => k_is)
   (case zcI => k_is)
   (case ztI => k_is)
   (case za0 => k_is)
   (case zi0 => k_is)
   (case zl0 => k_is)
   (case zc0 => k_is)
   (case zk0 => k_is)
   (case za1 => k_is)
   (case zi1 => k_is)
   (case zl1 => k_is)
   (case zc1 => k_is)
   (case zk1 => k_is)
   (case za2 => k_is)
   (case zi2 => k_is)
   (case zl2 => k_is)
   (case zc2 => k_is)
   (case zk2 => k_is)
   (case za3 => k_is)
   (case zi3 => k_is)
   (case zl3 => k_is)
   (case zc3 => k_is)
   (case zk3 => k_is)
   (case za4 => k_is)
   (case zi4 => k_is)
   (case zl4 => k_is)
   (case zc4 => k_is)
   (case zk4 => k_is)
   (case za5 => k_is)
   (case zi5 => k_is)
   (case zl5 => k_is)
   (case zc5 => k_is)
   (case zk5 => k_is)
   (case za6 => k_is)
   (case zi6 => k_is)
   (case zl6 => k_is)
   (case zc6 => k_is)
   (case zk6 => k_is)
   (case za7 => k_is)
   (case zi7 => k_is)
   (case zl7 => k_is)
   (case zc7 => k_is)
   (case zk7 => k_is)
   (case zpg => k_is)
   (case zhd => k_is)
   (case zpo => k_is)
   (case zsa => k_is)
   (case zmk => k_is)
   (case zkc => k_is)
   (case znN => k_is)
   (case znP => k_is)
   (case znS => k_is)
   (case znR => k_is)
   (case znI => k_is)
   (case zaH => k_is)
   (case zaJ => k_is)
   (case ziJ => k_is)
   (case zlJ => k_is)
   (case zcJ => k_is)
   (case zkJ => k_is)
   (case za20 => k_is)
   (case zi20 => k_is)
   (case zl20 => k_is)
   (case zc20 => k_is)
   (case zk20 => k_is)
   (case za21 => k_is)
   (case zi21 => k_is)
   (case zl21 => k_is)
   (case zc21 => k_is)
   (case zk21 => k_is)
   (case za22 => k_is)
   (case zi22 => k_is)
   (case zl22 => k_is)
   (case zc22 => k_is)
   (case zk22 => k_is)
   (case za23 => k_is)
   (case zi23 => k_is)
   (case zl23 => k_is)
   (case zc23 => k_is)
   (case zk23 => k_is)
   (case za24 => k_is)
   (case zi24 => k_is)
   (case zl24 => k_is)
   (case zc24 => k_is)
   (case zk24 => k_is)
   (case za25 => k_is)
   (case zi25 => k_is)
   (case zl25 => k_is)
   (case zc25 => k_is)
   (case zk25 => k_is)
   (case za26 => k_is)
   (case zi26 => k_is)
   (case zl26 => k_is)
   (case zc26 => k_is)
   (case zk26 => k_is)
   (case zpgH => k_is)
   (case zhdH => k_is)
   (case zpoH => k_is)
   (case zsaH => k_is)
   (case zmkH => k_is)
   (case zkcH => k_is)
   (case znV => k_is)
   (case zne => decide)
  have ah : ∃ f fd, Gn.Df (L2.fH I) mg "is_whole" K28.kN f fd := by
   dsimp only [L2.fH]
   refine' Gn.gr I G ?a ?l ?c ?k
   (case a => k_is); (case l => k_is); (case c => k_is); (case k => k_is)
  have ax : ∃ f fd, Gn.Df (L2.fH I) mg "is_text_sign" K28.qK f fd := by
   dsimp only [L2.fH]
   refine' Gn.gr I G ?a ?l ?c ?k
   (case a => k_is); (case l => k_is); (case c => k_is); (case k => k_is)
  have ay : ∃ f fd, Gn.Df (L2.fH I) mg "is_text" K28.ow f fd := by
   dsimp only [L2.fH]
   refine' Gn.gr I G ?a ?l ?c ?k
   (case a => k_is); (case l => k_is); (case c => k_is); (case k => k_is)
  have aQ : ∃ f fd, Gn.Df (L2.fH I) mg "is_small_row" K28.nk f fd := by
   dsimp only [L2.fH]
   refine' Gn.gr I G ?a ?l ?c ?k
   (case a => k_is); (case l => k_is); (case c => k_is); (case k => k_is)
  have aR : ∃ f fd, Gn.Df (L2.fH I) mg "is_key" K28.mX f fd := by
   dsimp only [L2.fH]
   refine' Gn.gr I G ?a ?l ?c ?k
   (case a => k_is); (case l => k_is); (case c => k_is); (case k => k_is)
  have ai : ∃ f fd, Gn.Df (L2.fH I) mg "need_text" K28.ni f fd := by
   dsimp only [L2.fH]
   refine' Gn.gr I G ?a ?l ?c ?k
   (case a => k_is); (case l => k_is); (case c => k_is); (case k => k_is)
  have az : ∃ f fd, Gn.Df (L2.fH I) mg "need_key" K28.nU f fd := by
   dsimp only [L2.fH]
   refine' Gn.gr I G ?a ?l ?c ?k
   (case a => k_is); (case l => k_is); (case c => k_is); (case k => k_is)
  have aS : ∃ f fd, Gn.Df (L2.fH I) mg "parts_of_one" K28.pZ f fd := by
   dsimp only [L2.fH]
   refine' Gn.gr I G ?a ?l ?c ?k
   (case a => k_is); (case l => k_is); (case c => k_is); (case k => k_is)
  have ab : ∃ f fd, Gn.Df (L2.fH I) mg "packed" K28.pE f fd := by
   dsimp only [L2.fH]
   refine' Gn.gr I G ?a ?l ?c ?k
   (case a => k_is); (case l => k_is); (case c => k_is); (case k => k_is)
  have ae : ∃ f fd, Gn.Df (L2.fH I) mg "need_parts" K28.qc f fd := by
   dsimp only [L2.fH]
   refine' Gn.gr I G ?a ?l ?c ?k
   (case a => k_is); (case l => k_is); (case c => k_is); (case k => k_is)
  have aT : ∃ f fd, Gn.Df (L2.fH I) mg "unpacked" K28.qC f fd := by
   dsimp only [L2.fH]
   refine' Gn.gr I G ?a ?l ?c ?k
   (case a => k_is); (case l => k_is); (case c => k_is); (case k => k_is)
  have aU : ∃ f fd, Gn.Df (L2.fH I) mg "is_rising" K28.nF f fd := by
   dsimp only [L2.fH]
   refine' Gn.gr I G ?a ?l ?c ?k
   (case a => k_is); (case l => k_is); (case c => k_is); (case k => k_is)
  have aB : ∃ f fd, Gn.Df (L2.fH I) mg "has_places" K28.pO f fd := by
   dsimp only [L2.fH]
   refine' Gn.gr I G ?a ?l ?c ?k
   (case a => k_is); (case l => k_is); (case c => k_is); (case k => k_is)
  have aC : ∃ f fd, Gn.Df (L2.fH I) mg "need_row" K28.mY f fd := by
   dsimp only [L2.fH]
   refine' Gn.gr I G ?a ?l ?c ?k
   (case a => k_is); (case l => k_is); (case c => k_is); (case k => k_is)
  have aD : ∃ f fd, Gn.Df (L2.fH I) mg "gaps_of" K28.nO f fd := by
   dsimp only [L2.fH]
   refine' Gn.gr I G ?a ?l ?c ?k
   (case a => k_is); (case l => k_is); (case c => k_is); (case k => k_is)
  have aE : ∃ f fd, Gn.Df (L2.fH I) mg "numbers_by" K28.pM f fd := by
   dsimp only [L2.fH]
   refine' Gn.gr I G ?a ?l ?c ?k
   (case a => k_is); (case l => k_is); (case c => k_is); (case k => k_is)
  have aF : ∃ f fd, Gn.Df (L2.fH I) mg "packed_row" K28.oC f fd := by
   dsimp only [L2.fH]
   refine' Gn.gr I G ?a ?l ?c ?k
   (case a => k_is); (case l => k_is); (case c => k_is); (case k => k_is)
  have aG : ∃ f fd, Gn.Df (L2.fH I) mg "unpacked_row" K28.pJ f fd := by
   dsimp only [L2.fH]
   refine' Gn.gr I G ?a ?l ?c ?k
   (case a => k_is); (case l => k_is); (case c => k_is); (case k => k_is)
  have aH : ∃ f fd, Gn.Df (L2.fH I) mg "is_word" K28.p8 f fd := by
   dsimp only [L2.fH]
   refine' Gn.gr I G ?a ?l ?c ?k
   (case a => k_is); (case l => k_is); (case c => k_is); (case k => k_is)
  have aj : ∃ f fd, Gn.Df (L2.fH I) mg "need_word" K28.oX f fd := by
   dsimp only [L2.fH]
   refine' Gn.gr I G ?a ?l ?c ?k
   (case a => k_is); (case l => k_is); (case c => k_is); (case k => k_is)
  have J : ∃ f fd, Gn.Df (L2.fH I) mg "words_in" K28.ql f fd := by
   dsimp only [L2.fH]
   refine' Gn.gr I G ?a ?l ?c ?k
   (case a => k_is); (case l => k_is); (case c => k_is); (case k => k_is)
  have ak : ∃ f fd, Gn.Df (L2.fH I) mg "plain_words" K28.nZ f fd := by
   dsimp only [L2.fH]
   refine' Gn.gr I G ?a ?l ?c ?k
   (case a => k_is); (case l => k_is); (case c => k_is); (case k => k_is)
  have aV : ∃ f fd, Gn.Df (L2.fH I) mg "numbers_by_key" K28.og f fd := by
   dsimp only [L2.fH]
   refine' Gn.gr I G ?a ?l ?c ?k
   (case a => k_is); (case l => k_is); (case c => k_is); (case k => k_is)
  have aW : ∃ f fd, Gn.Df (L2.fH I) mg "places_by_word" K28.qJ f fd := by
   dsimp only [L2.fH]
   refine' Gn.gr I G ?a ?l ?c ?k
   (case a => k_is); (case l => k_is); (case c => k_is); (case k => k_is)
  have aX : ∃ f fd, Gn.Df (L2.fH I) mg "packed_rows" K28.oR f fd := by
   dsimp only [L2.fH]
   refine' Gn.gr I G ?a ?l ?c ?k
   (case a => k_is); (case l => k_is); (case c => k_is); (case k => k_is)
  have aY : ∃ f fd, Gn.Df (L2.fH I) mg "rows_by_word" K28.p1 f fd := by
   dsimp only [L2.fH]
   refine' Gn.gr I G ?a ?l ?c ?k
   (case a => k_is); (case l => k_is); (case c => k_is); (case k => k_is)
  have aI : ∃ f fd, Gn.Df (L2.fH I) mg "copied_rows" K28.pT f fd := by
   dsimp only [L2.fH]
   refine' Gn.gr I G ?a ?l ?c ?k
   (case a => k_is); (case l => k_is); (case c => k_is); (case k => k_is)
  have ao : ∃ f fd, Gn.Df (L2.fH I) mg "need_gone" K28.pP f fd := by
   dsimp only [L2.fH]
   refine' Gn.gr I G ?a ?l ?c ?k
   (case a => k_is); (case l => k_is); (case c => k_is); (case k => k_is)
  have aJ : ∃ f fd, Gn.Df (L2.fH I) mg "pour_rows" K28.qm f fd := by
   dsimp only [L2.fH]
   refine' Gn.gr I G ?a ?l ?c ?k
   (case a => k_is); (case l => k_is); (case c => k_is); (case k => k_is)
  have a6 : ∃ f fd, Gn.Df (L2.fH I) mg "poured_behind" K28.qj f fd := by
   dsimp only [L2.fH]
   refine' Gn.gr I G ?a ?l ?c ?k
   (case a => k_is); (case l => k_is); (case c => k_is); (case k => k_is)
  have a7 : ∃ f fd, Gn.Df (L2.fH I) mg "house_of" K28.nB f fd := by
   dsimp only [L2.fH]
   refine' Gn.gr I G ?a ?l ?c ?k
   (case a => k_is); (case l => k_is); (case c => k_is); (case k => k_is)
  have aq : ∃ f fd, Gn.Df (L2.fH I) mg "_law_mixed" K28.lT f fd := by
   dsimp only [L2.fH]
   refine' Gn.gr I G ?a ?l ?c ?k
   (case a => k_is); (case l => k_is); (case c => k_is); (case k => k_is)
  have af : ∃ f fd, Gn.Df (L2.fH I) mg "_law_number" K28.ny f fd := by
   dsimp only [L2.fH]
   refine' Gn.gr I G ?a ?l ?c ?k
   (case a => k_is); (case l => k_is); (case c => k_is); (case k => k_is)
  have aK : ∃ f fd, Gn.Df (L2.fH I) mg "_law_menu" K28.m3 f fd := by
   dsimp only [L2.fH]
   refine' Gn.gr I G ?a ?l ?c ?k
   (case a => k_is); (case l => k_is); (case c => k_is); (case k => k_is)
  have aL : ∃ f fd, Gn.Df (L2.fH I) mg "_law_text" K28.om f fd := by
   dsimp only [L2.fH]
   refine' Gn.gr I G ?a ?l ?c ?k
   (case a => k_is); (case l => k_is); (case c => k_is); (case k => k_is)
  have aM : ∃ f fd, Gn.Df (L2.fH I) mg "_law_keys" K28.lE f fd := by
   dsimp only [L2.fH]
   refine' Gn.gr I G ?a ?l ?c ?k
   (case a => k_is); (case l => k_is); (case c => k_is); (case k => k_is)
  have ar : ∃ f fd, Gn.Df (L2.fH I) mg "_law_pairs" K28.qq f fd := by
   dsimp only [L2.fH]
   refine' Gn.gr I G ?a ?l ?c ?k
   (case a => k_is); (case l => k_is); (case c => k_is); (case k => k_is)
  have au : ∃ f fd, Gn.Df (L2.fH I) mg "_law_deeds" K28.pH f fd := by
   dsimp only [L2.fH]
   refine' Gn.gr I G ?a ?l ?c ?k
   (case a => k_is); (case l => k_is); (case c => k_is); (case k => k_is)
  have aZ : ∃ f fd, Gn.Df (L2.fH I) mg "_law_put" K28.oh f fd := by
   dsimp only [L2.fH]
   refine' Gn.gr I G ?a ?l ?c ?k
   (case a => k_is); (case l => k_is); (case c => k_is); (case k => k_is)
  have U : ∃ f fd, Gn.Df (L2.fH I) mg "_law_without" K28.kL f fd := by
   dsimp only [L2.fH]
   refine' Gn.gr I G ?a ?l ?c ?k
   (case a => k_is); (case l => k_is); (case c => k_is); (case k => k_is)
  have aN : ∃ f fd, Gn.Df (L2.fH I) mg "_law_done_by_rule" K28.nQ f fd := by
   dsimp only [L2.fH]
   refine' Gn.gr I G ?a ?l ?c ?k
   (case a => k_is); (case l => k_is); (case c => k_is); (case k => k_is)
  have aO : ∃ f fd, Gn.Df (L2.fH I) mg "_law_laid" K28.qx f fd := by
   dsimp only [L2.fH]
   refine' Gn.gr I G ?a ?l ?c ?k
   (case a => k_is); (case l => k_is); (case c => k_is); (case k => k_is)
  have av : ∃ f fd, Gn.Df (L2.fH I) mg "_law_right" K28.lH f fd := by
   dsimp only [L2.fH]
   refine' Gn.gr I G ?a ?l ?c ?k
   (case a => k_is); (case l => k_is); (case c => k_is); (case k => k_is)
  have aa : ∃ f fd, Gn.Df (L2.fH I) mg "_law_refused" K28.qg f fd := by
   dsimp only [L2.fH]
   refine' Gn.gr I G ?a ?l ?c ?k
   (case a => k_is); (case l => k_is); (case c => k_is); (case k => k_is)
  have aw : ∃ f fd, Gn.Df (L2.fH I) mg "_law_shelves_wrong" K28.pf f fd := by
   dsimp only [L2.fH]
   refine' Gn.gr I G ?a ?l ?c ?k
   (case a => k_is); (case l => k_is); (case c => k_is); (case k => k_is)
  have aP : ∃ f fd, Gn.iR (L2.fH I) mg "need_number" K28.lO f fd #[.none] := by
   dsimp only [L2.fH]
   refine' Gn.wF I G ?a ?l ?c ?k ?t
   (case a => k_is); (case l => k_is); (case c => k_is); (case k => k_is); (case t => k_is)
  have ag : ∃ f fd, Gn.iR (L2.fH I) mg "poured" K28.m9 f fd #[.none] := by
   dsimp only [L2.fH]
   refine' Gn.wF I G ?a ?l ?c ?k ?t
   (case a => k_is); (case l => k_is); (case c => k_is); (case k => k_is); (case t => k_is)
  refine' K28.Ej I G a8 ?a ?l ?c ?k fun fd base D => K28.Gq T hC B ah ax ay aQ aR ai az aS ab ae aT aU aB aC aD aE aF aG aH aj J ak aV aW aX aY aI ao aJ a6 a7 aq af aK aL aM ar au aZ U aN aO av aa aw aP ag D
  (case a => k_is); (case l => k_is); (case c => k_is); (case k => k_is)
