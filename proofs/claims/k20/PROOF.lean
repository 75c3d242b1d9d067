import PyProof.Rows.All
import Wide.All
import OpenK.AllK
import Wide.FinOn
import Lean
import PyProof.EqAt
import PyProof.EqKinds
import PyProof.TupleCall
import PyProof.SumWalk
import KE.KDictList
import PyProof.NeKinds
import PyProof.Draws
import PyProof.ZipIter
import KE.KLam
import PyProof.ListMulRoad
import KE.RegKIsAll
import OpenK.KOwn
import PyProof.EnumMake
import PyProof.Rows.StrNews
import PyProof.StrCalls6
import PyProof.ToksMono
import PyProof.StrLawsReplace
import PyProof.StrLawsJoin
import PyProof.Rows.StrSplitJoin
import PyProof.DictValues
import PyProof.DictWalks
import KE.KRevIter
import PyProof.DictItems
import KE.KPairComp
import KE.KIntText
import KE.IntTextText
import PyProof.Rows.StrLawsPart
import PyProof.MeetsStr
import PyProof.StrCalls
import KE.KSortKey
import KE.KMinKey
import KE.KEqDict
import PyProof.MinMaxWalk
import PyProof.SeqI3
import PyProof.WalkInts
import PySem.Challenge.RW_boughworth_k20_least_trees_and_live_form
set_option Elab.async false
set_option linter.all false
set_option bootstrap.genMatcherCode false
set_option compiler.extract_closed false
set_option genSizeOfSpec false
set_option maxRecDepth 100000
set_option maxHeartbeats 4000000
namespace My
open PySem PySem.W PySem.Calls PyProof.Rows
theorem with_hl {P R Q:Prop} (hl:P) (hc:R) (main:Q):Q:=main
structure Parts (Q:Prop):Type where
 {P1:Prop}
 {P2:Prop}
 {P3:Prop}
 {W:Prop}
 a:P1
 g:P2
 b:P3
 c:P1->P2->P3->W->Q
noncomputable def vw (_:Params):Obj:={cls:=Value.type "tuple",data:=Data.seq #[]}
noncomputable def vt (_:Params):Obj:={cls:=Value.none,data:=Data.fields #[]}
noncomputable def vq (_:Params):Obj:={cls:=Value.type "code",data:=Data.fields #[Value.str (Str.ofString "<module>") 182,Value.str (Str.ofString "<module>") 183,Value.str (Str.ofString "/claim/cut.py") 184,Value.int 1 0,Value.int 0 0,Value.int 0 0,Value.int 0 0,Value.int 0 0,Value.ref 11,Value.bool false,Value.int 181 0,Value.ref 12,Value.none,Value.none,Value.none,Value.none,Value.int 185 0,Value.int 1 0,Value.str (Str.ofString "/claim/cut.py") 186]}
noncomputable def vp (_:Params):Obj:={cls:=Value.type "frame",slots:= #[some (Value.ref 13),some (Value.ref 3),some (Value.ref 3),none,some (Value.str (Str.ofString "__main__") 164),none,some (Value.ref 0)]}
noncomputable def uH (P:Params):BT:=(BT.node (boot_o_0 P) (BT.node (boot_o_1 P) (BT.node (boot_o_3 P) (BT.node (boot_o_7 P) BT.nil BT.nil) (BT.node (vw P) BT.nil BT.nil)) (BT.node (boot_o_5 P) (BT.node (boot_o_9 P) BT.nil BT.nil) (BT.node (vq P) BT.nil BT.nil))) (BT.node (boot_o_2 P) (BT.node (boot_o_4 P) (BT.node (boot_o_8 P) BT.nil BT.nil) (BT.node (vt P) BT.nil BT.nil)) (BT.node (boot_o_6 P) (BT.node (boot_o_10 P) BT.nil BT.nil) (BT.node (vp P) BT.nil BT.nil))))
noncomputable def tm (p:Program):Env:={scope:=p.main.scope,locals:=mainNs,globals:=mainNs,cells:=[],code:=.ref 13,frame:=some 14}
noncomputable abbrev hC (p:Program):Code:=.body (behindTheImports p) (tm p)
noncomputable def hSt (w:World) (os:OsState):SharedT:=⟨uH w.params,15,{},#[],{},187,os⟩
abbrev kn:Pos:=⟨0,0,0,0⟩
noncomputable abbrev uI (p:Program):Thread:=piecesOf (behindTheImports p) (tm p) (hC p) kn [topFrame kn]
noncomputable abbrev qc (p:Program) (n:Nat) (w:World) (os:OsState):Option (Flow×SharedT×Code×Pos):=PySem.W.Fast.tw10110043849684766642 PySem.W.Fast.tw14364793385576792824 p w 11 (some (.ref 6)) 1 n (hSt w os) (uI p)
theorem vx {p:Program} {w:World} {n₀:Nat} {ann:Option Value} (s:Shared) (c:Code) (pos:Pos):topRun treeTable p w n₀ ann 2 s ⟨doneF .next,c,pos,[topFrame kn]⟩=some s:=by
 obtain ⟨h,g,d,t,o⟩:=s
 kernel_rfl
theorem uJ (P:Params):((boot_heap P).isNs mainGlobals&&(#[]:Array GenState).size==0,(boot_heap P).objs.size,(boot_heap P).nsMap mainGlobals "__annotations__")=(true,11,some (.ref 6)):=by kernel_rfl
theorem left_of {p q:Program} {loose:List Str} {Xt:Shared->Bool} {α:Type} {Yf:Shared->α} {Ya:World->α} {N n:Nat} {g0:Bool} {posE:Pos}
  (e:opening p=plainProg p.main.scope.names) (hN:Nat.ble 600 N=true) (f: ∀ s,fenceModules? p s=some s) (le:Nat.ble (12+ (1+ (n+2))) N=true)
  (pre: ∀ (w:World) (os:OsState),topGo treeTable p w 11 (some (.ref 6)) 12 ⟨boot_heap w.params,#[],boot_drawn,boot_toks,os⟩ (topStub p)=some ((hSt w os).abs,⟨denote treeTable (hC p),hC p,kn,[topFrame kn]⟩))
  (block: ∀ (w:World) (os:OsState),segRun treeTable p w 11 (some (.ref 6)) 1 1 (hSt w os).abs (blockOf (behindTheImports p) (tm p) (hC p) kn [topFrame kn])=some (.next,(hSt w os).abs,hC p,kn))
  (runA: ∀ (w:World) (os:OsState),(qc p n w os).map (fun r=>(r.1,r.2.2,(staticsOk (importedModules p.main.body) (boot_heap w.params) r.2.1.abs.heap&&namesBound p r.2.1.abs.heap&&gensDone r.2.1.abs&&laidKept (boot_heap w.params) r.2.1.abs.heap),(openSeen q loose (importedModules p.main.body) Xt g0 r.2.1.abs).1,Yf r.2.1.abs))=some (.next,(hC p,posE),true,(openGood q loose).1,Ya w))
  (runE: ∀ (w:World) (os:OsState),(qc p n w os).map (fun r=>((openSeen q loose (importedModules p.main.body) Xt g0 r.2.1.abs).2.1,(openSeen q loose (importedModules p.main.body) Xt g0 r.2.1.abs).2.2.1))=some ((openGood q loose).2.1,(openGood q loose).2.2.1))
  (runB: ∀ (w:World) (os:OsState),(qc p n w os).map (fun r=>(openSeen q loose (importedModules p.main.body) Xt g0 r.2.1.abs).2.2.2)=some (openGood q loose).2.2.2):LeftO p q loose Xt Yf Ya N g0:=by
 intro w
 obtain ⟨⟨h,gs,d,k,os⟩,e1,e'⟩:=Option.map_eq_some_iff.mp (boot_open e hN f w)
 obtain ⟨rfl,rfl,rfl,rfl⟩:h=boot_heap w.params/\gs= #[]/\d=boot_drawn/\k=boot_toks:=by simpa using e'
 obtain ⟨z1,z2,z3⟩:_/\_/\_:=by simpa only [Prod.mk.injEq]using uJ w.params
 have E:segRunT treeTable p w 11 (some (.ref 6)) 1 n (hSt w os) (uI p)=qc p n w os:=by
  unfold qc
  rw [<- PySem.W.Fast.te10110043849684766642,<- PySem.W.Fast.te14364793385576792824]
 have A:=runA w os
 have B:=runB w os
 have E2:=runE w os
 obtain ⟨⟨fl,x,c,pos⟩,r1,r2⟩:=Option.map_eq_some_iff.mp A
 simp only [Prod.mk.injEq]at r2
 obtain ⟨rfl,⟨rfl,rfl⟩,l1,l2a,yb⟩:=r2
 have l2e:((openSeen q loose (importedModules p.main.body) Xt g0 x.abs).2.1,(openSeen q loose (importedModules p.main.body) Xt g0 x.abs).2.2.1)=((openGood q loose).2.1,(openGood q loose).2.2.1):=by rw [r1]at E2;exact Option.some.inj E2
 have l2d:(openSeen q loose (importedModules p.main.body) Xt g0 x.abs).2.2.2=(openGood q loose).2.2.2:=by rw [r1]at B;exact Option.some.inj B
 have l2:openSeen q loose (importedModules p.main.body) Xt g0 x.abs=openGood q loose:=Prod.ext l2a (Prod.ext (Prod.mk.inj l2e).1 (Prod.ext (Prod.mk.inj l2e).2 l2d))
 have s1:=segRun_of (E.trans r1)
 have t1:=piece_app (rest:=[]) s1 (piece_nil (vx x.abs _ _))
 rw [List.append_nil]at t1
 have t3:=go_top (pre w os) (piece_block (block w os) t1)
 have r:=topRun_mono (N- (12+ (1+ (n+2)))) _ _ _ _ t3
 rw [show 12+ (1+ (n+2)) + (N- (12+ (1+ (n+2))))=N by have:=Nat.le_of_ble_eq_true le;omega]at r
 have t:topFrom treeTable p w N ⟨boot_heap w.params,#[],boot_drawn,boot_toks,os⟩=some x.abs:=by
  unfold topFrom
  dsimp only
  rw [z1,z2,z3,r]
  show (match staticsOk _ _ _&&namesBound _ _&&gensDone _&&laidKept _ _ with | true=>_ | false=>_)=_
  rw [l1]
 unfold openEnds
 rw [e1]
 change Option.map _ (topFrom treeTable p w N _)=_
 rw [t]
 exact congrArg some (Prod.ext l2 yb)
end My
open PySem PySem.W PyProof.Rows in
set_option maxHeartbeats 0 in
noncomputable def My.parts:My.Parts PySem.Challenge.rw_boughworth_k20_least_trees_and_live_form.Holds:=by
 apply My.Parts.mk
 case c=>
  intro ha he hb hW
  w_on;o_law
  apply My.with_hl
  case main=>
   k_head;(case hw=>w_witness2)
  case hc=>exact hW
  case hl=>
   refine My.left_of (n:=5500) (posE:=⟨282,0,294,15⟩) ?e ?hN ?f ?le ?pre ?block ha he hb
   case e=>kernel_rfl
   case hN=>decide
   case f=>intro s;kernel_rfl
   case le=>decide
   case pre=>(intro w os;kernel_rfl)
   case block=>(intro w os;kernel_rfl)
 case a=>(intro w os;kernel_rfl)
 case g=>(intro w os;kernel_rfl)
 case b=>(intro w os;kernel_rfl)
namespace L2
open PySem PySem.Spec PyProof.Rows
noncomputable abbrev Key:=Sum Int Str
noncomputable def iq:Key->Value->Bool
 | .inl k,v=>Value.isInt k v
 | .inr x,v=>Value.isStrOf x v
noncomputable def vm (w:World):Key->Int
 | .inl k=>hashInt k
 | .inr x=>hashStr w x
theorem a9: ∀ {k:Key} {v:Value},iq k v=true->(∃ i t,k=Sum.inl i/\v=Value.int i t)\/(∃ x t,k=Sum.inr x/\v=Value.str x t)
 | .inl i,v,h=>by
  obtain ⟨t,e⟩:=Value.isInt_shape (k:=i) (v:=v) h
  exact .inl ⟨i,t,rfl,e⟩
 | .inr x,v,h=>by
  obtain ⟨t,e⟩:=Value.isStrOf_shape (x:=x) (v:=v) h
  exact .inr ⟨x,t,rfl,e⟩
theorem nW (i:Int) (t:Tok):iq (.inl i) (.int i t)=true:=by simp [iq,Value.isInt]
theorem nV (x:Str) (t:Tok):iq (.inr x) (.str x t)=true:=by simp [iq,Value.isStrOf]
theorem sX (a b:Int):decide ((Sum.inl a:Key)=Sum.inl b)=(a==b):=by
 by_cases e:a=b
 ·subst e;simp
 ·have h: ¬ (Sum.inl a:Key)=Sum.inl b:=fun q=>e (Sum.inl.inj q)
  rw [decide_eq_false h]
  exact (beq_eq_false_iff_ne.mpr e).symm
theorem sU (a b:Str):decide ((Sum.inr a:Key)=Sum.inr b)=decide (a=b):=by
 by_cases e:a=b
 ·subst e;simp
 ·have h: ¬ (Sum.inr a:Key)=Sum.inr b:=fun q=>e (Sum.inr.inj q)
  rw [decide_eq_false h,decide_eq_false e]
theorem sW (a:Int) (b:Str):decide ((Sum.inl a:Key)=Sum.inr b)=false:=decide_eq_false (fun q=>nomatch q)
theorem sV (a:Str) (b:Int):decide ((Sum.inr a:Key)=Sum.inl b)=false:=decide_eq_false (fun q=>nomatch q)
noncomputable def aX (prog:Program) (w:World):PySem.KeyKind prog w Key where
 is:=iq
 hash:=vm w
 inj:=fun v a b ha hb=>by
  rcases a9 ha with ⟨i,t,rfl,rfl⟩ | ⟨x,t,rfl,rfl⟩
  ·rcases a9 hb with ⟨j,u,rfl,e⟩ | ⟨y,u,rfl,e⟩
   ·injection e with e1 _;rw [e1]
   ·exact nomatch e
  ·rcases a9 hb with ⟨j,u,rfl,e⟩ | ⟨y,u,rfl,e⟩
   ·exact nomatch e
   ·injection e with e1 _;rw [e1]
 byValue:=fun k v h=>by
  rcases a9 h with ⟨i,t,rfl,rfl⟩ | ⟨x,t,rfl,rfl⟩ <;> rfl
 pyHash:=fun hv h=>by
  rcases a9 hv with ⟨i,t,rfl,rfl⟩ | ⟨x,t,rfl,rfl⟩
  ·exact wpAny_pyHash_int h
  ·exact wpAny_pyHash_str h
 eqBool:=fun hu hv h=>by
  rcases a9 hu with ⟨i,t,rfl,rfl⟩ | ⟨x,t,rfl,rfl⟩
  ·rcases a9 hv with ⟨j,u,rfl,rfl⟩ | ⟨y,u,rfl,rfl⟩
   ·rw [sX]at h;exact wpAny_eqBool_int h
   ·rw [sW]at h;exact SeqAt.EqAt.int_str i t y u _ _ _ _ h
  ·rcases a9 hv with ⟨j,u,rfl,rfl⟩ | ⟨y,u,rfl,rfl⟩
   ·rw [sV]at h;exact SeqAt.EqAt.str_int x t j u _ _ _ _ h
   ·rw [sU]at h;exact wpAny_eqBool_str h
 «strs» :=fun k x t v h=>by
  rcases a9 h with ⟨i,u,rfl,e⟩ | ⟨y,u,rfl,e⟩
  ·exact nomatch e
  ·injection e with e1 _
   subst e1
   cases v <;> rfl
theorem lN (prog:Program) (w:World) (k:Key) (v:Value):(aX prog w).is k v=iq k v:=rfl
theorem j9 (prog:Program) (w:World) (i:Int) (t:Tok):(aX prog w).is (.inl i) (.int i t)=true:=nW i t
theorem j8 (prog:Program) (w:World) (x:Str) (t:Tok):(aX prog w).is (.inr x) (.str x t)=true:=nV x t
inductive V where
 | non | bl (b:Bool) | int (i:Int) | str (x:Str) | byt (b:Array UInt8) | flt (b:UInt64) | ref (a:Addr) | ty (n:String)
 deriving DecidableEq
noncomputable def RelV:V->Value->Prop
 | .non,u=>u=Value.none
 | .bl b,u=>u=Value.bool b
 | .int i,u=> ∃ t,u=Value.int i t
 | .str x,u=> ∃ t,u=Value.str x t
 | .byt b,u=> ∃ t,u=Value.bytes b t
 | .flt b,u=> ∃ t,u=Value.float b t
 | .ref a,u=>u=Value.ref a
 | .ty n,u=>u=Value.type n
noncomputable abbrev Vals:List V->List Value->Prop:=Paired RelV
theorem Vals.length {xs:List V} {us:List Value} (r:Vals xs us):xs.length=us.length:=Paired.length r
theorem Vals.get: ∀ {xs:List V} {us:List Value} {i:Nat} {x:V},Vals xs us->xs[i]? =some x-> ∃ u,us[i]? =some u/\RelV x u
 | _,_,_,_,.nil,e=>by simp at e
 | _,_,0,_,.cons r _,e=>by simp at e;subst e;exact ⟨_,rfl,r⟩
 | _,_,i+1,x,.cons _ t,e=>by
  obtain ⟨u,h1,h2⟩:=Vals.get (i:=i) (x:=x) t (by simpa using e)
  exact ⟨u,by simpa using h1,h2⟩
theorem Vals.set {x:V} {u:Value} (r:RelV x u): ∀ {xs:List V} {us:List Value} (i:Nat),Vals xs us->Vals (xs.set i x) (us.set i u)
 | _,_,_,.nil=>.nil
 | _,_,0,.cons _ t=>.cons r t
 | _,_,i+1,.cons q t=>.cons q (Vals.set r i t)
theorem Vals.append: ∀ {xs ys:List V} {us ws:List Value},Vals xs us->Vals ys ws->Vals (xs++ys) (us++ws)
 | _,_,_,_,.nil,s=>s
 | _,_,_,_,.cons r t,s=>.cons r (Vals.append t s)
theorem Vals.take: ∀ {xs:List V} {us:List Value} (n:Nat),Vals xs us->Vals (xs.take n) (us.take n)
 | _,_,0,_=>.nil
 | _,_,_+1,.nil=>.nil
 | _,_,n+1,.cons r t=>.cons r (Vals.take n t)
theorem Vals.drop: ∀ {xs:List V} {us:List Value} (n:Nat),Vals xs us->Vals (xs.drop n) (us.drop n)
 | _,_,0,r=>r
 | _,_,_+1,.nil=>.nil
 | _,_,n+1,.cons _ t=>Vals.drop n t
theorem Vals.none_of: ∀ {xs:List V} {us:List Value} {i:Nat},Vals xs us->xs[i]? =none->us[i]? =none:=fun {xs us i} r e=>by
 have h1:=r.length
 have h2:xs.length<=i:=List.getElem?_eq_none_iff.mp e
 exact List.getElem?_eq_none_iff.mpr (by omega)
noncomputable def RelO:Option V->Option Value->Prop
 | some v,some u=>RelV v u
 | none,none=>True
 | _,_=>False
noncomputable def KV {κ:Type}:List (κ×V)->List (κ×Value)->Prop:=Paired fun (p:κ×V) (q:κ×Value)=>p.1=q.1/\RelV p.2 q.2
noncomputable def kV:Key->V
 | .inl i=>.int i
 | .inr x=>.str x
inductive HO where
 /-- a list -/
 | lst (xs:List V)
 /-- a tuple (never changes) -/
 | tup (xs:List V)
 /-- a dict whose keys are ints and texts; one whose keys are tuples of ints and texts (the empty one is both) -/
 | dK (kvs:List (Key×V)) | dT (kvs:List (List Key×V))
 /-- a set of ints: its members, its size -/
 | set (S:Int->Bool) (n:Nat)
 /-- an instance of the class at C, its dict at dx, its attributes -/
 | ins (C dx:Addr) (fs:List (Str×V))
 /-- the dict of the instance at x -/
 | own (x:Addr)
 /-- the dict of an exception -/
 | xd (fs:List (Str×V))
 /-- a bound method, f of x -/
 | met (f x:Addr)
 /-- a range object lo, lo + 1, .. below hi -/
 | rng (lo hi:Int)
 /-- a thing that is known to the object (the script; a dict while a loop walks it): read, never written while it is so -/
 | frz (o:Obj) (u:HO)
 /-- a code object's table -/
 | tbl (ps:Array Value)
 /-- any other thing, by what is true of its one object (a def of one's own: SetO a S n := HO.ext fun h => ..) -/
 | ext (φ:Heap->Prop)
noncomputable abbrev Hp:=Addr->Option HO
noncomputable def upd (H:Hp) (a:Addr) (o:HO):Hp:=fun b=>if b=a then some o else H b
theorem ad {H:Hp} {a:Addr} {o:HO}:upd H a o a=some o:=by unfold upd;rw [if_pos rfl]
theorem ah {H:Hp} {a b:Addr} {o:HO} (h:b≠a):upd H a o b=H b:=by unfold upd;rw [if_neg h]
theorem dj {H:Hp} {a:Addr} {o u:HO}:upd (upd H a o) a u=upd H a u:=by
 funext b;unfold upd;split <;> rfl
theorem uw {H:Hp} {a b:Addr} {o u:HO} (h:H a=some o) (h':H b=some u) (d:o≠u):a≠b:=by
 intro e;subst e;rw [h]at h';exact d (Option.some.inj h')
theorem ak {H:Hp} {a b:Addr} {o:HO} (h:H a=some o) (h':H b=none):a≠b:=by
 intro e;subst e;rw [h]at h';cases h'
section
variable (P:Program) (w:World)
noncomputable def ObjOk (H:Hp) (h:Heap) (a:Addr):HO->Prop
 | .lst xs=>xs.length<=sizeLine/\ ∃ (its:List Value) (n:Nat),Vals xs its/\h.get? a=some {cls:=.type "list",data:=.seq its.toArray n}
 | .tup xs=>xs.length<=sizeLine/\ ∃ its:List Value,Vals xs its/\IsTup h a its.toArray
 | .dK kvs=>kvs.length<=sizeLine/\(a==sysModules)=false/\ ∃ vs,KV kvs vs/\h.DictOf (aX P w) a vs
 | .dT kvs=>kvs.length<=sizeLine/\(a==sysModules)=false/\ ∃ xs:List (List Key×Addr×Value),
   Paired (fun (p:List Key×V) (q:List Key×Addr×Value)=>p.1=q.1/\H q.2.1=some (.tup (p.1.map kV))/\RelV p.2 q.2.2) kvs xs/\
   ∃ o es ep,h.get? a=some o/\o.ExactDict/\o.data=.dict es ep/\es.toList=xs.map (entryOfKey (tupleKind (aX P w)))/\(xs.map (·.1)).Nodup
 | .set S n=>h.SetOf (intKind P w) a S n
 | .ins C dx fs=>H dx=some (.own a)/\fs.length<=1000/\dx≠a/\h.get? a=some (PySem.W.instObj C dx)/\
   ∃ mA,h.Ns1 dx mA/\(∀ f,RelO (fs.lookup f) (mA f))/\PySem.Within mA (fs.map (·.1))
 | .own _=> ∃ o,h.get? a=some o
 | .xd fs=> ∃ mA,h.Ns1 a mA/\ ∀ f,RelO (fs.lookup f) (mA f)
 | .rng lo hi=> ∃ t u v,h.get? a=some {cls:=.type "range",data:=.fields #[.int lo t,.int hi u,.int 1 v]}
 | .frz o u=>h.get? a=some o/\ObjOk H h a u
 | .tbl ps=>h.get? a=some {cls:=.none,data:=.fields ps}
 | .met f x=>h.get? a=some (PySem.W.methodObj (.ref f) (.ref x))
 | .ext φ=>φ h/\(∃ o,h.get? a=some o)/\ ∀ h1 h2:Heap,φ h1->(∀ o,h1.get? a=some o->h2.get? a=some o)->φ h2
noncomputable def HOk (H:Hp) (h:Heap):Prop:= ∀ a o,H a=some o->ObjOk P w H h a o
end
section
variable {P:Program} {w:World} {H H':Hp} {h h':Heap} {a:Addr} {o:HO}
theorem ObjOk.lt (x:ObjOk P w H h a o):a<h.objs.size:=by
 cases o with
 | lst xs=>obtain ⟨_,_,_,_,e⟩:=x;exact Heap.lt_size e
 | tup xs=>obtain ⟨_,_,_,p⟩:=x;exact p.lt
 | dK kvs=>obtain ⟨_,_,_,_,o,_,_,e,_⟩:=x;exact Heap.lt_size e
 | dT kvs=>obtain ⟨_,_,_,_,o,_,_,e,_⟩:=x;exact Heap.lt_size e
 | set S n=>obtain ⟨o,_,_,_,e,_⟩:=x;exact Heap.lt_size e
 | ins C dx fs=>obtain ⟨_,_,_,e,_⟩:=x;exact Heap.lt_size e
 | own y=>obtain ⟨_,e⟩:=x;exact Heap.lt_size e
 | xd fs=>obtain ⟨_,⟨_,_,_,e,_⟩,_⟩:=x;exact Heap.lt_size e
 | rng lo hi=>obtain ⟨_,_,_,e⟩:=x;exact Heap.lt_size e
 | frz ob u=>obtain ⟨e,_⟩:=x;exact Heap.lt_size e
 | tbl ps=>exact Heap.lt_size (show h.get? a=some _ from x)
 | met f y=>exact Heap.lt_size (show h.get? a=some _ from x)
 | ext φ=>obtain ⟨_,⟨_,e⟩,_⟩:=x;exact Heap.lt_size e
theorem Paired.mapP {α β:Type} {F G:α->β->Prop}: ∀ {l₁:List α} {l₂:List β},Paired F l₁ l₂->(∀ a b,F a b->G a b)->Paired G l₁ l₂
 | _,_,.nil,_=>.nil
 | _,_,.cons r t,f=>.cons (f _ _ r) (Paired.mapP t f)
theorem ObjOk.stay (x:ObjOk P w H h a o) (k: ∀ b u,(b=a\/H b=some (.own a))->h.get? b=some u->h'.get? b=some u)
  (ho: ∀ b,H b=some (.own a)->H' b=some (.own a)) (ht: ∀ b xs,H b=some (.tup xs)->H' b=some (.tup xs)):ObjOk P w H' h' a o:=by
 induction o with
 | lst xs=>obtain ⟨z,its,n,r,e⟩:=x;exact ⟨z,its,n,r,k _ _ (.inl rfl) e⟩
 | tup xs=>obtain ⟨z,its,r,ob,e,c⟩:=x;exact ⟨z,its,r,ob,k _ _ (.inl rfl) e,c⟩
 | dK kvs=>obtain ⟨z,y,vs,r,ob,es,ep,e,c⟩:=x;exact ⟨z,y,vs,r,ob,es,ep,k _ _ (.inl rfl) e,c⟩
 | dT kvs=>
  obtain ⟨z,y,xs,r,ob,es,ep,e,c⟩:=x
  exact ⟨z,y,xs,Paired.mapP r fun p q z=>⟨z.1,ht _ _ z.2.1,z.2.2⟩,ob,es,ep,k _ _ (.inl rfl) e,c⟩
 | set S n=>obtain ⟨ob,es,ep,t,e,c⟩:=x;exact ⟨ob,es,ep,t,k _ _ (.inl rfl) e,c⟩
 | ins C dx fs=>
  obtain ⟨d,z,ne,e,mA,⟨od,es,ep,e2,c⟩,r⟩:=x
  exact ⟨ho _ d,z,ne,k _ _ (.inl rfl) e,mA,⟨od,es,ep,k _ _ (.inr d) e2,c⟩,r⟩
 | own y=>obtain ⟨ob,e⟩:=x;exact ⟨ob,k _ _ (.inl rfl) e⟩
 | xd fs=>obtain ⟨mA,⟨od,es,ep,e,c⟩,r⟩:=x;exact ⟨mA,⟨od,es,ep,k _ _ (.inl rfl) e,c⟩,r⟩
 | rng lo hi=>obtain ⟨t,u,v,e⟩:=x;exact ⟨t,u,v,k _ _ (.inl rfl) e⟩
 | frz ob u ih=>obtain ⟨e,q⟩:=x;exact ⟨k _ _ (.inl rfl) e,ih q⟩
 | tbl ps=>
  have e:h.get? a=some {cls:=.none,data:=.fields ps}:=x
  show h'.get? a=some {cls:=.none,data:=.fields ps}
  exact k a _ (.inl rfl) e
 | met f y=>
  have e:h.get? a=some (PySem.W.methodObj (.ref f) (.ref y)):=x
  show h'.get? a=some (PySem.W.methodObj (.ref f) (.ref y))
  exact k a _ (.inl rfl) e
 | ext φ=>obtain ⟨p,⟨o,e⟩,st⟩:=x;exact ⟨st _ _ p fun o q=>k _ _ (.inl rfl) q,⟨o,k _ _ (.inl rfl) e⟩,st⟩
theorem HOk.lt (x:HOk P w H h) (e:H a=some o):a<h.objs.size:=(x a o e).lt
theorem HOk.fresh (x:HOk P w H h) (e:h.objs.size<=a):H a=none:=by
 cases q:H a with
 | none=>rfl
 | some u=>exact absurd (Nat.lt_of_lt_of_le (x.lt q) e) (Nat.lt_irrefl _)
theorem HOk.kept (x:HOk P w H h) (k: ∀ b u,h.get? b=some u->h'.get? b=some u):HOk P w H h':=fun a o e=>
 (x a o e).stay (fun b u _ q=>k b u q) (fun _ q=>q) fun _ _ q=>q
theorem HOk.laid (x:HOk P w H h) (k: ∀ b u,h.get? b=some u->h'.get? b=some u) (hp:h.objs.size<=a) (new:ObjOk P w (upd H a o) h' a o):HOk P w (upd H a o) h':=fun b u e=>by
 have hn:=x.fresh hp
 by_cases hb:b=a
 ·subst hb;rw [ad]at e;cases e;exact new
 ·rw [ah hb]at e
  exact (x b u e).stay (fun c v _ q=>k c v q) (fun c q=>by rw [ah (ak q hn)];exact q) fun c xs q=>by rw [ah (ak q hn)];exact q
end
noncomputable def Rd (H:Hp) (a:Addr) (u:HO):Prop:=H a=some u\/ ∃ o,H a=some (.frz o u)
theorem Rd.ok {P:Program} {w:World} {H:Hp} {h:Heap} {a:Addr} {u:HO} (r:Rd H a u) (x:HOk P w H h):ObjOk P w H h a u:=by
 rcases r with r | ⟨o,r⟩
 ·exact x a u r
 ·obtain ⟨_,q⟩:=x a _ r
  exact q
noncomputable def Mut:Option HO->Prop
 | some (.lst _)=>True
 | some (.dK _)=>True
 | some (.dT _)=>True
 | some (.set _ _)=>True
 | some (.ins _ _ _)=>True
 | some (.ext _)=>True
 | _=>False
section
variable {P:Program} {w:World} {H:Hp} {h h':Heap} {x e:Addr} {o':HO}
theorem HOk.write (ok:HOk P w H h) (mu:Mut (H x)) (he:e=x\/H e=some (.own x)) (k: ∀ b u,b≠e->h.get? b=some u->h'.get? b=some u) (heo: ∃ u,h'.get? e=some u)
  (new:ObjOk P w (upd H x o') h' x o'):HOk P w (upd H x o') h':=fun b u q=>by
 have nown: ∀ c y,H c=some (.own y)->c≠x:=fun c y r z=>by subst z;rw [r]at mu;exact mu
 have ntup: ∀ c xs,H c=some (.tup xs)->c≠x:=fun c xs r z=>by subst z;rw [r]at mu;exact mu
 by_cases hb:b=x
 ·subst hb;rw [ad]at q;cases q;exact new
 ·rw [ah hb]at q
  by_cases hbe:b=e
  ·have q':H b=some (.own x):=by
    rcases he with z | z
    ·exact absurd (hbe.trans z) hb
    ·rw [hbe];exact z
   rw [q]at q';cases q'
   obtain ⟨v,hv⟩:=heo
   exact ⟨v,by rw [hbe];exact hv⟩
  ·refine (ok b u q).stay (fun c v hc r=>k c v ?_ r) (fun c r=>by rw [ah (nown c b r)];exact r) fun c xs r=>by rw [ah (ntup c xs r)];exact r
   rcases hc with rfl | hc
   ·exact hbe
   ·rintro rfl
    rcases he with z | z
    ·exact nown c b hc z
    ·rw [hc]at z;cases z;exact hb rfl
end
structure Un (fs ex:List Addr) (H H':Hp) (h h':Heap):Prop where
 keep: ∀ b o,h.get? b=some o->H b=none->b∉fs->b∉ex->h'.get? b=some o
 slot: ∀ b o,h.get? b=some o->H b=none->b∈fs->b∉ex-> ∃ sl,h'.get? b=some {o with slots:=sl}
 free: ∀ b o,h.get? b=some o->H b=none->b∉ex->H' b=none
 there: ∀ b o,h.get? b=some o->b∉ex-> ∃ o',h'.get? b=some o'
 tups: ∀ b xs,H b=some (.tup xs)->H' b=some (.tup xs)
 frzs: ∀ b o u,H b=some (.frz o u)->H' b=some (.frz o u)
 tbls: ∀ b ps,H b=some (.tbl ps)-> ∃ more,H' b=some (.tbl (ps++more))
section
variable {fs fs' ex ex':List Addr} {H H1 H2:Hp} {h h1 h2 h':Heap} {a x e:Addr} {o:HO}
theorem Un.any (u:Un fs ex H H1 h h1) {b:Addr} {ob:Obj} (q:h.get? b=some ob) (n:H b=none) (hx:b∉ex): ∃ sl,h1.get? b=some {ob with slots:=sl}:=by
 by_cases hb:b∈fs
 ·exact u.slot b ob q n hb hx
 ·exact ⟨ob.slots,u.keep b ob q n hb hx⟩
theorem Un.kept (k: ∀ b u,h.get? b=some u->h'.get? b=some u):Un fs ex H H h h':=
 ⟨fun b ob q _ _ _=>k b ob q,fun b ob q _ _ _=>⟨ob.slots,k b ob q⟩,fun _ _ _ n _=>n,fun b ob q _=>⟨ob,k b ob q⟩,fun _ _ q=>q,fun _ _ _ q=>q,fun _ ps q=>⟨#[],by rw [q];simp⟩⟩
theorem Un.refl:Un fs ex H H h h:=Un.kept fun _ _ q=>q
theorem Un.laid (k: ∀ b u,h.get? b=some u->h'.get? b=some u) (hp:h.objs.size<=a) (hn:H a=none):Un fs ex H (upd H a o) h h' where
 keep:=fun b u q _ _ _=>k b u q
 slot:=fun b u q _ _ _=>⟨u.slots,k b u q⟩
 free:=fun b u q n _=>by rw [ah (Nat.ne_of_lt (Nat.lt_of_lt_of_le (Heap.lt_size q) hp))];exact n
 there:=fun b u q _=>⟨u,k b u q⟩
 tups:=fun b xs q=>by rw [ah (ak q hn)];exact q
 frzs:=fun b u xs q=>by rw [ah (ak q hn)];exact q
 tbls:=fun b ps q=>⟨#[],by rw [ah (ak q hn),q];simp⟩
theorem Un.write (mu:Mut (H x)) (he:e=x\/H e=some (.own x)) (k: ∀ b u,b≠e->h.get? b=some u->h'.get? b=some u) (heo: ∃ u,h'.get? e=some u):Un fs ex H (upd H x o) h h':=by
 have hx: ∀ b,H b=none->b≠x:=fun b n z=>by subst z;rw [n]at mu;exact mu
 have hb: ∀ b,H b=none->b≠e:=fun b n z=>by
  subst z
  rcases he with r | r
  ·exact hx b n r
  ·rw [n]at r;cases r
 have hm: ∀ b u,H b=some u-> ¬ Mut (some u)->b≠x:=fun b u q nm z=>by subst z;rw [q]at mu;exact nm mu
 refine ⟨fun b u q n _ _=>k b u (hb b n) q,fun b u q n _ _=>⟨u.slots,k b u (hb b n) q⟩,fun b u q n _=>by rw [ah (hx b n)];exact n,fun b u q _=>?_,
  fun b xs q=>by rw [ah (hm b _ q fun z=>z)];exact q,fun b u xs q=>by rw [ah (hm b _ q fun z=>z)];exact q,fun b ps q=>⟨#[],by rw [ah (hm b _ q fun z=>z),q];simp⟩⟩
 by_cases hbe:b=e
 ·subst hbe;exact heo
 ·exact ⟨u,k b u hbe q⟩
end
noncomputable def trk (h:Heap) (H:Hp):List Addr:=(List.range h.objs.size).filter fun a=>(H a).isSome
noncomputable def iy (h:Heap) (H:Hp):Heap:=PySem.W.hideAll h (trk h H)
theorem nZ (h:Heap) (H:Hp):(iy h H).objs.size=h.objs.size:=PySem.W.hideAll_size _ _
theorem qa {h:Heap} {H:Hp} {b:Addr} {o:Obj} (e:h.get? b=some o) (n:H b=none):(iy h H).get? b=some o:=
 PySem.W.hideAll_get _ e fun hm=>by
  have q:(H b).isSome=true:=(List.mem_filter.mp hm).2
  rw [n]at q;simp at q
theorem q8 {h:Heap} {H:Hp} {b:Addr} {o:Obj} (e:(iy h H).get? b=some o):h.get? b=some o/\H b=none:=by
 have e':h.get? b=some o:=PySem.W.of_hideAll (trk h H) e
 refine ⟨e',?_⟩
 cases q:H b with
 | none=>rfl
 | some x=>
  have hm:b∈trk h H:=List.mem_filter.mpr ⟨List.mem_range.mpr (Heap.lt_size e'),by simp [q]⟩
  have z:(iy h H).get? b=none:=PySem.W.hideAll_none (trk h H) hm
  rw [z]at e;cases e
structure Mod (K:PySem.W.Frag) (mg:Str->Option Value) (base:Heap):Prop where
 kin:K.In base
 glob:base.Ns mainGlobals mg
 blt: ∃ mb,base.Ns builtinsNs mb/\ ∀ x:Str,x≠"__name__"->mb x=bootBuiltins x
 nolimit:base.NoLimit
structure Cx where
 prog:Program
 w:World
 K:PySem.W.Frag
 mg:Str->Option Value
 base:Heap
 A:Around
 N:List Str
 s₀:Shared
 H₀:Hp
 env:Env
 outer:List Env
 stack:List Env
 ex:List Addr
 fn:Str->Bool
 calm:Bool
 pn:List (Addr×Obj)
 xe:Value->Shared->Prop
noncomputable def frs (l:List Env):List Addr:=l.filterMap (·.frame)
noncomputable abbrev Cx.fs (X:Cx):List Addr:=frs X.outer
noncomputable def Vis (sc:Scope) (x:Str):Prop:=sc.names.lookup x=some .local\/sc.names.lookup x=some .cell\/sc.names.lookup x=some .free
noncomputable def Loc (sc:Scope) (x:Str):Prop:=sc.names.lookup x=some .local\/sc.names.lookup x=some .cell
noncomputable def vG (env:Env) (h:Heap) (m:Str->Option Value) (x:Str) (u:Value):Prop:=
 (env.kindOf x=some .local/\m x=some u)\/((env.kindOf x=some .cell\/env.kindOf x=some .free)/\ ∃ c,env.cells.lookup x=some c/\h.IsCell c (some u))
structure Cx.Ok (X:Cx):Prop where
 mod:Mod X.K X.mg X.base
 kind:X.env.scope.kind=.function
 glob:X.env.globals=mainGlobals
 blt:X.env.builtins=builtinsNs
 above:X.s₀.heap.objs.size<=X.env.locals
 inj: ∀ x y c,X.env.cells.lookup x=some c->X.env.cells.lookup y=some c->x=y
 has: ∀ x,(X.env.kindOf x=some .cell\/X.env.kindOf x=some .free)-> ∃ c,X.env.cells.lookup x=some c
 cab: ∀ x c,X.fn x=true->X.env.cells.lookup x=some c->X.s₀.heap.objs.size<=c
 hd:X.calm=true->X.A.handled=none
 frames:X.A.frames=some X.stack
 stk:X.stack=X.outer\/(X.stack=X.env::X.outer/\X.env.frame=some X.env.locals)
 exf: ∀ b∈X.ex,b≠X.env.locals/\ ∀ x c,X.env.cells.lookup x=some c->c≠b
 bs: ∀ b o,X.base.get? b=some o->X.s₀.heap.get? b=some o/\X.H₀ b=none
 bsz:X.base.objs.size<=X.s₀.heap.objs.size
 noex: ∀ b o,X.base.get? b=some o->b∉X.ex
 exfs: ∀ b∈X.ex,b∉X.fs
 funs:X.s₀.heap.FunFrames X.base X.outer
 frf: ∀ b∈X.fs,X.H₀ b=none
structure Inv (X:Cx) (pins:List (Addr×Obj)) (σ:List (Option V)) (H:Hp) (s:Shared):Prop where
 ok:X.Ok
 os:s.os=X.s₀.os
 bare:AllBare s.gens
 base:Un X.fs X.ex X.H₀ H X.s₀.heap s.heap
 loc: ∃ m,s.heap.Ns X.env.locals m/\ ∀ (i:Nat) (x:Str) (v:V),X.N[i]? =some x->σ[i]? =some (some v)->Vis X.env.scope x-> ∃ u,RelV v u/\vG X.env s.heap m x u
 cell: ∀ x c,X.env.cells.lookup x=some c-> ∃ v,s.heap.IsCell c v
 free:H X.env.locals=none
 freeC: ∀ x c,X.env.cells.lookup x=some c->H c=none
 pin: ∀ p∈X.pn++pins,s.heap.get? p.1=some p.2/\H p.1=none/\p.1≠X.env.locals/\p.1∉X.fs/\ ∀ v,p.2.data≠ .cell v
 hok:HOk X.prog X.w H s.heap
 len:σ.length=X.N.length
section
variable {X:Cx} {pins:List (Addr×Obj)} {σ:List (Option V)} {H H':Hp} {s:Shared} {h':Heap}
theorem Cx.Ok.nofr (ok:X.Ok) {b:Addr} {o:Obj} (e:X.base.get? b=some o):b∉X.fs:=fun hb=>by
 have:=(ok.funs.mem hb).1
 rw [e]at this;cases this
theorem Inv.bs (I:Inv X pins σ H s): ∀ b o,X.base.get? b=some o->s.heap.get? b=some o/\H b=none:=fun b o e=>
 ⟨I.base.keep b o (I.ok.bs b o e).1 (I.ok.bs b o e).2 (I.ok.nofr e) (I.ok.noex b o e),I.base.free b o (I.ok.bs b o e).1 (I.ok.bs b o e).2 (I.ok.noex b o e)⟩
theorem Inv.bk (I:Inv X pins σ H s): ∀ b o,X.base.get? b=some o->s.heap.get? b=some o:=fun b o e=>(I.bs b o e).1
theorem Inv.mod (I:Inv X pins σ H s):Mod X.K X.mg X.base:=I.ok.mod
theorem Inv.kIn (I:Inv X pins σ H s):X.K.In s.heap:=I.ok.mod.kin.keeps I.bk
theorem Inv.lt (I:Inv X pins σ H s):X.env.locals<s.heap.objs.size:=let ⟨_,hn,_⟩:=I.loc;hn.lt
theorem Inv.sz (I:Inv X pins σ H s):X.s₀.heap.objs.size<=s.heap.objs.size:=Nat.le_trans I.ok.above (Nat.le_of_lt I.lt)
theorem Inv.nofs (I:Inv X pins σ H s) {a:Addr} (h:s.heap.objs.size<=a):a∉X.fs:=fun hb=>by
 obtain ⟨_,o,ho,_⟩:=I.ok.funs.mem hb
 exact absurd (Nat.lt_of_lt_of_le (Heap.lt_size ho) (Nat.le_trans I.sz h)) (Nat.lt_irrefl _)
theorem Inv.cne (I:Inv X pins σ H s): ∀ x c,X.env.cells.lookup x=some c->c≠X.env.locals:=fun x c e z=>by
 obtain ⟨v,o,ho,hd⟩:=I.cell x c e
 obtain ⟨m,⟨o',es,ep,ho',hd',_⟩,_⟩:=I.loc
 rw [z,ho']at ho;cases ho;rw [hd']at hd;cases hd
theorem Inv.funs (I:Inv X pins σ H s):s.heap.FunFrames X.base X.outer:=by
 have all: ∀ (l:List Env),(∀ b∈frs l,b∈X.fs)->X.s₀.heap.FunFrames X.base l->s.heap.FunFrames X.base l:=by
  intro l
  induction l with
  | nil=>intro _ _;trivial
  | cons env r ih=>
   intro hs hl
   obtain ⟨hk,⟨L,o,hf,hn,ho,hd⟩,hr⟩:=hl
   have hL:L∈X.fs:=hs L (by unfold frs;rw [List.filterMap_cons,hf];exact List.mem_cons_self)
   obtain ⟨sl,e⟩:=I.base.slot L o ho (I.ok.frf L hL) hL fun z=>I.ok.exfs L z hL
   exact ⟨hk,⟨L,_,hf,hn,e,hd⟩,ih (fun b hb=>hs b (by unfold frs;rw [List.filterMap_cons,hf];exact List.mem_cons_of_mem _ hb)) hr⟩
 exact all X.outer (fun _ hb=>hb) I.ok.funs
theorem Inv.stack (I:Inv X pins σ H s):s.heap.FunFrames X.base X.stack:=by
 rcases I.ok.stk with e | ⟨e,hf⟩
 ·rw [e];exact I.funs
 ·rw [e]
  obtain ⟨m,hn,_⟩:=I.loc
  refine .cons (by rw [I.ok.kind];decide) hf hn ?_ I.funs
  exact Heap.get?_none_of_le (Nat.le_trans I.ok.bsz I.ok.above)
theorem Inv.stkSub (I:Inv X pins σ H s): ∀ b∈frs X.stack,b∈X.env.locals::X.fs:=fun b hb=>by
 rcases I.ok.stk with e | ⟨e,hf⟩
 ·rw [e]at hb;exact List.mem_cons_of_mem _ hb
 ·rw [e]at hb
  unfold frs at hb
  rw [List.filterMap_cons,hf]at hb
  exact hb
theorem Inv.stkFree (I:Inv X pins σ H s): ∀ b∈frs X.stack,H b=none:=fun b hb=>by
 rcases List.mem_cons.mp (I.stkSub b hb)with e | hb
 ·rw [e];exact I.free
 ·obtain ⟨_,o,ho,_⟩:=I.ok.funs.mem hb
  exact I.base.free b o ho (I.ok.frf b hb) fun z=>I.ok.exfs b z hb
theorem Inv.step {g':Array GenState} {t':Nat} {d':Drawn} {ch:List Addr} (I:Inv X pins σ H s)
  (hch: ∀ b∈ch,(b∈X.ex\/X.s₀.heap.objs.size<=b)/\b≠X.env.locals/\(∀ x c,X.env.cells.lookup x=some c->c≠b)/\ ∀ p∈X.pn++pins,p.1≠b)
  (keep: ∀ b o,b≠X.env.locals->b∉X.fs->b∉ch->s.heap.get? b=some o->H b=none->h'.get? b=some o)
  (slot: ∀ b o,b≠X.env.locals->b∈X.fs->b∉ch->s.heap.get? b=some o->H b=none-> ∃ sl,h'.get? b=some {o with slots:=sl}) (free: ∀ b o,b∉ch->s.heap.get? b=some o->H b=none->H' b=none)
  (there: ∀ b o,b∉ch->s.heap.get? b=some o-> ∃ o',h'.get? b=some o')
  (tups: ∀ b xs,H b=some (.tup xs)->H' b=some (.tup xs)) (frzs: ∀ b o u,H b=some (.frz o u)->H' b=some (.frz o u)) (tbls: ∀ b ps,H b=some (.tbl ps)-> ∃ more,H' b=some (.tbl (ps++more)))
  (ns: ∀ m,s.heap.Ns X.env.locals m->h'.Ns X.env.locals m) (hok:HOk X.prog X.w H' h') (hg:AllBare g'):
  Inv X pins σ H' {s with heap:=h',gens:=g',drawn:=d',toks:=t'}:=by
 have neL: ∀ b o,X.s₀.heap.get? b=some o->b≠X.env.locals:=fun b o e=>Nat.ne_of_lt (Nat.lt_of_lt_of_le (Heap.lt_size e) I.ok.above)
 have neC: ∀ b o,X.s₀.heap.get? b=some o->b∉X.ex->b∉ch:=fun b o e hx hb=>by
  rcases (hch b hb).1 with z | z
  ·exact hx z
  ·exact absurd (Nat.lt_of_lt_of_le (Heap.lt_size e) z) (Nat.lt_irrefl _)
 have cellK: ∀ x c,X.env.cells.lookup x=some c-> ∀ v,s.heap.IsCell c v->h'.IsCell c v:=fun x c e v ⟨o,ho,hd⟩=>by
  have nch:c∉ch:=fun z=>(hch c z).2.2.1 x c e rfl
  by_cases hc:c∈X.fs
  ·obtain ⟨sl,q⟩:=slot c o (I.cne x c e) hc nch ho (I.freeC x c e)
   exact ⟨_,q,hd⟩
  ·exact ⟨o,keep c o (I.cne x c e) hc nch ho (I.freeC x c e),hd⟩
 refine ⟨I.ok,I.os,hg,⟨fun b o e n hb hx=>?_,fun b o e n hb hx=>?_,fun b o e n hx=>?_,fun b o e hx=>?_,fun b xs e=>tups b xs (I.base.tups b xs e),fun b o xs e=>frzs b o xs (I.base.frzs b o xs e),fun b ps e=>?_⟩,?_,fun x c e=>?_,?_,fun x c e=>?_,fun p hp=>?_,hok,I.len⟩
 ·exact keep b o (neL b o e) hb (neC b o e hx) (I.base.keep b o e n hb hx) (I.base.free b o e n hx)
 ·obtain ⟨sl,e1⟩:=I.base.slot b o e n hb hx
  obtain ⟨sl',e2⟩:=slot b _ (neL b o e) hb (neC b o e hx) e1 (I.base.free b o e n hx)
  exact ⟨sl',e2⟩
 ·obtain ⟨o',e1⟩:=I.base.there b o e hx
  exact free b o' (neC b o e hx) e1 (I.base.free b o e n hx)
 ·obtain ⟨o',e1⟩:=I.base.there b o e hx
  exact there b o' (neC b o e hx) e1
 ·obtain ⟨m1,e1⟩:=I.base.tbls b ps e
  obtain ⟨m2,e2⟩:=tbls b _ e1
  exact ⟨m1++m2,by rw [e2,Array.append_assoc]⟩
 ·obtain ⟨m,hn,hl⟩:=I.loc
  refine ⟨m,ns m hn,fun i x v e1 e2 e3=>?_⟩
  obtain ⟨u,r,l⟩:=hl i x v e1 e2 e3
  refine ⟨u,r,?_⟩
  rcases l with l | ⟨k,c,e,z⟩
  ·exact .inl l
  ·exact .inr ⟨k,c,e,cellK x c e _ z⟩
 ·obtain ⟨v,z⟩:=I.cell x c e
  exact ⟨v,cellK x c e v z⟩
 ·obtain ⟨m,⟨o,_,_,ho,_⟩,_⟩:=I.loc
  exact free _ o (fun z=>(hch _ z).2.1 rfl) ho I.free
 ·obtain ⟨v,o,ho,hd⟩:=I.cell x c e
  exact free c o (fun z=>(hch c z).2.2.1 x c e rfl) ho (I.freeC x c e)
 ·obtain ⟨e,n,ne,nf,d⟩:=I.pin p hp
  have nch:p.1∉ch:=fun z=>(hch p.1 z).2.2.2 p hp rfl
  exact ⟨keep p.1 p.2 ne nf nch e n,free p.1 p.2 nch e n,ne,nf,d⟩
theorem Inv.un {t':Nat} (I:Inv X pins σ H s) (u:Un X.fs [] H H' s.heap h') (hok:HOk X.prog X.w H' h'):Inv X pins σ H' {s with heap:=h',toks:=t'}:=by
 obtain ⟨m,⟨o,es,ep,ho,r⟩,_⟩:=id I.loc
 obtain ⟨sl,hL⟩:=u.any ho I.free (by simp)
 exact I.step (g':=s.gens) (d':=s.drawn) (ch:=[]) (fun _ z=>nomatch z) (fun b o _ hb _ e n=>u.keep b o e n hb (by simp)) (fun b o _ hb _ e n=>u.slot b o e n hb (by simp)) (fun b o _ e n=>u.free b o e n (by simp)) (fun b o _ e=>u.there b o e (by simp)) u.tups u.frzs u.tbls (fun m' hm=>by
  obtain ⟨o',es',ep',ho',r'⟩:=hm
  rw [ho]at ho';cases ho'
  exact ⟨_,es',ep',hL,r'⟩) hok I.bare
theorem Inv.call {g':Array GenState} {t':Nat} {d':Drawn} {ch:List Addr} (I:Inv X pins σ H s) (u:Un (frs X.stack) ch H H' s.heap h') (hok:HOk X.prog X.w H' h') (hg:AllBare g')
  (hch: ∀ b∈ch,(b∈X.ex\/X.s₀.heap.objs.size<=b)/\b≠X.env.locals/\(∀ x c,X.env.cells.lookup x=some c->c≠b)/\ ∀ p∈X.pn++pins,p.1≠b):
  Inv X pins σ H' {s with heap:=h',gens:=g',drawn:=d',toks:=t'}:=by
 obtain ⟨m,⟨o,es,ep,ho,r⟩,_⟩:=id I.loc
 obtain ⟨sl,hL⟩:=u.any ho I.free fun z=>(hch _ z).2.1 rfl
 exact I.step (ch:=ch) hch (fun b o hL hb hc e n=>u.keep b o e n (fun z=>(List.mem_cons.mp (I.stkSub b z)).elim hL hb) hc) (fun b o _ _ hc e n=>u.any e n hc) (fun b o hc e n=>u.free b o e n hc) (fun b o hc e=>u.there b o e hc) u.tups u.frzs u.tbls (fun m' hm=>by
  obtain ⟨o',es',ep',ho',r'⟩:=hm
  rw [ho]at ho';cases ho'
  exact ⟨_,es',ep',hL,r'⟩) hok hg
theorem Inv.turned {t':Nat} {it:Addr} (I:Inv X pins σ H s) (k: ∀ b o,b≠it->s.heap.get? b=some o->h'.get? b=some o) (hn:H it=none) (hL:it≠X.env.locals)
  (h1:it∈X.ex\/X.s₀.heap.objs.size<=it) (h2: ∀ x c,X.env.cells.lookup x=some c->c≠it) (h3: ∀ p∈X.pn++pins,p.1≠it):Inv X pins σ H {s with heap:=h',toks:=t'}:=by
 have nit: ∀ b u,H b=some u->b≠it:=fun b u e z=>by rw [z,hn]at e;cases e
 refine I.step (g':=s.gens) (d':=s.drawn) (ch:=[it]) (fun b hb=>?_) (fun b o _ _ hc e _=>k b o (fun z=>hc (by simp [z])) e) (fun b o _ _ hc e _=>⟨o.slots,k b o (fun z=>hc (by simp [z])) e⟩) (fun _ _ _ _ n=>n)
  (fun b o hc e=>⟨o,k b o (fun z=>hc (by simp [z])) e⟩) (fun _ _ e=>e) (fun _ _ _ e=>e) (fun b ps e=>⟨#[],by rw [e];simp⟩) (fun m hm=>?_) (fun b u e=>?_) I.bare
 ·have e:b=it:=by simpa using hb
  subst e
  exact ⟨h1,hL,h2,h3⟩
 ·obtain ⟨o,es,ep,ho,r⟩:=hm
  exact ⟨o,es,ep,k _ o (Ne.symm hL) ho,r⟩
 ·refine (I.hok b u e).stay (fun c v hc q=>k c v ?_ q) (fun _ q=>q) fun _ _ q=>q
  rcases hc with z | z
  ·rw [z];exact nit b u e
  ·exact nit c _ z
theorem Inv.tok (I:Inv X pins σ H s) (t:Nat):Inv X pins σ H {s with toks:=t}:=I.un (h':=s.heap) (t':=t) Un.refl I.hok
theorem Inv.kept {t':Nat} (I:Inv X pins σ H s) (k: ∀ b u,s.heap.get? b=some u->h'.get? b=some u):Inv X pins σ H {s with heap:=h',toks:=t'}:=I.un (Un.kept k) (I.hok.kept k)
theorem Inv.laid {a:Addr} {o:HO} {t':Nat} (I:Inv X pins σ H s) (k: ∀ b u,s.heap.get? b=some u->h'.get? b=some u) (hp:s.heap.objs.size<=a) (new:ObjOk X.prog X.w (upd H a o) h' a o):
  Inv X pins σ (upd H a o) {s with heap:=h',toks:=t'}:=I.un (Un.laid k hp (I.hok.fresh hp)) (I.hok.laid k hp new)
theorem Inv.write {x e:Addr} {o:HO} {t':Nat} (I:Inv X pins σ H s) (mu:Mut (H x)) (he:e=x\/H e=some (.own x)) (k: ∀ b u,b≠e->s.heap.get? b=some u->h'.get? b=some u) (heo: ∃ u,h'.get? e=some u)
  (new:ObjOk X.prog X.w (upd H x o) h' x o):Inv X pins σ (upd H x o) {s with heap:=h',toks:=t'}:=I.un (Un.write mu he k heo) (I.hok.write mu he k heo new)
theorem Inv.pins_of {pins':List (Addr×Obj)} (I:Inv X pins σ H s) (h: ∀ p∈pins',s.heap.get? p.1=some p.2/\H p.1=none/\p.1≠X.env.locals/\p.1∉X.fs/\ ∀ v,p.2.data≠ .cell v):Inv X pins' σ H s:=
 ⟨I.ok,I.os,I.bare,I.base,I.loc,I.cell,I.free,I.freeC,fun p hp=>(List.mem_append.mp hp).elim (fun z=>I.pin p (List.mem_append_left _ z)) (h p),I.hok,I.len⟩
theorem dD {N:List Str} (hN:N.Nodup) {i j:Nat} {x:Str} (a:N[i]? =some x) (b:N[j]? =some x):i=j:=by
 obtain ⟨h1,e1⟩:=List.getElem?_eq_some_iff.mp a
 obtain ⟨h2,e2⟩:=List.getElem?_eq_some_iff.mp b
 exact (List.getElem_inj hN).mp (e1.trans e2.symm)
theorem fQ {M:Model} {A:Around} {E:Value->Shared->Prop} {i:Nat} {x:Str} {v:V} {u:Value} {Q:Unit->Shared->Prop} (I:Inv X pins σ H s) (hN:X.N.Nodup) (hi:X.N[i]? =some x) (hx:Loc X.env.scope x) (r:RelV v u)
  (h: ∀ s',Inv X pins (σ.set i (some v)) H s'->(∃ a,Heap.SameBut a s.heap s'.heap/\(a=X.env.locals\/X.env.cells.lookup x=some a))->Q () s') (hf:X.fn x=true\/X.env.scope.names.lookup x=some .local:=by first | exact .inl rfl | exact .inr rfl | assumption):wpAny M A (storeName X.env x u) Q E s:=by
 obtain ⟨m,hn,hl⟩:=id I.loc
 have hcls:(X.env.scope.kind== .class||(X.env.scope.kind== .module&&X.env.locals !=X.env.globals))=false:=by rw [I.ok.kind];rfl
 have hiσ:i<σ.length:=by rw [I.len];exact (List.getElem?_eq_some_iff.mp hi).1
 have cne:=I.cne
 have tracked: ∀ {a:Addr} {h':Heap},(∃ o,s.heap.get? a=some o/\H a=none)->Heap.SameBut a s.heap h'->HOk X.prog X.w H h':=fun {a h'} ha hs b ob e=>by
  obtain ⟨_,_,hfree⟩:=ha
  refine (I.hok b ob e).stay (fun c w' hc q=>(hs.2 c ?_).trans q) (fun _ q=>q) fun _ _ q=>q
  rintro rfl
  rcases hc with rfl | hc
  ·rw [hfree]at e;cases e
  ·rw [hfree]at hc;cases hc
 rcases hx with hk | hk
 ·refine wpAny_storeName_local hk hn (fun h' hn' hs=>?_) hcls
  obtain ⟨oL,_,_,hoL,_⟩:=id hn
  refine h _ ⟨I.ok,I.os,I.bare,⟨fun b o e n hb hx=>?_,fun b o e n hb hx=>?_,I.base.free,fun b o e hx=>?_,I.base.tups,I.base.frzs,I.base.tbls⟩,⟨_,hn',fun j y v' e1 e2 e3=>?_⟩,fun y c e=>?_,I.free,I.freeC,fun p hp=>?_,tracked ⟨oL,hoL,I.free⟩ hs,by simpa using I.len⟩ ⟨_,hs,.inl rfl⟩
  ·exact (hs.2 b (Nat.ne_of_lt (Nat.lt_of_lt_of_le (Heap.lt_size e) I.ok.above))).trans (I.base.keep b o e n hb hx)
  ·obtain ⟨sl,e1⟩:=I.base.slot b o e n hb hx
   exact ⟨sl,(hs.2 b (Nat.ne_of_lt (Nat.lt_of_lt_of_le (Heap.lt_size e) I.ok.above))).trans e1⟩
  ·obtain ⟨o',e1⟩:=I.base.there b o e hx
   exact ⟨o',(hs.2 b (Nat.ne_of_lt (Nat.lt_of_lt_of_le (Heap.lt_size e) I.ok.above))).trans e1⟩
  ·by_cases hj:j=i
   ·subst hj
    rw [hi]at e1;cases e1
    rw [List.getElem?_set_self hiσ]at e2
    cases e2
    exact ⟨u,r,.inl ⟨hk,by simp⟩⟩
   ·rw [List.getElem?_set_ne (Ne.symm hj)]at e2
    obtain ⟨u',r',q⟩:=hl j y v' e1 e2 e3
    refine ⟨u',r',?_⟩
    rcases q with ⟨k,e⟩ | ⟨k,c,e,z⟩
    ·refine .inl ⟨k,?_⟩
     have:y≠x:=fun e=>hj (dD hN e1 (e▸hi))
     simp [this,e]
    ·exact .inr ⟨k,c,e,z.sameBut hs (cne y c e)⟩
  ·obtain ⟨w',z⟩:=I.cell y c e
   exact ⟨w',z.sameBut hs (cne y c e)⟩
  ·obtain ⟨e,n,ne,nf,d⟩:=I.pin p hp
   exact ⟨(hs.2 p.1 ne).trans e,n,ne,nf,d⟩
 ·have hfn:X.fn x=true:=by
   rcases hf with z | z
   ·exact z
   ·rw [z]at hk;cases hk
  obtain ⟨c,hc⟩:=I.ok.has x (.inl hk)
  obtain ⟨w',z⟩:=I.cell x c hc
  refine wpAny_storeName_cell I.ok.kind hk hc z (fun h' hc' hs=>?_)
  obtain ⟨oc,hoc,hocd⟩:=id z
  refine h {s with heap:=h'} ⟨I.ok,I.os,I.bare,⟨fun b o e n hb hx=>?_,fun b o e n hb hx=>?_,I.base.free,fun b o e hx=>?_,I.base.tups,I.base.frzs,I.base.tbls⟩,⟨m,hn.sameBut hs (Ne.symm (cne x c hc)),fun j y v' e1 e2 e3=>?_⟩,fun y c' e=>?_,I.free,I.freeC,fun p hp=>?_,tracked ⟨oc,hoc,I.freeC x c hc⟩ hs,by simpa using I.len⟩ ⟨c,hs,.inr hc⟩
  ·exact (hs.2 b (Nat.ne_of_lt (Nat.lt_of_lt_of_le (Heap.lt_size e) (I.ok.cab x c hfn hc)))).trans (I.base.keep b o e n hb hx)
  ·obtain ⟨sl,e1⟩:=I.base.slot b o e n hb hx
   exact ⟨sl,(hs.2 b (Nat.ne_of_lt (Nat.lt_of_lt_of_le (Heap.lt_size e) (I.ok.cab x c hfn hc)))).trans e1⟩
  ·obtain ⟨o',e1⟩:=I.base.there b o e hx
   exact ⟨o',(hs.2 b (Nat.ne_of_lt (Nat.lt_of_lt_of_le (Heap.lt_size e) (I.ok.cab x c hfn hc)))).trans e1⟩
  ·by_cases hj:j=i
   ·subst hj
    rw [hi]at e1;cases e1
    rw [List.getElem?_set_self hiσ]at e2
    cases e2
    exact ⟨u,r,.inr ⟨.inl hk,c,hc,hc'⟩⟩
   ·rw [List.getElem?_set_ne (Ne.symm hj)]at e2
    obtain ⟨u',r',q⟩:=hl j y v' e1 e2 e3
    refine ⟨u',r',?_⟩
    rcases q with q | ⟨k,c',e,z'⟩
    ·exact .inl q
    ·refine .inr ⟨k,c',e,z'.sameBut hs ?_⟩
     rintro rfl
     exact hj (dD hN e1 (I.ok.inj _ _ _ e hc▸hi))
  ·by_cases hcc:c'=c
   ·subst hcc;exact ⟨_,hc'⟩
   ·obtain ⟨w2,z2⟩:=I.cell y c' e
    exact ⟨w2,z2.sameBut hs hcc⟩
  ·obtain ⟨e,n,ne,nf,d⟩:=I.pin p hp
   refine ⟨(hs.2 p.1 ?_).trans e,n,ne,nf,d⟩
   intro q
   rw [q,hoc]at e
   have q':oc=p.2:=Option.some.inj e
   exact d w' (by rw [<- q'];exact hocd)
theorem fj {M:Model} {A:Around} {E:Value->Shared->Prop} {i:Nat} {x:Str} {v:V} {u:Value} {Q:Unit->Shared->Prop} (I:Inv X pins σ H s) (hN:X.N.Nodup) (hi:X.N[i]? =some x) (hx:Loc X.env.scope x) (r:RelV v u)
  (h: ∀ s',Inv X pins (σ.set i (some v)) H s'->Q () s') (hf:X.fn x=true\/X.env.scope.names.lookup x=some .local:=by first | exact .inl rfl | exact .inr rfl | assumption):wpAny M A (storeName X.env x u) Q E s:=
 fQ I hN hi hx r (fun s' I' _=>h s' I') hf
theorem Inv.call' {s':Shared} {ch:List Addr} (I:Inv X pins σ H s) (ho:s'.os=s.os) (u:Un (frs X.stack) ch H H' s.heap s'.heap) (hok:HOk X.prog X.w H' s'.heap) (hg:AllBare s'.gens)
  (hch: ∀ b∈ch,(b∈X.ex\/X.s₀.heap.objs.size<=b)/\b≠X.env.locals/\(∀ x c,X.env.cells.lookup x=some c->c≠b)/\ ∀ p∈X.pn++pins,p.1≠b):Inv X pins σ H' s':=by
 obtain ⟨h',g',d',t',o'⟩:=s'
 have e:o'=s.os:=ho
 subst e
 exact I.call (g':=g') (t':=t') (d':=d') u hok hg hch
end
noncomputable abbrev XK:=Value->Option Addr->Hp->Prop
noncomputable abbrev St:=List (Option V)
noncomputable abbrev VK:=V->Hp->Prop
noncomputable abbrev TE:=St->Hp->VK->Prop
noncomputable abbrev TT:=St->Hp->(Bool->Hp->Prop)->Prop
noncomputable abbrev TA:=St->Hp->(List V->Hp->Prop)->Prop
structure eP where
 nx:St->Hp->Prop
 rt:VK
 bk:St->Hp->Prop:=fun _ _=>False
 ct:St->Hp->Prop:=fun _ _=>False
noncomputable abbrev TS:=eP->St->Hp->Prop
noncomputable def EP (X:Cx) (pins:List (Addr×Obj)) (σ:St) (Q:VK) (u:Value) (s':Shared):Prop:= ∃ v H',Inv X pins σ H' s'/\RelV v u/\Q v H'
noncomputable def TP (X:Cx) (pins:List (Addr×Obj)) (σ:St) (Q:Bool->Hp->Prop) (b:Bool) (s':Shared):Prop:= ∃ H',Inv X pins σ H' s'/\Q b H'
noncomputable def AP (X:Cx) (pins:List (Addr×Obj)) (σ:St) (Q:List V->Hp->Prop) (us:List Value) (s':Shared):Prop:= ∃ vs H',Inv X pins σ H' s'/\Vals vs us/\Q vs H'
noncomputable def SP (X:Cx) (pins:List (Addr×Obj)) (D:eP) (f:Flow) (s':Shared):Prop:=
 match f with
 | .next=> ∃ σ' H',Inv X pins σ' H' s'/\D.nx σ' H'
 | .brk=> ∃ σ' H',Inv X pins σ' H' s'/\D.bk σ' H'
 | .cont=> ∃ σ' H',Inv X pins σ' H' s'/\D.ct σ' H'
 | .ret u=> ∃ v σ' H',Inv X pins σ' H' s'/\RelV v u/\D.rt v H'
noncomputable def PE (X:Cx) (e:Expr) (t:TE):Prop:=
 ∀ (pins:List (Addr×Obj)) (s:Shared) (σ:St) (H:Hp) (Q:VK),Inv X pins σ H s->t σ H Q->wpAny (model X.prog X.w) X.A (eval e X.env) (EP X pins σ Q) X.xe s
noncomputable def PT (X:Cx) (e:Expr) (t:TT):Prop:=
 ∀ (pins:List (Addr×Obj)) (s:Shared) (σ:St) (H:Hp) (Q:Bool->Hp->Prop),Inv X pins σ H s->t σ H Q->wpAny (model X.prog X.w) X.A (isTrue e X.env (eval e X.env)) (TP X pins σ Q) X.xe s
noncomputable def PW (X:Cx) (e:Expr) (t:TT):Prop:=
 ∀ (whole:Sem Value) (pins:List (Addr×Obj)) (s:Shared) (σ:St) (H:Hp) (Q:Bool->Hp->Prop),Inv X pins σ H s->t σ H Q->wpAny (model X.prog X.w) X.A (isTrue e X.env whole) (TP X pins σ Q) X.xe s
theorem PW.pt {X:Cx} {e:Expr} {t:TT} (h:PW X e t):PT X e t:=h _
noncomputable def PA (X:Cx) (es:List Expr) (t:TA):Prop:=
 ∀ (pos:Pos) (pins:List (Addr×Obj)) (s:Shared) (σ:St) (H:Hp) (Q:List V->Hp->Prop),Inv X pins σ H s->t σ H Q->wpAny (model X.prog X.w) X.A (spliced (backTo pos (starEach es X.env))) (AP X pins σ Q) X.xe s
noncomputable def PS (X:Cx) (st:Stmt) (t:TS):Prop:=
 ∀ (pins:List (Addr×Obj)) (s:Shared) (σ:St) (H:Hp) (D:eP),Inv X pins σ H s->t D σ H->wpAny (model X.prog X.w) X.A (exec st X.env) (SP X pins D) X.xe s
noncomputable def PSs (X:Cx) (st:List Stmt) (t:TS):Prop:=
 ∀ (pins:List (Addr×Obj)) (s:Shared) (σ:St) (H:Hp) (D:eP),Inv X pins σ H s->t D σ H->wpAny (model X.prog X.w) X.A (execs st X.env) (SP X pins D) X.xe s
theorem thn {α:Type} {t:Sem α} {Q Q':α->Shared->Prop} {M:Model} {A:Around} {E:Value->Shared->Prop} {s:Shared} (h:wpAny M A t Q E s) (hQ: ∀ a s,Q a s->Q' a s):wpAny M A t Q' E s:=wpAny_mono h hQ fun _ _ x=>x
section
variable {X:Cx}
noncomputable def qD (i:Nat):TE:=fun σ H Q=> ∃ v,σ[i]? =some (some v)/\Q v H
noncomputable def tC (v:V):TE:=fun _ H Q=>Q v H
theorem sM {i:Nat} {x:Str} {pos:Pos} (hN:X.N[i]? =some x) (hv:Vis X.env.scope x) (hd:(x==("__debug__":Str))=false:=by decide) (hcd:(x==("__classdict__":Str))=false:=by decide):PE X (.Name x pos) (qD i):=by
 intro pins s σ H Q I h
 obtain ⟨v,e,h⟩:=h
 obtain ⟨m,hn,hl⟩:=I.loc
 obtain ⟨u,r,l⟩:=hl i x v hN e hv
 have fin:EP X pins σ Q u s:=⟨v,H,I,r,h⟩
 rcases l with ⟨hk,hm⟩ | ⟨hk,c,hc,hcell⟩
 ·exact wpAny_Name (wpAny_loadName_local I.ok.kind hk hn hm fin) hd
 ·rcases hk with hk | hk
  ·exact wpAny_Name (wpAny_loadName_cell I.ok.kind hk hc hcell fin) hd
  ·exact wpAny_Name (wpAny_loadName_free I.ok.kind hk hc hcell fin hcd) hd
theorem ag {i j pos}:PE X (.Constant (.int i) j pos) (tC (.int i)):=fun _ _ _ H _ I h=>wpAny_Constant_int ⟨.int i,H,I.tok _,⟨_,rfl⟩,h⟩
theorem iY {b j pos}:PE X (.Constant (.bool b) j pos) (tC (.bl b)):=fun _ _ _ H _ I h=>Constant_bool ⟨.bl b,H,I,rfl,h⟩
theorem cP {j pos}:PE X (.Constant .none j pos) (tC .non):=fun _ _ _ H _ I h=>Constant_none ⟨.non,H,I,rfl,h⟩
theorem bx {x j pos}:PE X (.Constant (.str x) j pos) (tC (.str x)):=fun _ _ _ H _ I h=>Calls.Constant_str ⟨.str x,H,I.tok _,⟨_,rfl⟩,h⟩
noncomputable def Gl (X:Cx) (x:Str):Prop:=X.env.kindOf x=some .globalImplicit
theorem fF {E:Value->Shared->Prop} {pins:List (Addr×Obj)} {s:Shared} {σ:St} {H:Hp} {x:Str} {u:Value} {pos:Pos} {Q:Value->Shared->Prop} (I:Inv X pins σ H s) (hg:Gl X x) (hm:X.mg x=some u) (h:Q u s)
  (hd:(x==("__debug__":Str))=false:=by decide):wpAny (model X.prog X.w) X.A (eval (.Name x pos) X.env) Q E s:=
 Calls.Name_function_global I.ok.kind hg (Calls.loadGlobal_global (by rw [I.ok.glob];exact I.mod.glob.keeps I.bk) hm h) hd
theorem dN {E:Value->Shared->Prop} {pins:List (Addr×Obj)} {s:Shared} {σ:St} {H:Hp} {x:Str} {u:Value} {pos:Pos} {Q:Value->Shared->Prop} (I:Inv X pins σ H s) (hg:Gl X x) (hm:X.mg x=none) (hv:bootBuiltins x=some u) (h:Q u s)
  (hn:x≠"__name__":=by decide) (hd:(x==("__debug__":Str))=false:=by decide):wpAny (model X.prog X.w) X.A (eval (.Name x pos) X.env) Q E s:=by
 obtain ⟨mb,h1,h2⟩:=I.mod.blt
 exact Calls.Name_function_global I.ok.kind hg (Calls.loadGlobal_builtin (by rw [I.ok.glob];exact I.mod.glob.keeps I.bk) hm (by rw [I.ok.blt];exact h1.keeps I.bk) ((h2 x hn).trans hv) h) hd
theorem be {x:Str} {v:V} {u:Value} {pos:Pos} (hg:Gl X x) (hm:X.mg x=some u) (r:RelV v u) (hd:(x==("__debug__":Str))=false:=by decide):PE X (.Name x pos) (tC v):=
 fun _ _ _ H _ I h=>fF I hg hm ⟨v,H,I,r,h⟩ hd
theorem bh {x:Str} {v:V} {u:Value} {pos:Pos} (hg:Gl X x) (hm:X.mg x=none) (hv:bootBuiltins x=some u) (r:RelV v u) (hn:x≠"__name__":=by decide) (hd:(x==("__debug__":Str))=false:=by decide):PE X (.Name x pos) (tC v):=
 fun _ _ _ H _ I h=>dN I hg hm hv ⟨v,H,I,r,h⟩ hn hd
variable {a b:Expr} {ta tb:TE} {pos:Pos}
noncomputable def PC (X:Cx) (op:CmpOp) (a b:Expr) (t:TE):Prop:=
 ∀ (pins:List (Addr×Obj)) (s:Shared) (σ:St) (H:Hp) (Q:VK),Inv X pins σ H s->t σ H Q->
  wpAny (model X.prog X.w) X.A (eval a X.env) (fun v s₁=>wpAny (model X.prog X.w) X.A (eval b X.env) (fun u s₂=>wpAny (model X.prog X.w) X.A (compareOp op v u) (EP X pins σ Q) X.xe s₂) X.xe s₁) X.xe s
noncomputable def tB (t:TE):TT:=fun σ H Q=>t σ H fun x H1=> ∃ c,x=.bl c/\Q c H1
theorem lG {op:CmpOp} {t:TE} (h:PC X op a b t) (h1:behindInMarks op b=false:=by first | exact nobehind _ (by decide) (by decide) | rfl):PE X (.Compare a [op] [b] pos) t:=fun pins s σ H Q I hw=>wpAny_Compare1 (h pins s σ H Q I hw) h1
theorem lC {op:CmpOp} {t:TE} (h:PC X op a b t) (h1:behindInMarks op b=false:=by first | exact nobehind _ (by decide) (by decide) | rfl):PT X (.Compare a [op] [b] pos) (tB t):=by
 intro pins s σ H Q I hw
 refine wpAny_isTrue_Compare1 (thn (h pins s σ H _ I hw) fun v s1 h1=>thn h1 fun u s2 h2=>thn h2 fun c s3 ⟨x,H1,I1,r1,q1⟩=>?_) h1
 obtain ⟨d,rfl,q⟩:=q1
 cases r1
 exact wpAny_truthy_bool ⟨H1,I1,q⟩
theorem cc {e:Expr} {t:TE} (h:PE X e t) (he: ∀ whole,isTrue e X.env whole=(do let v <- whole;standAt e.pos;holding [v] (truthy v)):=by intro _;rfl):PT X e (tB t):=by
 intro pins s σ H Q I hw
 refine isTrue_plain (thn (h pins s σ H _ I hw) fun v s1 ⟨x,H1,I1,r1,q1⟩=>?_) (he _)
 obtain ⟨d,rfl,q⟩:=q1
 cases r1
 exact wpAny_truthy_bool ⟨H1,I1,q⟩
variable {tA tB':TT} {rest:List Expr}
noncomputable def u6 (t u:TT):TT:=fun σ H Q=>t σ H fun c H1=>if c=true then u σ H1 Q else Q false H1
noncomputable def tOr (t u:TT):TT:=fun σ H Q=>t σ H fun c H1=>if c=true then Q true H1 else u σ H1 Q
noncomputable def uZ (t:TT):TT:=fun σ H Q=>t σ H fun c H1=>Q (!c) H1
theorem dl (ha:PT X a tA):PW X (.BoolOp .And [a] pos) tA:=by
 intro wh pins s σ H Q I h
 refine isTrue_and (thn (ha pins s σ H Q I h) fun c s1 e=>?_)
 cases c with
 | true=>exact isTrue_and_nil e
 | false=>exact e
theorem el (ha:PT X a tA):PW X (.BoolOp .Or [a] pos) tA:=by
 intro wh pins s σ H Q I h
 refine isTrue_or (thn (ha pins s σ H Q I h) fun c s1 e=>?_)
 cases c with
 | false=>exact isTrue_or_nil e
 | true=>exact e
theorem er (ha:PT X a tA) (hb:PW X (.BoolOp .And (b::rest) pos) tB'):PW X (.BoolOp .And (a::b::rest) pos) (u6 tA tB'):=by
 intro wh pins s σ H Q I h
 refine isTrue_and (thn (ha pins s σ H _ I h) fun c s1 ⟨H1,I1,q1⟩=>?_)
 cases c with
 | true=>exact hb wh pins s1 σ H1 Q I1 q1
 | false=>exact ⟨H1,I1,q1⟩
theorem dQ (ha:PT X a tA) (hb:PW X (.BoolOp .Or (b::rest) pos) tB'):PW X (.BoolOp .Or (a::b::rest) pos) (tOr tA tB'):=by
 intro wh pins s σ H Q I h
 refine isTrue_or (thn (ha pins s σ H _ I h) fun c s1 ⟨H1,I1,q1⟩=>?_)
 cases c with
 | true=>exact ⟨H1,I1,q1⟩
 | false=>exact hb wh pins s1 σ H1 Q I1 q1
theorem cZ (ha:PT X a tA):PT X (.UnaryOp .Not a pos) (uZ tA):=by
 intro pins s σ H Q I h
 exact isTrue_not (ha pins s σ H (fun c H1=>Q (!c) H1) I h)
noncomputable def ud (ta tb:TE):TE:=fun σ H Q=>ta σ H fun x H1=> ∃ c,x=.bl c/\if c=true then tb σ H1 Q else Q (.bl false) H1
noncomputable def tV (ta:TE):TE:=fun σ H Q=>ta σ H fun x H1=> ∃ c,x=.bl c/\Q (.bl (!c)) H1
theorem eX {op} {t:TE} (h:PE X a t):PE X (.BoolOp op [a] pos) t:=fun pins s σ H Q I hw=>BoolOp_one (h pins s σ H Q I hw)
theorem eY (ha:PE X a ta) (hb:PE X (.BoolOp .And (b::rest) pos) tb):PE X (.BoolOp .And (a::b::rest) pos) (ud ta tb):=by
 intro pins s σ H Q I h
 refine BoolOp_and (thn (ha pins s σ H _ I h) fun v s1 ⟨x,H1,I1,r1,q1⟩=>?_)
 obtain ⟨c,rfl,q1⟩:=q1
 cases r1
 refine wpAny_truthy_bool ?_
 cases c with
 | true=>exact hb pins s1 σ H1 Q I1 q1
 | false=>exact ⟨.bl false,H1,I1,rfl,q1⟩
theorem sN (ha:PE X a ta):PE X (.UnaryOp .Not a pos) (tV ta):=by
 intro pins s σ H Q I h
 refine UnaryOp_ (thn (ha pins s σ H _ I h) fun v s1 ⟨x,H1,I1,r1,q1⟩=>?_)
 obtain ⟨c,rfl,q1⟩:=q1
 cases r1
 exact not_of (wpAny_truthy_bool ⟨.bl (!c),H1,I1,rfl,q1⟩)
noncomputable def tIf (t:TT) (ta tb:TE):TE:=fun σ H Q=>t σ H fun c H1=>if c=true then ta σ H1 Q else tb σ H1 Q
theorem pC {c:Expr} (hc:PT X c tA) (ha:PE X a ta) (hb:PE X b tb):PE X (.IfExp c a b pos) (tIf tA ta tb):=by
 intro pins s σ H Q I h
 refine wpAny_IfExp (thn (hc pins s σ H _ I h) fun d s1 ⟨H1,I1,q1⟩=>?_)
 cases d with
 | true=>exact ha pins s1 σ H1 Q I1 q1
 | false=>exact hb pins s1 σ H1 Q I1 q1
end
noncomputable def SqL (K:PySem.W.Frag) (H:Hp) (a:Addr) (xs:List V):Prop:=
 Rd H a (.lst xs)\/
  ∃ (o:Obj) (its:Array Value) (n:Nat),K.lookup a=some o/\o.cls=.type "list"/\o.dict=none/\o.data=.seq its n/\its.size<=sizeLine/\Vals xs its.toList
noncomputable def SqT (K:PySem.W.Frag) (H:Hp) (a:Addr) (xs:List V):Prop:=
 Rd H a (.tup xs)\/
  ∃ (o:Obj) (its:Array Value) (n:Nat),K.lookup a=some o/\o.cls=.type "tuple"/\o.data=.seq its n/\its.size<=sizeLine/\Vals xs its.toList
noncomputable def vE:Value->Option V
 | .none=>some .non
 | .bool b=>some (.bl b)
 | .int i _=>some (.int i)
 | .str x _=>some (.str x)
 | .bytes b _=>some (.byt b)
 | .float b _=>some (.flt b)
 | .ref a=>some (.ref a)
 | .type n=>some (.ty n)
 | _=>none
theorem RelV.abs {x:V} {u:Value} (r:RelV x u):vE u=some x:=by
 cases x with
 | non=>cases r;rfl
 | bl _=>cases r;rfl
 | int _=>obtain ⟨t,rfl⟩:=r;rfl
 | str _=>obtain ⟨t,rfl⟩:=r;rfl
 | byt _=>obtain ⟨t,rfl⟩:=r;rfl
 | flt _=>obtain ⟨t,rfl⟩:=r;rfl
 | ref _=>cases r;rfl
 | ty _=>cases r;rfl
theorem RelV.inj {x y:V} {u:Value} (r:RelV x u) (q:RelV y u):x=y:=Option.some.inj (r.abs.symm.trans q.abs)
theorem Vals.inj: ∀ {xs ys:List V} {us:List Value},Vals xs us->Vals ys us->xs=ys
 | _,_,_,.nil,.nil=>rfl
 | _,_,_,.cons r t,.cons r' t'=>by rw [r.inj r',Vals.inj t t']
section
variable {X:Cx} {pins:List (Addr×Obj)} {σ:St} {H:Hp} {s:Shared} {a:Addr} {xs ys:List V}
theorem SqL.of {K:PySem.W.Frag} (h:H a=some (.lst xs)):SqL K H a xs:=.inl (.inl h)
theorem SqT.of {K:PySem.W.Frag} (h:H a=some (.tup xs)):SqT K H a xs:=.inl (.inl h)
theorem Inv.list (I:Inv X pins σ H s) (h:SqL X.K H a xs): ∃ its:List Value,Vals xs its/\PlainL s.heap a its.toArray/\xs.length<=sizeLine:=by
 rcases h with h | ⟨o,its,n,hk,hc,hd,hs,hz,r⟩
 ·obtain ⟨z,its,n,r,e⟩:=h.ok I.hok
  exact ⟨its,r,⟨_,n,e,rfl,rfl,rfl⟩,z⟩
 ·refine ⟨its.toList,r,⟨o,n,I.kIn a o hk,hc,hd,by simpa using hs⟩,?_⟩
  have e:=r.length
  simp only [Array.length_toList]at e
  omega
theorem Inv.tuple (I:Inv X pins σ H s) (h:SqT X.K H a xs): ∃ its:List Value,Vals xs its/\IsTup s.heap a its.toArray/\xs.length<=sizeLine:=by
 rcases h with h | ⟨o,its,n,hk,hc,hs,hz,r⟩
 ·obtain ⟨z,its,r,p⟩:=h.ok I.hok
  exact ⟨its,r,p,z⟩
 ·refine ⟨its.toList,r,⟨o,I.kIn a o hk,hc,n,by simpa using hs⟩,?_⟩
  have e:=r.length
  simp only [Array.length_toList]at e
  omega
theorem Inv.list_inj (I:Inv X pins σ H s) (h:SqL X.K H a xs) (h':SqL X.K H a ys):xs=ys:=by
 obtain ⟨its,r,⟨o,n,e,_,_,d⟩,_⟩:=I.list h
 obtain ⟨its',r',⟨o',n',e',_,_,d'⟩,_⟩:=I.list h'
 rw [e]at e';cases e'
 rw [d]at d'
 injection d' with d1 _
 have:its=its':=by simpa using congrArg Array.toList d1
 subst this
 exact r.inj r'
theorem Inv.tuple_inj (I:Inv X pins σ H s) (h:SqT X.K H a xs) (h':SqT X.K H a ys):xs=ys:=by
 obtain ⟨its,r,⟨o,e,_,n,d⟩,_⟩:=I.tuple h
 obtain ⟨its',r',⟨o',e',_,n',d'⟩,_⟩:=I.tuple h'
 rw [e]at e';cases e'
 rw [d]at d'
 injection d' with d1 _
 have:its=its':=by simpa using congrArg Array.toList d1
 subst this
 exact r.inj r'
end
noncomputable abbrev Cx.wish (X:Cx) (E:Value->Shared->Prop):Cx:={X with xe:=E}
noncomputable abbrev Cx.nox (X:Cx):Cx:=X.wish fun _ _=>False
theorem Cx.Ok.wish {X:Cx} (ok:X.Ok) (E:Value->Shared->Prop):(X.wish E).Ok:=
 ⟨ok.mod,ok.kind,ok.glob,ok.blt,ok.above,ok.inj,ok.has,ok.cab,ok.hd,ok.frames,ok.stk,ok.exf,ok.bs,ok.bsz,ok.noex,ok.exfs,ok.funs,ok.frf⟩
theorem Cx.Ok.unwish {X:Cx} {E:Value->Shared->Prop} (ok:(X.wish E).Ok):X.Ok:=
 ⟨ok.mod,ok.kind,ok.glob,ok.blt,ok.above,ok.inj,ok.has,ok.cab,ok.hd,ok.frames,ok.stk,ok.exf,ok.bs,ok.bsz,ok.noex,ok.exfs,ok.funs,ok.frf⟩
section
variable {X:Cx} {pins:List (Addr×Obj)} {σ:St} {H:Hp} {s:Shared} {E:Value->Shared->Prop}
theorem Inv.wish (I:Inv X pins σ H s) (E:Value->Shared->Prop):Inv (X.wish E) pins σ H s:=⟨I.ok.wish E,I.os,I.bare,I.base,I.loc,I.cell,I.free,I.freeC,I.pin,I.hok,I.len⟩
theorem Inv.unwish (I:Inv (X.wish E) pins σ H s):Inv X pins σ H s:=⟨I.ok.unwish,I.os,I.bare,I.base,I.loc,I.cell,I.free,I.freeC,I.pin,I.hok,I.len⟩
theorem SP.unwish {D:eP} {f:Flow} {s':Shared} (h:SP (X.wish E) pins D f s'):SP X pins D f s':=by
 cases f with
 | next=>obtain ⟨σ',H',I,q⟩:=h;exact ⟨σ',H',I.unwish,q⟩
 | brk=>obtain ⟨σ',H',I,q⟩:=h;exact ⟨σ',H',I.unwish,q⟩
 | cont=>obtain ⟨σ',H',I,q⟩:=h;exact ⟨σ',H',I.unwish,q⟩
 | ret u=>obtain ⟨v,σ',H',I,r,q⟩:=h;exact ⟨v,σ',H',I.unwish,r,q⟩
theorem PSs.nox {st:List Stmt} {t:TS} (h:PSs X.nox st t):PSs X st t:=fun pins s σ H D I hw=>
 wpAny_mono (h pins s σ H D (I.wish _) hw) (fun _ _ q=>q.unwish) fun _ _ z=>False.elim z
end
section
variable {X:Cx} {st:Stmt} {rest:List Stmt} {t u:TS} {e:Expr} {te:TE} {pos:Pos}
noncomputable def tX:TS:=fun D σ H=>D.nx σ H
noncomputable def uX (t u:TS):TS:=fun D σ H=>t {D with nx:=u D} σ H
theorem aM:PSs X [] tX:=fun _ _ σ H _ I h=>wpAny_execs_nil ⟨σ,H,I,h⟩
theorem af (h1:PS X st t) (h2:PSs X rest u):PSs X (st::rest) (uX t u):=by
 intro pins s σ H D I h
 refine wpAny_execs_cons (thn (h1 pins s σ H {D with nx:=u D} I h) fun f s1 q=>?_)
 cases f with
 | next=>
  obtain ⟨σ',H',I',q⟩:=q
  exact h2 pins s1 σ' H' D I' q
 | ret v=>exact q
 | brk=>exact q
 | cont=>exact q
theorem al (h1:PS X st t):PSs X [st] t:=by
 intro pins s σ H D I h
 refine wpAny_execs_cons (thn (h1 pins s σ H D I h) fun f s1 q=>?_)
 cases f with
 | next=>exact wpAny_execs_nil q
 | ret v=>exact q
 | brk=>exact q
 | cont=>exact q
theorem Inv.quiet {pins:List (Addr×Obj)} {σ:St} {H:Hp} {s:Shared} (I:Inv X pins σ H s):interactive X.env=false:=by simp [interactive,I.ok.kind]
noncomputable def ua (te:TE):TS:=fun D σ H=>te σ H fun _ H1=>D.nx σ H1
theorem dn (he:PE X e te) (hs:swapsWith e none pos.line X.env=pure false:=by rfl):PS X (.Expr e pos) (ua te):=by
 intro pins s σ H D I h
 exact wpAny_Expr_any (thn (he pins s σ H _ I h) fun v s1 ⟨x,H1,I1,r1,q1⟩=>⟨σ,H1,I1,q1⟩) I.quiet hs
noncomputable def uY (te:TE):TS:=fun D σ H=>te σ H D.rt
theorem aJ (he:PE X e te):PS X (.Return (some e) pos) (uY te):=by
 intro pins s σ H D I h
 exact wpAny_Return_some (thn (he pins s σ H _ I h) fun v s1 ⟨x,H1,I1,r1,q1⟩=>⟨x,σ,H1,I1,r1,q1⟩)
noncomputable def u0 (c:TT) (t u:TS):TS:=fun D σ H=>c σ H fun b H1=>if b=true then t D σ H1 else u D σ H1
theorem aW {c:Expr} {a b:List Stmt} {tc:TT} (hc:PT X c tc) (ha:PSs X a t) (hb:PSs X b u):PS X (.If c a b pos) (u0 tc t u):=by
 intro pins s σ H D I h
 refine wpAny_If (thn (hc pins s σ H _ I h) fun d s1 ⟨H1,I1,q1⟩=>?_)
 cases d with
 | true=>exact ha pins s1 σ H1 D I1 q1
 | false=>exact hb pins s1 σ H1 D I1 q1
noncomputable def su:TS:=fun _ _ _=>False
theorem cu {sts:List Stmt}:PSs X sts su:=fun _ _ _ _ _ _ h=>h.elim
end
noncomputable abbrev TG:=V->St->Hp->(St->Hp->Prop)->Prop
noncomputable abbrev TGs:=List V->St->Hp->(St->Hp->Prop)->Prop
noncomputable def PG (X:Cx) (target:Expr) (t:TG):Prop:=
 ∀ (pins:List (Addr×Obj)) (s:Shared) (σ:St) (H:Hp) (v:V) (u:Value) (Q:St->Hp->Prop),Inv X pins σ H s->RelV v u->t v σ H Q->
  wpAny (model X.prog X.w) X.A (assign target X.env u) (fun _ s'=> ∃ σ' H',Inv X pins σ' H' s'/\Q σ' H') X.xe s
noncomputable def PGs (X:Cx) (ts:List Expr) (t:TGs):Prop:=
 ∀ (pins:List (Addr×Obj)) (s:Shared) (σ:St) (H:Hp) (vs:List V) (us:List Value) (Q:St->Hp->Prop),Inv X pins σ H s->Vals vs us->t vs σ H Q->
  wpAny (model X.prog X.w) X.A (assignInOrder ((assignEach ts X.env).map (·.2)) us) (fun _ s'=> ∃ σ' H',Inv X pins σ' H' s'/\Q σ' H') X.xe s
noncomputable abbrev tN:=V->V->V->Hp->(Hp->Prop)->Prop
noncomputable def uP (X:Cx) (t:tN):Prop:=
 ∀ (pins:List (Addr×Obj)) (s:Shared) (σ:St) (H:Hp) (o i v:V) (ov iv u:Value) (Q:Hp->Prop),Inv X pins σ H s->RelV o ov->RelV i iv->RelV v u->t o i v H Q->
  wpAny (model X.prog X.w) X.A (setItem ov iv u) (fun _ s'=> ∃ H',Inv X pins σ H' s'/\Q H') X.xe s
section
variable {X:Cx} {pos:Pos}
noncomputable def fH (i:Nat):TG:=fun v σ H Q=>Q (σ.set i (some v)) H
theorem aL {i:Nat} {x:Str} (hN:X.N.Nodup) (hi:X.N[i]? =some x) (hx:Loc X.env.scope x) (hf:X.fn x=true\/X.env.scope.names.lookup x=some .local:=by first | exact .inl rfl | exact .inr rfl | assumption):PG X (.Name x pos) (fH i):=by
 intro pins s σ H v u Q I r h
 exact wpAny_assign_Name (fj I hN hi hx r (fun s' I'=>⟨_,H,I',h⟩) hf)
noncomputable def uL:TGs:=fun vs σ H Q=>vs=[]/\Q σ H
noncomputable def qd (t:TG) (u:TGs):TGs:=fun vs σ H Q=> ∃ v r,vs=v::r/\t v σ H fun σ' H'=>u r σ' H' Q
theorem dL:PGs X [] uL:=by
 intro pins s σ H vs us Q I r h
 obtain ⟨e,h⟩:=h
 subst e
 cases r
 exact assignInOrder_nil ⟨σ,H,I,h⟩
theorem aT {e:Expr} {es:List Expr} {t:TG} {u:TGs} (h1:PG X e t) (h2:PGs X es u)
  (hs:(assignEach (e::es) X.env).map (·.2)=assign e X.env::(assignEach es X.env).map (·.2):=by rfl):PGs X (e::es) (qd t u):=by
 intro pins s σ H vs us Q I r h
 obtain ⟨v,vr,e1,h⟩:=h
 subst e1
 cases r with
 | cons r rr=>
  rw [hs]
  refine assignInOrder_cons (thn (h1 pins s σ H _ _ _ I r h) fun _ s1 ⟨σ1,H1,I1,q1⟩=>?_)
  exact h2 pins s1 σ1 H1 _ _ Q I1 rr q1
noncomputable def uK (K:PySem.W.Frag) (n:Nat) (t:TGs):TG:=fun v σ H Q=> ∃ a xs,v=.ref a/\SqT K H a xs/\xs.length=n/\t xs σ H Q
theorem eW {es:List Expr} {k:Nat} {t:TGs} {n:Nat} (hc:X.calm=true) (h:PGs X es t)
  (hn:(assignEach es X.env).length=n:=by rfl) (hst:(assignEach es X.env).findIdx? (·.1)=none:=by rfl):PG X (.Tuple es k pos) (uK X.K n t):=by
 intro pins s σ H v u Q I r hw
 obtain ⟨a,xs,e1,hq,hl,hw⟩:=hw
 subst e1
 cases r
 obtain ⟨its,rv,ht,hz⟩:=I.tuple hq
 refine assign_Tuple_tuple (I.ok.hd hc) ht (by simp [hn,<- hl,rv.length]) hst fun h' hx=>?_
 have I1:Inv X pins σ H {s with heap:=h'}:=I.kept (t':=s.toks) fun b o e=>hx b o (Nat.ne_of_lt (Heap.lt_size e)) e
 exact h pins _ σ H xs _ Q I1 (by simpa using rv) hw
noncomputable def vy (to ti:TE) (t:tN):TG:=fun v σ H Q=>to σ H fun o H1=>ti σ H1 fun i H2=>t o i v H2 fun H3=>Q σ H3
theorem sL {o i:Expr} {to ti:TE} {t:tN} (ho:PE X o to) (hi:PE X i ti) (hs:uP X t)
  (ha: ∀ v,assign (.Subscript o i pos) X.env v=(do
   let ov <- holding [v] (eval o X.env)
   let iv <- holding [v,ov] (eval i X.env)
   standAt pos
   holding [v,ov,iv] (setItem ov iv v)
   release [v,ov,iv] []):=by intro _;rfl):PG X (.Subscript o i pos) (vy to ti t):=by
 intro pins s σ H v u Q I r h
 rw [ha]
 refine wpAny_bind (wpAny_holding (thn (ho pins s σ H _ I h) fun ov s1 ⟨x,H1,I1,r1,q1⟩=>?_))
 refine wpAny_bind (wpAny_holding (thn (hi pins s1 σ H1 _ I1 q1) fun iv s2 ⟨y,H2,I2,r2,q2⟩=>?_))
 refine wpAny_bind (wpAny_standAt (wpAny_bind (wpAny_holding (thn (hs pins s2 σ H2 x y v ov iv u _ I2 r1 r2 r q2) fun _ s3 ⟨H3,I3,q3⟩=>?_))))
 exact wpAny_release ⟨σ,H3,I3,q3⟩
noncomputable def oN (te:TE) (g:TG):TS:=fun D σ H=>te σ H fun x H1=>g x σ H1 D.nx
theorem sK {tg e:Expr} {te:TE} {g:TG} (he:PE X e te) (hg:PG X tg g) (hs:swapsWithSole [tg] e pos.line X.env=pure false:=by rfl) (hw:swappedStores [tg] e X.env=pure none:=by rfl)
  (h1:(assignEach [tg] X.env).map (·.2)=[assign tg X.env]:=by rfl):PS X (.Assign [tg] e pos) (oN te g):=by
 intro pins s σ H D I h
 refine wpAny_Assign_stores (thn (he pins s σ H _ I h) fun v s1 ⟨x,H1,I1,r1,q1⟩=>?_) hs hw
 rw [h1]
 exact thn (hg pins s1 σ H1 x v _ I1 r1 q1) fun _ s2 q=>q
theorem aq {i:Nat} {x:Str} {e:Expr} {te:TE} {pos':Pos} (hN:X.N.Nodup) (hi:X.N[i]? =some x) (hx:Loc X.env.scope x) (he:PE X e te) (hs:swapsWith e (some (.Name x pos')) pos.line X.env=pure false:=by rfl) (hf:X.fn x=true\/X.env.scope.names.lookup x=some .local:=by first | exact .inl rfl | exact .inr rfl | assumption):
  PS X (.Assign [.Name x pos'] e pos) (oN te (fH i)):=by
 intro pins s σ H D I h
 refine wpAny_Assign_Name (thn (he pins s σ H _ I h) fun v s1 ⟨y,H1,I1,r1,q1⟩=>?_) hs
 exact fj I1 hN hi hx r1 (fun s2 I2=>⟨_,H1,I2,q1⟩) hf
end
section
variable {X:Cx} {pos:Pos}
noncomputable def oG (c:TT) (tb:TS):TS:=fun D σ H=> ∃ W:Nat->St->Hp->Prop,(∃ m,W m σ H)/\ ∀ m σ H,W m σ H->
 c σ H fun b H1=>if b=true then ∃ N:St->Hp->Prop,(∀ σ' H',N σ' H'-> ∃ m',m'<m/\W m' σ' H')/\tb {D with nx:=N,ct:=N,bk:=D.nx} σ H1 else D.nx σ H1
theorem j1 {c:Expr} {body:List Stmt} {tc:TT} {tb:TS} (hp:PassesOwn (model X.prog X.w) X.A X.env X.xe) (hc:PT X c tc) (hb:PSs X body tb):PS X (.While c body [] pos) (oG tc tb):=by
 intro pins s σ H D I h
 obtain ⟨W,⟨m0,w0⟩,turn⟩:=h
 refine wpAny_While (codeAny_whileLoop (fun n s'=> ∃ σ' H',Inv X pins σ' H' s'/\W n σ' H') ?_ m0 ⟨σ,H,I,w0⟩)
 rintro n s1 ⟨σ1,H1,I1,w1⟩
 refine wpAny_passesOwn hp (thn (hc pins s1 σ1 H1 _ I1 (turn n σ1 H1 w1)) fun b s2 ⟨H2,I2,q2⟩=>?_)
 cases b with
 | true=>
  obtain ⟨N,hN,q2⟩:=q2
  rw [if_pos rfl]
  refine wpAny_passesOwn hp (thn (hb pins s2 σ1 H2 _ I2 q2) fun f s3 q3=>?_)
  cases f with
  | next=>
   obtain ⟨σ3,H3,I3,n3⟩:=q3
   obtain ⟨m',hm,w3⟩:=hN σ3 H3 n3
   exact ⟨m',hm,σ3,H3,I3,w3⟩
  | cont=>
   obtain ⟨σ3,H3,I3,n3⟩:=q3
   obtain ⟨m',hm,w3⟩:=hN σ3 H3 n3
   exact ⟨m',hm,σ3,H3,I3,w3⟩
  | brk=>exact q3
  | ret v=>exact q3
 | false=>
  rw [if_neg Bool.false_ne_true]
  exact wpAny_execs_nil ⟨σ1,H2,I2,q2⟩
end
structure It where
 go:Nat->Hp->Prop
 yld:Nat->Hp->V->Hp->Prop
 stop:Nat->Hp->Prop
noncomputable def fP (X:Cx) (pins:List (Addr×Obj)) (H:Hp) (b:Addr):Prop:=
 H b=none/\b≠X.env.locals/\b∉X.fs/\(b∈X.ex\/X.s₀.heap.objs.size<=b)/\(∀ x c,X.env.cells.lookup x=some c->c≠b)/\ ∀ p∈X.pn++pins,p.1≠b
theorem Inv.fpOk {X:Cx} {pins:List (Addr×Obj)} {σ:St} {H H':Hp} {s:Shared} {b:Addr} (I:Inv X pins σ H s) (hb:s.heap.objs.size<=b) (hn:H' b=none):fP X pins H' b:=by
 refine ⟨hn,Nat.ne_of_gt (Nat.lt_of_lt_of_le I.lt hb),I.nofs hb,.inr (Nat.le_trans I.sz hb),fun x c e z=>?_,fun p hp z=>?_⟩
 ·obtain ⟨v,q⟩:=I.cell x c e
  exact absurd (Nat.lt_of_lt_of_le q.lt (by rw [z];exact hb)) (Nat.lt_irrefl _)
 ·exact absurd (Nat.lt_of_lt_of_le (Heap.lt_size (I.pin p hp).1) (by rw [z];exact hb)) (Nat.lt_irrefl _)
structure l3 (P:Program) (w:World) (K:PySem.W.Frag) (tg:Expr) (J:It) (fp:List Addr) (it:Addr) (tn:Nat->Heap->Prop):Prop where
 mem:it∈fp
 obj: ∀ i h,tn i h-> ∀ b∈fp,∃ o,h.get? b=some o/\ ∀ v,o.data≠ .cell v
 keep: ∀ i h h',tn i h->(∀ b∈fp,∀ o,h.get? b=some o->h'.get? b=some o)->tn i h'
 item: ∀ (X:Cx),X.prog=P->X.w=w->X.K=K->X.calm=true-> ∀ (i:Nat) (pins:List (Addr×Obj)) (s:Shared) (σ:St) (H:Hp) (E:Value->Shared->Prop),Inv X pins σ H s->(∀ b∈fp,fP X pins H b)->tn i s.heap->J.go i H->
  wpAny (model P w) X.A (pyNext (.ref it)) (fun r s1=> ∃ u,r=some u/\
   wpAny (model P w) X.A (letOwnedTupleGo tg (.ref it) u) (fun _ s2=> ∃ x H',Inv X pins σ H' s2/\RelV x u/\J.yld i H x H'/\tn (i+1) s2.heap/\ ∀ b∈fp,H' b=none) E s1) E s
 done: ∀ (X:Cx),X.prog=P->X.w=w->X.K=K->X.calm=true-> ∀ (i:Nat) (pins:List (Addr×Obj)) (s:Shared) (σ:St) (H:Hp) (E:Value->Shared->Prop),Inv X pins σ H s->(∀ b∈fp,fP X pins H b)->tn i s.heap->J.stop i H->
  wpAny (model P w) X.A (pyNext (.ref it)) (fun r s1=>r=none/\Inv X pins σ H s1) E s
 self: ∀ (A:Around) (i:Nat) (s:Shared) (Q:Value->Shared->Prop) (E:Value->Shared->Prop),tn i s.heap->Q (.ref it) s->wpAny (model P w) A (pyIter (.ref it)) Q E s
noncomputable abbrev TI:=St->Hp->(It->Hp->Prop)->Prop
noncomputable def PIE (X:Cx) (pins:List (Addr×Obj)) (σ:St) (tg:Expr) (R:It->Hp->Prop) (itv:Value) (s2:Shared):Prop:=
 ∃ (it:Addr) (fp:List Addr) (tn:Nat->Heap->Prop) (J:It) (H':Hp),itv=.ref it/\Inv X pins σ H' s2/\l3 X.prog X.w X.K tg J fp it tn/\tn 0 s2.heap/\(∀ b∈fp,fP X pins H' b)/\R J H'
noncomputable def PI (X:Cx) (tg iter:Expr) (wi:TI):Prop:=
 ∀ (pins:List (Addr×Obj)) (s:Shared) (σ:St) (H:Hp) (R:It->Hp->Prop),Inv X pins σ H s->wi σ H R->
  wpAny (model X.prog X.w) X.A (eval iter X.env) (fun v s1=>wpAny (model X.prog X.w) X.A (pyIter v) (PIE X pins σ tg R) X.xe s1) X.xe s
theorem ko {M:Model} {A:Around} {E:Value->Shared->Prop} {s:Shared} {tg:Expr} {it:Addr} {u:Value} {o:Obj} {n:String} {vs:Array Value} {Q:Unit->Shared->Prop} (ho:s.heap.get? it=some o) (hc:o.cls=.type n) (hd:o.data=.fields vs)
  (hn:["enumerate","zip","dict_itemiterator","dict_reverseitemiterator","odict_iterator","itertools.zip_longest","itertools.pairwise"].contains n=false) (hQ:Q () s):wpAny M A (letOwnedTupleGo tg (.ref it) u) Q E s:=by
 unfold letOwnedTupleGo
 cases tg <;> first
  | exact wpAny_pure hQ
  | (cases u <;> first
    | exact wpAny_pure hQ
    | (refine wpAny_bind (wpAny_load ho ?_)
       rw [hc,hd]
       show wpAny M A (if (["enumerate","zip","dict_itemiterator","dict_reverseitemiterator","odict_iterator","itertools.zip_longest","itertools.pairwise"].contains n&&vs[0]? ==some (rawInt _))=true then _ else _) Q E s
       rw [if_neg (by intro h;rw [hn,Bool.false_and]at h;cases h)]
       exact wpAny_pure hQ))
noncomputable def Itl (K:PySem.W.Frag) (a:Addr):It:=
 ⟨fun i H=> ∃ xs x,SqL K H a xs/\xs[i]? =some x,fun i H x H'=>H'=H/\ ∀ xs,SqL K H a xs->xs[i]? =some x,fun i H=> ∃ xs,SqL K H a xs/\xs.length<=i⟩
noncomputable def Itt (K:PySem.W.Frag) (a:Addr):It:=
 ⟨fun i H=> ∃ xs x,SqT K H a xs/\xs[i]? =some x,fun i H x H'=>H'=H/\ ∀ xs,SqT K H a xs->xs[i]? =some x,fun i H=> ∃ xs,SqT K H a xs/\xs.length<=i⟩
noncomputable def Itr (lo:Int) (n:Nat):It:=⟨fun i _=>i<n,fun i H x H'=>H'=H/\x=.int (lo+i),fun i _=>n<=i⟩
theorem mK {P:Program} {w:World} {K:PySem.W.Frag} {tg:Expr} (a it:Addr):l3 P w K tg (Itl K a) [it] it (fun i h=>h.IsListIter it a i) where
 mem:=by simp
 obj:=fun i h st b hb=>by
  have e:b=it:=by simpa using hb
  subst e
  obtain ⟨o,e,c,d⟩:=st
  exact ⟨o,e,fun v z=>by rw [d]at z;cases z⟩
 keep:=fun i h h' st k=>st.at fun o e=>k it (by simp) o e
 item:=by
  intro X hP hw hK hc i pins s σ H E I hf st hg
  subst hP hw hK
  obtain ⟨xs,x,hq,hx⟩:=hg
  obtain ⟨its,rv,p,hz⟩:=I.list hq
  obtain ⟨u,hu,ru⟩:=rv.get hx
  obtain ⟨f0,f1,f2,f3,f4,f5⟩:=hf it (by simp)
  refine wpAny_pyNext_list_item st p.isList (x:=u) (by simpa using hu) fun h' st' sb=>?_
  have I1:Inv X pins σ H {s with heap:=h'}:=I.turned (t':=s.toks) (fun b o hb e=>(sb.2 b hb).trans e) f0 f1 f3 f4 f5
  obtain ⟨o,e,c,d⟩:=id st'
  exact ⟨u,rfl,ko (s:={s with heap:=h'}) e c d (by decide) ⟨x,H,I1,ru,⟨rfl,fun ys hy=>by rw [I.list_inj hy hq];exact hx⟩,st',fun b hb=>(hf b hb).1⟩⟩
 done:=by
  intro X hP hw hK hc i pins s σ H E I hf st hg
  subst hP hw hK
  obtain ⟨xs,hq,hx⟩:=hg
  obtain ⟨its,rv,p,hz⟩:=I.list hq
  obtain ⟨f0,f1,f2,f3,f4,f5⟩:=hf it (by simp)
  have hl:=rv.length
  exact wpAny_pyNext_list_end (I.ok.hd hc) st p.isList (by simp;omega) fun h' eb=>⟨rfl,I.turned (t':=s.toks) (fun b o hb e=>eb b o hb e) f0 f1 f3 f4 f5⟩
 self:=fun _ _ _ _ _ st h=>wpAny_pyIter_listiter st h
theorem lb {P:Program} {w:World} {K:PySem.W.Frag} {tg:Expr} (a it:Addr):l3 P w K tg (Itt K a) [it] it (fun i h=>h.IsTupleIter it a i) where
 mem:=by simp
 obj:=fun i h st b hb=>by
  have e:b=it:=by simpa using hb
  subst e
  obtain ⟨o,e,c,d⟩:=st
  exact ⟨o,e,fun v z=>by rw [d]at z;cases z⟩
 keep:=fun i h h' st k=>st.at fun o e=>k it (by simp) o e
 item:=by
  intro X hP hw hK hc i pins s σ H E I hf st hg
  subst hP hw hK
  obtain ⟨xs,x,hq,hx⟩:=hg
  obtain ⟨its,rv,p,hz⟩:=I.tuple hq
  obtain ⟨u,hu,ru⟩:=rv.get hx
  obtain ⟨f0,f1,f2,f3,f4,f5⟩:=hf it (by simp)
  refine wpAny_pyNext_tuple_item st (show s.heap.IsTuple a its.toArray from p) (x:=u) (by simpa using hu) fun h' st' sb=>?_
  have I1:Inv X pins σ H {s with heap:=h'}:=I.turned (t':=s.toks) (fun b o hb e=>(sb.2 b hb).trans e) f0 f1 f3 f4 f5
  obtain ⟨o,e,c,d⟩:=id st'
  exact ⟨u,rfl,ko (s:={s with heap:=h'}) e c d (by decide) ⟨x,H,I1,ru,⟨rfl,fun ys hy=>by rw [I.tuple_inj hy hq];exact hx⟩,st',fun b hb=>(hf b hb).1⟩⟩
 done:=by
  intro X hP hw hK hc i pins s σ H E I hf st hg
  subst hP hw hK
  obtain ⟨xs,hq,hx⟩:=hg
  obtain ⟨its,rv,p,hz⟩:=I.tuple hq
  obtain ⟨f0,f1,f2,f3,f4,f5⟩:=hf it (by simp)
  have hl:=rv.length
  exact wpAny_pyNext_tuple_end (I.ok.hd hc) st (show s.heap.IsTuple a its.toArray from p) (by simp;omega) fun h' eb=>⟨rfl,I.turned (t':=s.toks) (fun b o hb e=>eb b o hb e) f0 f1 f3 f4 f5⟩
 self:=fun _ _ _ _ _ st h=>wpAny_pyIter_tupleiter st h
theorem lc {P:Program} {w:World} {K:PySem.W.Frag} {tg:Expr} (it:Addr) (lo:Int) (n:Nat):l3 P w K tg (Itr lo n) [it] it (fun i h=>IsRangeIter h it (lo+ (i:Nat) *1) ((n:Int) - (i:Nat)) 1) where
 mem:=by simp
 obj:=fun i h st b hb=>by
  have e:b=it:=by simpa using hb
  subst e
  exact ⟨_,st,fun v z=>by
   have z':Data.fields _=Data.cell v:=z
   cases z'⟩
 keep:=fun i h h' st k=>k it (by simp) _ st
 item:=by
  intro X hP hw hK hc i pins s σ H E I hf st hg
  subst hP hw hK
  obtain ⟨f0,f1,f2,f3,f4,f5⟩:=hf it (by simp)
  have W:=Walks.range (prog:=X.prog) (w:=X.w) (I.ok.hd hc) it lo 1 n
  refine W.item i s _ _ hg st fun v h' tk hv st' kk=>?_
  obtain ⟨t,rfl⟩:=hv
  have I1:Inv X pins σ H {s with heap:=h',toks:=tk}:=I.turned (fun b o hb e=>kk b o (by simpa using hb) e) f0 f1 f3 f4 f5
  refine ⟨_,rfl,ko (s:={s with heap:=h',toks:=tk}) (n:="range_iterator") st' rfl rfl (by decide) ⟨.int (lo+i),H,I1,⟨t,?_⟩,⟨rfl,rfl⟩,st',fun b hb=>(hf b hb).1⟩⟩
  rw [Int.mul_one]
 done:=by
  intro X hP hw hK hc i pins s σ H E I hf st hg
  subst hP hw hK
  obtain ⟨f0,f1,f2,f3,f4,f5⟩:=hf it (by simp)
  exact wpAny_pyNext_range_end (I.ok.hd hc) st (by have:n<=i:=hg;omega) fun h' eb=>⟨rfl,I.turned (t':=s.toks) (fun b o hb e=>eb b o hb e) f0 f1 f3 f4 f5⟩
 self:=fun _ _ _ _ _ st h=>wpAny_pyIter_rangeiter st h
section
variable {X:Cx} {tg:Expr}
noncomputable def uF (K:PySem.W.Frag) (tl:TE):TI:=fun σ H R=>tl σ H fun x H1=> ∃ a,x=.ref a/\(∃ xs,SqL K H1 a xs)/\R (Itl K a) H1
noncomputable def sZ (K:PySem.W.Frag) (tl:TE):TI:=fun σ H R=>tl σ H fun x H1=> ∃ a,x=.ref a/\(∃ xs,SqT K H1 a xs)/\R (Itt K a) H1
theorem eI {l:Expr} {tl:TE} (hl:PE X l tl):PI X tg l (uF X.K tl):=by
 intro pins s σ H R I h
 refine thn (hl pins s σ H _ I h) fun v s1 ⟨x,H1,I1,r1,q1⟩=>?_
 obtain ⟨a,e,⟨xs,hq⟩,q⟩:=q1
 subst e
 cases r1
 obtain ⟨its,rv,p,hz⟩:=I1.list hq
 refine wpAny_pyIter_list p.isList ?_
 refine ⟨s1.heap.objs.size,[s1.heap.objs.size],_,_,H1,rfl,I1.kept (t':=s1.toks) fun b o e=>Heap.get?_push_of_some _ e,mK a _,⟨_,Heap.get?_push_size _ rfl,rfl,rfl⟩,fun b hb=>?_,q⟩
 have e:b=s1.heap.objs.size:=by simpa using hb
 subst e
 exact I1.fpOk (Nat.le_refl _) (I1.hok.fresh (Nat.le_refl _))
theorem bu {l:Expr} {tl:TE} (hl:PE X l tl):PI X tg l (sZ X.K tl):=by
 intro pins s σ H R I h
 refine thn (hl pins s σ H _ I h) fun v s1 ⟨x,H1,I1,r1,q1⟩=>?_
 obtain ⟨a,e,⟨xs,hq⟩,q⟩:=q1
 subst e
 cases r1
 obtain ⟨its,rv,p,hz⟩:=I1.tuple hq
 refine wpAny_pyIter_tuple (show s1.heap.IsTuple a its.toArray from p) ?_
 refine ⟨s1.heap.objs.size,[s1.heap.objs.size],_,_,H1,rfl,I1.kept (t':=s1.toks) fun b o e=>Heap.get?_push_of_some _ e,lb a _,⟨_,Heap.get?_push_size _ rfl,rfl,rfl⟩,fun b hb=>?_,q⟩
 have e:b=s1.heap.objs.size:=by simpa using hb
 subst e
 exact I1.fpOk (Nat.le_refl _) (I1.hok.fresh (Nat.le_refl _))
theorem jZ {pins:List (Addr×Obj)} {σ:St} {H:Hp} {s:Shared} {R:It->Hp->Prop} {E:Value->Shared->Prop} {lo hi:Int} {t u v:Tok} {tk:Nat} (I:Inv X pins σ H s) (h1: -(2^62)<=lo) (h2:lo<2^62) (h3: -(2^62)<=hi) (h4:hi<2^62)
  (q:R (Itr lo (hi-lo).toNat) H):wpAny (model X.prog X.w) X.A (pyIter (.ref s.heap.objs.size)) (PIE X pins σ tg R) E {s with heap:=s.heap.push {cls:=.type "range",data:=.fields #[.int lo t,.int hi u,.int 1 v]},toks:=tk}:=by
 refine wpAny_pyIter_range (IsRange.new ..) (small_one h1 h2 h3 h4) ?_
 have I1:Inv X pins σ H {s with heap:=s.heap.push {cls:=.type "range",data:=.fields #[.int lo t,.int hi u,.int 1 v]},toks:=tk}:=I.kept fun b o e=>Heap.get?_push_of_some _ e
 refine ⟨(s.heap.push {cls:=.type "range",data:=.fields #[.int lo t,.int hi u,.int 1 v]}).objs.size,[(s.heap.push {cls:=.type "range",data:=.fields #[.int lo t,.int hi u,.int 1 v]}).objs.size],_,_,H,rfl,
  I1.kept (t':=tk) fun b o e=>Heap.get?_push_of_some _ e,lc _ lo (hi-lo).toNat,?_,fun b hb=>?_,q⟩
 ·have e1:lo+ ((0:Nat):Int) *1=lo:=by simp
  have e2:(((hi-lo).toNat:Nat):Int) - ((0:Nat):Int)=Builtin.Range.rangeSize lo hi 1:=by rw [rangeSize_one];split <;> omega
  show IsRangeIter _ _ (lo+ ((0:Nat):Int) *1) ((((hi-lo).toNat:Nat):Int) - ((0:Nat):Int)) 1
  rw [e1,e2]
  exact Heap.get?_push_size _ rfl
 ·have e:b=(s.heap.push {cls:=.type "range",data:=.fields #[.int lo t,.int hi u,.int 1 v]}).objs.size:=by simpa using hb
  subst e
  exact I1.fpOk (Nat.le_refl _) (I1.hok.fresh (Nat.le_refl _))
noncomputable def uE (ta:TA):TI:=fun σ H R=>ta σ H fun vs H1=> ∃ j:Int,vs=[.int j]/\ -(2^62)<=j/\j<2^62/\R (Itr 0 j.toNat) H1
noncomputable def uD (ta:TA):TI:=fun σ H R=>ta σ H fun vs H1=> ∃ i j:Int,vs=[.int i,.int j]/\(-(2^62)<=i/\i<2^62/\ -(2^62)<=j/\j<2^62)/\R (Itr i (j-i).toNat) H1
theorem bM {a:Expr} {ta:TA} {p pos:Pos} (hg:Gl X "range") (hm:X.mg "range"=none) (ha:PA X [a] ta) (hs:starEach [a] X.env=[(false,eval a X.env)]:=by rfl):PI X tg (.Call (.Name "range" p) [a] [] pos) (uE ta):=by
 intro pins s σ H R I h
 refine Call_ (dN I hg hm boot_range (PyProof.Rows.callWith_type1 (thn (ha pos pins s σ H _ I h) fun us s1 ⟨vs,H1,I1,r1,q1⟩=>?_) hs rfl))
 obtain ⟨j,e,q1,q2,q⟩:=q1
 subst e
 cases r1 with
 | cons r rr=>
  cases rr
  obtain ⟨t,rfl⟩:=r
  exact call_range_1 (jZ I1 (by omega) (by omega) q1 q2 (by simpa using q))
theorem nu {a b:Expr} {ta:TA} {p pos:Pos} (hg:Gl X "range") (hm:X.mg "range"=none) (ha:PA X [a,b] ta) (hs:starEach [a,b] X.env=[(false,eval a X.env),(false,eval b X.env)]:=by rfl) (hs2:starEach [b] X.env=[(false,eval b X.env)]:=by rfl):
  PI X tg (.Call (.Name "range" p) [a,b] [] pos) (uD ta):=by
 intro pins s σ H R I h
 refine Call_ (dN I hg hm boot_range (PyProof.Rows.callWith_type1 (thn (ha pos pins s σ H _ I h) fun us s1 ⟨vs,H1,I1,r1,q1⟩=>?_) (by rw [hs,hs2]) (by rw [hs2];rfl)))
 obtain ⟨i,j,e,⟨q1,q2,q3,q4⟩,q⟩:=q1
 subst e
 cases r1 with
 | cons r rr=>
  cases rr with
  | cons r' rr=>
   cases rr
   obtain ⟨t,rfl⟩:=r
   obtain ⟨t',rfl⟩:=r'
   exact call_range_2 (jZ I1 q1 q2 q3 q4 q)
noncomputable def u3 (wi:TI) (g:TG) (tb:TS):TS:=fun D σ H=>wi σ H fun J H1=> ∃ W:Nat->Nat->St->Hp->Prop,(∃ m,W 0 m σ H1)/\ ∀ i m σ H,W i m σ H->
 (J.stop i H/\D.nx σ H)\/(J.go i H/\ ∃ N:St->Hp->Prop,(∀ σ' H',N σ' H'-> ∃ m',m'<m/\W (i+1) m' σ' H')/\ ∀ x H',J.yld i H x H'->g x σ H' fun σ2 H2=>tb {D with nx:=N,ct:=N,bk:=D.nx} σ2 H2)
noncomputable def jv (fp:List Addr) (h:Heap):List (Addr×Obj):=fp.filterMap fun b=>(h.get? b).map fun o=>(b,o)
theorem bq {fp:List Addr} {h:Heap} {b:Addr} {o:Obj} (hb:b∈fp) (e:h.get? b=some o):(b,o)∈jv fp h:=List.mem_filterMap.mpr ⟨b,hb,by rw [e];rfl⟩
theorem nI {fp:List Addr} {h:Heap} {p:Addr×Obj} (hp:p∈jv fp h):p.1∈fp/\h.get? p.1=some p.2:=by
 obtain ⟨b,hb,e⟩:=List.mem_filterMap.mp hp
 cases q:h.get? b with
 | none=>rw [q]at e;cases e
 | some o=>
  rw [q]at e
  have e':(b,o)=p:=Option.some.inj e
  subst e'
  exact ⟨hb,q⟩
theorem Inv.pinned {pins:List (Addr×Obj)} {σ:St} {H:Hp} {s:Shared} {fp:List Addr} (I:Inv X pins σ H s) (hf: ∀ b∈fp,fP X pins H b) (ho: ∀ b∈fp,∃ o,s.heap.get? b=some o/\ ∀ v,o.data≠ .cell v):Inv X (pins++jv fp s.heap) σ H s:=
 I.pins_of fun p hp=>(List.mem_append.mp hp).elim (fun z=>I.pin p (List.mem_append_right _ z)) fun z=>by
  obtain ⟨hb,e⟩:=nI z
  obtain ⟨f0,f1,f2,_⟩:=hf p.1 hb
  obtain ⟨o,e',d⟩:=ho p.1 hb
  rw [e]at e';cases e'
  exact ⟨e,f0,f1,f2,d⟩
theorem Inv.unpinned {pins pl:List (Addr×Obj)} {σ:St} {H:Hp} {s:Shared} (I:Inv X (pins++pl) σ H s):Inv X pins σ H s:=I.pins_of fun p hp=>I.pin p (List.mem_append_right _ (List.mem_append_left _ hp))
theorem ce {iter:Expr} {body:List Stmt} {wi:TI} {g:TG} {tb:TS} {pos:Pos} (hp:PassesOwn (model X.prog X.w) X.A X.env X.xe) (hc:X.calm=true) (hi:PI X tg iter wi) (hg:PG X tg g) (hb:PSs X body tb)
  (hs: ∀ x,foldedSetIterable iter X.env x=pure x:=by intro _;rfl):PS X (.For tg iter body [] pos) (u3 wi g tb):=by
 intro pins s σ H D I h
 refine wpAny_For (thn (hi pins s σ H _ I h) fun v s1 h1=>thn h1 fun itv s2 h2=>?_) hs
 obtain ⟨it,fp,tn,J,H2,e,I2,T,st2,f2,W,⟨m0,w0⟩,turn⟩:=h2
 subst e
 have stat: ∀ {H':Hp},(∀ b∈fp,H' b=none)-> ∀ b∈fp,fP X pins H' b:=fun hn b hb=>⟨hn b hb,(f2 b hb).2⟩
 refine codeAny_forLoop_any (fun n s'=> ∃ i σ' H',Inv X pins σ' H' s'/\tn i s'.heap/\(∀ b∈fp,H' b=none)/\W i n σ' H') ?_ m0 ⟨0,σ,H2,I2,st2,fun b hb=>(f2 b hb).1,w0⟩
 rintro n s3 ⟨i,σ3,H3,I3,st3,fr3,w3⟩
 rcases turn i n σ3 H3 w3 with ⟨stop,qn⟩ | ⟨go,N,hN,step⟩
 ·refine wpAny_passesOwn hp (thn (T.done X rfl rfl rfl hc i pins s3 σ3 H3 X.xe I3 (stat fr3) st3 stop) fun r s4 ⟨hr,I4⟩=>?_)
  subst hr
  exact wpAny_execs_nil ⟨σ3,H3,I4,qn⟩
 ·refine wpAny_passesOwn hp (thn (T.item X rfl rfl rfl hc i pins s3 σ3 H3 X.xe I3 (stat fr3) st3 go) fun r s4 ⟨u,hr,h4⟩=>?_)
  subst hr
  refine wpAny_passesOwn hp (thn h4 fun _ s5 ⟨x,H5,I5,r5,y5,st5,fr5⟩=>?_)
  have I5':=I5.pinned (stat fr5) (T.obj _ _ st5)
  refine wpAny_passesOwn hp (thn (hg _ s5 σ3 H5 x u _ I5' r5 (step x H5 y5)) fun _ s6 ⟨σ6,H6,I6,q6⟩=>?_)
  refine wpAny_passesOwn hp (thn (hb _ s6 σ6 H6 _ I6 q6) fun f s7 q7=>?_)
  have again: ∀ {σ7:St} {H7:Hp},Inv X (pins++jv fp s5.heap) σ7 H7 s7->N σ7 H7-> ∃ m,m<n/\ ∃ i σ' H',Inv X pins σ' H' s7/\tn i s7.heap/\(∀ b∈fp,H' b=none)/\W i m σ' H':=fun {σ7 H7} I7 n7=>by
   obtain ⟨m',hm,w7⟩:=hN σ7 H7 n7
   refine ⟨m',hm,i+1,σ7,H7,I7.unpinned,T.keep _ _ _ st5 fun b hb o e=>(I7.pin (b,o) (List.mem_append_right _ (List.mem_append_right _ (bq hb e)))).1,fun b hb=>?_,w7⟩
   obtain ⟨o,e,d⟩:=T.obj _ _ st5 b hb
   exact (I7.pin (b,o) (List.mem_append_right _ (List.mem_append_right _ (bq hb e)))).2.1
  cases f with
  | next=>obtain ⟨σ7,H7,I7,n7⟩:=q7;exact again I7 n7
  | cont=>obtain ⟨σ7,H7,I7,n7⟩:=q7;exact again I7 n7
  | brk=>obtain ⟨σ7,H7,I7,q7⟩:=q7;exact ⟨σ7,H7,I7.unpinned,q7⟩
  | ret v=>obtain ⟨x7,σ7,H7,I7,r7,q7⟩:=q7;exact ⟨x7,σ7,H7,I7.unpinned,r7,q7⟩
end
theorem iA {K:PySem.W.Frag} {a:Addr} {xs:List V} {g:TG} {tb:TS} {D:eP} {σ:St} {H:Hp} (Pv:Nat->St->Hp->Prop) (h0:Pv 0 σ H) (hl: ∀ i σ H,i<=xs.length->Pv i σ H->SqL K H a xs)
  (hs: ∀ i x σ H,xs[i]? =some x->Pv i σ H->g x σ H fun σ2 H2=>tb {D with nx:=Pv (i+1),ct:=Pv (i+1),bk:=D.nx} σ2 H2) (hd: ∀ σ H,Pv xs.length σ H->D.nx σ H):
  ∃ W:Nat->Nat->St->Hp->Prop,(∃ m,W 0 m σ H)/\ ∀ i m σ H,W i m σ H->
   ((Itl K a).stop i H/\D.nx σ H)\/((Itl K a).go i H/\ ∃ N:St->Hp->Prop,(∀ σ' H',N σ' H'-> ∃ m',m'<m/\W (i+1) m' σ' H')/\ ∀ x H',(Itl K a).yld i H x H'->g x σ H' fun σ2 H2=>tb {D with nx:=N,ct:=N,bk:=D.nx} σ2 H2):=by
 refine ⟨fun i m σ H=>m=xs.length-i/\i<=xs.length/\Pv i σ H,⟨xs.length,by simp,Nat.zero_le _,h0⟩,?_⟩
 rintro i m σ H ⟨rfl,hi,p⟩
 have q:=hl i σ H hi p
 by_cases hlt:i<xs.length
 ·refine .inr ⟨⟨xs,xs[i],q,by simp [hlt]⟩,Pv (i+1),fun σ' H' p'=>⟨xs.length- (i+1),by omega,rfl,hlt,p'⟩,fun x H' y=>?_⟩
  obtain ⟨e,y⟩:=y
  subst e
  exact hs i x σ _ (y xs q) p
 ·have e:i=xs.length:=by omega
  subst e
  exact .inl ⟨⟨xs,q,Nat.le_refl _⟩,hd σ H p⟩
theorem fJ {K:PySem.W.Frag} {a:Addr} {xs:List V} {g:TG} {tb:TS} {D:eP} {σ:St} {H:Hp} (Pv:Nat->St->Hp->Prop) (h0:Pv 0 σ H) (hl: ∀ i σ H,i<=xs.length->Pv i σ H->SqT K H a xs)
  (hs: ∀ i x σ H,xs[i]? =some x->Pv i σ H->g x σ H fun σ2 H2=>tb {D with nx:=Pv (i+1),ct:=Pv (i+1),bk:=D.nx} σ2 H2) (hd: ∀ σ H,Pv xs.length σ H->D.nx σ H):
  ∃ W:Nat->Nat->St->Hp->Prop,(∃ m,W 0 m σ H)/\ ∀ i m σ H,W i m σ H->
   ((Itt K a).stop i H/\D.nx σ H)\/((Itt K a).go i H/\ ∃ N:St->Hp->Prop,(∀ σ' H',N σ' H'-> ∃ m',m'<m/\W (i+1) m' σ' H')/\ ∀ x H',(Itt K a).yld i H x H'->g x σ H' fun σ2 H2=>tb {D with nx:=N,ct:=N,bk:=D.nx} σ2 H2):=by
 refine ⟨fun i m σ H=>m=xs.length-i/\i<=xs.length/\Pv i σ H,⟨xs.length,by simp,Nat.zero_le _,h0⟩,?_⟩
 rintro i m σ H ⟨rfl,hi,p⟩
 have q:=hl i σ H hi p
 by_cases hlt:i<xs.length
 ·refine .inr ⟨⟨xs,xs[i],q,by simp [hlt]⟩,Pv (i+1),fun σ' H' p'=>⟨xs.length- (i+1),by omega,rfl,hlt,p'⟩,fun x H' y=>?_⟩
  obtain ⟨e,y⟩:=y
  subst e
  exact hs i x σ _ (y xs q) p
 ·have e:i=xs.length:=by omega
  subst e
  exact .inl ⟨⟨xs,q,Nat.le_refl _⟩,hd σ H p⟩
theorem cV {lo:Int} {n:Nat} {g:TG} {tb:TS} {D:eP} {σ:St} {H:Hp} (Pv:Nat->St->Hp->Prop) (h0:Pv 0 σ H)
  (hs: ∀ i σ H,i<n->Pv i σ H->g (.int (lo+i)) σ H fun σ2 H2=>tb {D with nx:=Pv (i+1),ct:=Pv (i+1),bk:=D.nx} σ2 H2) (hd: ∀ σ H,Pv n σ H->D.nx σ H):
  ∃ W:Nat->Nat->St->Hp->Prop,(∃ m,W 0 m σ H)/\ ∀ i m σ H,W i m σ H->
   ((Itr lo n).stop i H/\D.nx σ H)\/((Itr lo n).go i H/\ ∃ N:St->Hp->Prop,(∀ σ' H',N σ' H'-> ∃ m',m'<m/\W (i+1) m' σ' H')/\ ∀ x H',(Itr lo n).yld i H x H'->g x σ H' fun σ2 H2=>tb {D with nx:=N,ct:=N,bk:=D.nx} σ2 H2):=by
 refine ⟨fun i m σ H=>m=n-i/\i<=n/\Pv i σ H,⟨n,by simp,Nat.zero_le _,h0⟩,?_⟩
 rintro i m σ H ⟨rfl,hi,p⟩
 by_cases hlt:i<n
 ·refine .inr ⟨hlt,Pv (i+1),fun σ' H' p'=>⟨n- (i+1),by omega,rfl,hlt,p'⟩,fun x H' y=>?_⟩
  obtain ⟨e,y⟩:=y
  subst e y
  exact hs i σ _ hlt p
 ·have e:i=n:=by omega
  subst e
  exact .inl ⟨Nat.le_refl _,hd σ H p⟩
theorem oA {c:TT} {tb:TS} {D:eP} {σ:St} {H:Hp} (Pv:St->Hp->Prop) (μ:St->Hp->Nat) (h0:Pv σ H)
  (hs: ∀ σ H,Pv σ H->c σ H fun b H1=>if b=true then tb {D with nx:=fun σ' H'=>Pv σ' H'/\μ σ' H'<μ σ H,ct:=fun σ' H'=>Pv σ' H'/\μ σ' H'<μ σ H,bk:=D.nx} σ H1 else D.nx σ H1)
  (mono: ∀ σ H Q Q',(∀ b H1,Q b H1->Q' b H1)->c σ H Q->c σ H Q'):oG c tb D σ H:=by
 refine ⟨fun m σ H=>m=μ σ H/\Pv σ H,⟨_,rfl,h0⟩,?_⟩
 rintro m σ H ⟨rfl,p⟩
 refine mono σ H _ _ (fun b H1 q=>?_) (hs σ H p)
 cases b with
 | true=>exact ⟨_,fun σ' H' ⟨p',l⟩=>⟨_,l,rfl,p'⟩,q⟩
 | false=>exact q
noncomputable abbrev R2:=V->V->Hp->VK->Prop
noncomputable def OpR (X:Cx) (f:Value->Value->Sem Value) (r:R2):Prop:=
 ∀ (pins:List (Addr×Obj)) (s:Shared) (σ:St) (H:Hp) (x y:V) (v u:Value) (Q:VK),Inv X pins σ H s->RelV x v->RelV y u->r x y H Q->
  wpAny (model X.prog X.w) X.A (f v u) (EP X pins σ Q) X.xe s
noncomputable def UnR (X:Cx) (f:Value->Sem Value) (r:V->Hp->VK->Prop):Prop:=
 ∀ (pins:List (Addr×Obj)) (s:Shared) (σ:St) (H:Hp) (x:V) (v:Value) (Q:VK),Inv X pins σ H s->RelV x v->r x H Q->
  wpAny (model X.prog X.w) X.A (f v) (EP X pins σ Q) X.xe s
noncomputable def di (X:Cx) (f:Value) (r:List V->Hp->VK->Prop):Prop:=
 ∀ (pins:List (Addr×Obj)) (s:Shared) (σ:St) (H:Hp) (xs:List V) (us:List Value) (Q:VK),Inv X pins σ H s->Vals xs us->r xs H Q->
  wpAny (model X.prog X.w) X.A (call f us) (EP X pins σ Q) X.xe s
noncomputable def vF (X:Cx) (r:V->Hp->(Bool->Hp->Prop)->Prop):Prop:=
 ∀ (pins:List (Addr×Obj)) (s:Shared) (σ:St) (H:Hp) (x:V) (v:Value) (Q:Bool->Hp->Prop),Inv X pins σ H s->RelV x v->r x H Q->
  wpAny (model X.prog X.w) X.A (truthy v) (TP X pins σ Q) X.xe s
noncomputable def tOp (r:R2) (ta tb:TE):TE:=fun σ H Q=>ta σ H fun x H1=>tb σ H1 fun y H2=>r x y H2 Q
noncomputable def tUn (r:V->Hp->VK->Prop) (ta:TE):TE:=fun σ H Q=>ta σ H fun x H1=>r x H1 Q
noncomputable def rI (C:Int->Int->Prop) (g:Int->Int->V):R2:=fun x y H Q=> ∃ i j,x=.int i/\y=.int j/\C i j/\Q (g i j) H
noncomputable def rI0 (g:Int->Int->V):R2:=fun x y H Q=> ∃ i j,x=.int i/\y=.int j/\Q (g i j) H
noncomputable def rU (g:Int->V):V->Hp->VK->Prop:=fun x H Q=> ∃ i,x=.int i/\Q (g i) H
section
variable {X:Cx} {a b c:Expr} {ta tb tc:TE} {pos:Pos}
theorem tL (ha:PE X a ta) (hb:PE X b tb) {pins:List (Addr×Obj)} {s:Shared} {σ:St} {H:Hp} {R:V->V->Hp->Prop} (I:Inv X pins σ H s)
  (h:ta σ H fun x H1=>tb σ H1 fun y H2=>R x y H2) {Q:Value->Shared->Prop} {f:Value->Value->Sem Value}
  (hf: ∀ v u s2 x y H2,Inv X pins σ H2 s2->RelV x v->RelV y u->R x y H2->wpAny (model X.prog X.w) X.A (f v u) Q X.xe s2):
  wpAny (model X.prog X.w) X.A (eval a X.env) (fun v s₁=>wpAny (model X.prog X.w) X.A (eval b X.env) (fun u s₂=>wpAny (model X.prog X.w) X.A (f v u) Q X.xe s₂) X.xe s₁) X.xe s:=by
 refine thn (ha pins s σ H _ I h) fun v s1 ⟨x,H1,I1,r1,q1⟩=>?_
 refine thn (hb pins s1 σ H1 _ I1 q1) fun u s2 ⟨y,H2,I2,r2,q2⟩=>?_
 exact hf v u s2 x y H2 I2 r1 r2 q2
theorem au {op:Operator} {r:R2} (ho:OpR X (binaryOp op) r) (ha:PE X a ta) (hb:PE X b tb):PE X (.BinOp a op b pos) (tOp r ta tb):=by
 intro pins s σ H Q I h
 exact wpAny_BinOp (tL ha hb I h fun v u s2 x y H2 I2 rx ry q=>ho pins s2 σ H2 x y v u Q I2 rx ry q)
theorem pB {op:UnaryOp} {r:V->Hp->VK->Prop} (ho:UnR X (unaryOp op) r) (ha:PE X a ta):PE X (.UnaryOp op a pos) (tUn r ta):=by
 intro pins s σ H Q I h
 exact UnaryOp_ (thn (ha pins s σ H _ I h) fun v s1 ⟨x,H1,I1,r1,q1⟩=>ho pins s1 σ H1 x v Q I1 r1 q1)
theorem opI {f:Value->Value->Sem Value} {C:Int->Int->Prop} {g:Int->Int->Int}
  (rule: ∀ (i j:Int) (t u:Tok) (s:Shared) (Q:Value->Shared->Prop) (E:Value->Shared->Prop),C i j->Q (.int (g i j) s.toks) {s with toks:=s.toks+1}->wpAny (model X.prog X.w) X.A (f (.int i t) (.int j u)) Q E s):
  OpR X f (rI C fun i j=>.int (g i j)):=by
 intro pins s σ H x y v u Q I rx ry h
 obtain ⟨i,j,rfl,rfl,hc,q⟩:=h
 obtain ⟨t,rfl⟩:=rx
 obtain ⟨t',rfl⟩:=ry
 exact rule i j t t' s _ _ hc ⟨.int (g i j),H,I.tok _,⟨_,rfl⟩,q⟩
theorem uv {f:Value->Value->Sem Value} {g:Int->Int->Int}
  (rule: ∀ (i j:Int) (t u:Tok) (s:Shared) (Q:Value->Shared->Prop) (E:Value->Shared->Prop),Q (.int (g i j) s.toks) {s with toks:=s.toks+1}->wpAny (model X.prog X.w) X.A (f (.int i t) (.int j u)) Q E s):
  OpR X f (rI0 fun i j=>.int (g i j)):=by
 intro pins s σ H x y v u Q I rx ry h
 obtain ⟨i,j,rfl,rfl,q⟩:=h
 obtain ⟨t,rfl⟩:=rx
 obtain ⟨t',rfl⟩:=ry
 exact rule i j t t' s _ _ ⟨.int (g i j),H,I.tok _,⟨_,rfl⟩,q⟩
theorem sR {f:Value->Value->Sem Value} {g:Int->Int->Bool}
  (rule: ∀ (i j:Int) (t u:Tok) (s:Shared) (Q:Value->Shared->Prop) (E:Value->Shared->Prop),Q (.bool (g i j)) s->wpAny (model X.prog X.w) X.A (f (.int i t) (.int j u)) Q E s):
  OpR X f (rI0 fun i j=>.bl (g i j)):=by
 intro pins s σ H x y v u Q I rx ry h
 obtain ⟨i,j,rfl,rfl,q⟩:=h
 obtain ⟨t,rfl⟩:=rx
 obtain ⟨t',rfl⟩:=ry
 exact rule i j t t' s _ _ ⟨.bl (g i j),H,I,rfl,q⟩
noncomputable def vJ (i j:Int):Prop:=0<j/\j<1073741824
noncomputable def vI (i j:Int):Prop:=0<=j/\j<=1000000/\i.natAbs<2^64
noncomputable def CMul (i j:Int):Prop:=(-(2^64) <i/\i<2^64)\/(-(2^64) <j/\j<2^64)
theorem CMul.ok {i j:Int} (h:CMul i j):IntMulOk i j:=by
 rcases h with ⟨h1,h2⟩ | ⟨h1,h2⟩
 ·exact .of_left (intBits_le_64 h1 h2)
 ·exact .of_right (intBits_le_64 h1 h2)
theorem aS:OpR X (binaryOp .Add) (rI0 fun i j=>.int (i+j)):=uv fun _ _ _ _ _ _ _ q=>add_int q
theorem eZ:OpR X (binaryOp .Sub) (rI0 fun i j=>.int (i-j)):=uv fun _ _ _ _ _ _ _ q=>sub_int q
theorem cQ:OpR X (binaryOp .Mult) (rI CMul fun i j=>.int (i*j)):=opI fun _ _ _ _ _ _ _ hc q=>mul_int q hc.ok
theorem gM:OpR X (binaryOp .FloorDiv) (rI vJ fun i j=>.int (i/j)):=opI fun i j _ _ _ _ _ hc q=>by
 have h1:(0:Int) <j:=hc.1
 have h2:j<1073741824:=hc.2
 exact floordiv_int (by omega) (by rw [Int.fdiv_eq_ediv_of_nonneg i (by omega)];exact q) (.inl (PyProof.noPylong_small (by omega)))
theorem cg:OpR X (binaryOp .Mod) (rI (fun _ j=>0<j) fun i j=>.int (i%j)):=opI fun i j _ _ _ _ _ hc q=>by
 have h1:(0:Int) <j:=hc
 exact mod_int' (by omega) (by rw [Int.fmod_eq_emod_of_nonneg i (by omega)];exact q)
theorem sQ:OpR X (binaryOp .Pow) (rI vI fun i j=>.int (i^j.toNat)):=opI fun _ _ _ _ _ _ _ hc q=>pow_int_small hc.1 hc.2.1 hc.2.2 q
theorem unI {f:Value->Sem Value} {g:Int->Int}
  (rule: ∀ (i:Int) (t:Tok) (s:Shared) (Q:Value->Shared->Prop) (E:Value->Shared->Prop),Q (.int (g i) s.toks) {s with toks:=s.toks+1}->wpAny (model X.prog X.w) X.A (f (.int i t)) Q E s):
  UnR X f (rU fun i=>.int (g i)):=by
 intro pins s σ H x v Q I rx h
 obtain ⟨i,rfl,q⟩:=h
 obtain ⟨t,rfl⟩:=rx
 exact rule i t s _ _ ⟨.int (g i),H,I.tok _,⟨_,rfl⟩,q⟩
theorem kY:UnR X (unaryOp .USub) (rU fun i=>.int (-i)):=unI fun _ _ _ _ _ q=>neg_int q
end
noncomputable def ug:V->V->Bool
 | .non,.non=>true | .non,.int _=>true | .int _,.non=>true | .non,.bl _=>true | .bl _,.non=>true | .non,.str _=>true | .str _,.non=>true
 | .int _,.int _=>true | .bl _,.bl _=>true | .str _,.str _=>true | .byt _,.byt _=>true
 | .int _,.str _=>true | .str _,.int _=>true | .bl _,.str _=>true | .str _,.bl _=>true
 | _,_=>false
noncomputable def rEq:R2:=fun x y H Q=>ug x y=true/\Q (.bl (decide (x=y))) H
noncomputable def rNe:R2:=fun x y H Q=>ug x y=true/\Q (.bl (!decide (x=y))) H
theorem mx {i j:Int}:decide (V.int i=V.int j)=(i==j):=by
 rw [Bool.eq_iff_iff]
 simp
theorem qm {i j:Bool}:decide (V.bl i=V.bl j)=(i==j):=by
 rw [Bool.eq_iff_iff]
 simp
theorem mw {i j:Str}:decide (V.str i=V.str j)=(i==j):=by
 rw [Bool.eq_iff_iff]
 simp
theorem my {i j:Array UInt8}:decide (V.byt i=V.byt j)=(i.toList==j.toList):=by
 rw [Bool.eq_iff_iff]
 cases i
 cases j
 simp
section
variable {X:Cx} {a b c:Expr} {ta tb tc:TE} {pos:Pos}
theorem aN {pins:List (Addr×Obj)} {σ:St} {H:Hp} {s:Shared} {Q:VK} {k k':Bool} (I:Inv X pins σ H s) (q:Q (.bl k) H) (e:k=k'):EP X pins σ Q (.bool k') s:=by
 subst e
 exact ⟨.bl k,H,I,rfl,q⟩
theorem cB:OpR X (compareOp .Eq) rEq:=by
 intro pins s σ H x y v u Q I rx ry h
 obtain ⟨hs,q⟩:=h
 cases x with
 | non=>
  cases rx
  cases y with
  | non=>cases ry;exact PySem.EqNone.eq_none_none (aN I q (by simp))
  | bl j=>cases ry;exact PySem.EqNone.eq_none_bool (aN I q (by simp))
  | int j=>obtain ⟨t',rfl⟩:=ry;exact PySem.EqNone.eq_none_int (aN I q (by simp))
  | str j=>obtain ⟨t',rfl⟩:=ry;exact PySem.EqNone.eq_none_str (aN I q (by simp))
  | _=>exact absurd (show false=true from hs) Bool.false_ne_true
 | bl i=>
  cases rx
  cases y with
  | non=>cases ry;exact PySem.EqNone.eq_bool_none (aN I q (by simp))
  | bl j=>cases ry;exact eq_bool (aN I q qm)
  | str j=>obtain ⟨t',rfl⟩:=ry;exact PySem.EqMixed.eq_bool_str (aN I q (by simp))
  | _=>exact absurd (show false=true from hs) Bool.false_ne_true
 | int i=>
  obtain ⟨t,rfl⟩:=rx
  cases y with
  | non=>cases ry;exact PySem.EqNone.eq_int_none (aN I q (by simp))
  | int j=>obtain ⟨t',rfl⟩:=ry;exact eq_int (aN I q mx)
  | str j=>obtain ⟨t',rfl⟩:=ry;exact PySem.EqMixed.eq_int_str (aN I q (by simp))
  | _=>exact absurd (show false=true from hs) Bool.false_ne_true
 | str i=>
  obtain ⟨t,rfl⟩:=rx
  cases y with
  | non=>cases ry;exact PySem.EqNone.eq_str_none (aN I q (by simp))
  | bl j=>cases ry;exact PySem.EqMixed.eq_str_bool (aN I q (by simp))
  | int j=>obtain ⟨t',rfl⟩:=ry;exact PySem.EqMixed.eq_str_int (aN I q (by simp))
  | str j=>obtain ⟨t',rfl⟩:=ry;exact eq_str (aN I q mw)
  | _=>exact absurd (show false=true from hs) Bool.false_ne_true
 | byt i=>
  obtain ⟨t,rfl⟩:=rx
  cases y with
  | byt j=>obtain ⟨t',rfl⟩:=ry;exact PySem.W.eq_bytes (aN I q my)
  | _=>exact absurd (show false=true from hs) Bool.false_ne_true
 | _=>cases y <;> exact absurd (show false=true from hs) Bool.false_ne_true
theorem gy:OpR X (compareOp .NotEq) rNe:=by
 intro pins s σ H x y v u Q I rx ry h
 obtain ⟨hs,q⟩:=h
 cases x with
 | non=>
  cases rx
  cases y with
  | non=>cases ry;exact PySem.EqNone.ne_none_none (aN I q (by simp))
  | bl j=>cases ry;exact PySem.EqNone.ne_none_bool (aN I q (by simp))
  | int j=>obtain ⟨t',rfl⟩:=ry;exact PySem.EqNone.ne_none_int (aN I q (by simp))
  | str j=>obtain ⟨t',rfl⟩:=ry;exact PySem.EqNone.ne_none_str (aN I q (by simp))
  | _=>exact absurd (show false=true from hs) Bool.false_ne_true
 | bl i=>
  cases rx
  cases y with
  | non=>cases ry;exact PySem.EqNone.ne_bool_none (aN I q (by simp))
  | bl j=>cases ry;exact ne_bool (aN I q (congrArg not qm))
  | str j=>obtain ⟨t',rfl⟩:=ry;exact PySem.EqMixed.ne_bool_str (aN I q (by simp))
  | _=>exact absurd (show false=true from hs) Bool.false_ne_true
 | int i=>
  obtain ⟨t,rfl⟩:=rx
  cases y with
  | non=>cases ry;exact PySem.EqNone.ne_int_none (aN I q (by simp))
  | int j=>obtain ⟨t',rfl⟩:=ry;exact ne_int (aN I q (congrArg not mx))
  | str j=>obtain ⟨t',rfl⟩:=ry;exact PySem.EqMixed.ne_int_str (aN I q (by simp))
  | _=>exact absurd (show false=true from hs) Bool.false_ne_true
 | str i=>
  obtain ⟨t,rfl⟩:=rx
  cases y with
  | non=>cases ry;exact PySem.EqNone.ne_str_none (aN I q (by simp))
  | bl j=>cases ry;exact PySem.EqMixed.ne_str_bool (aN I q (by simp))
  | int j=>obtain ⟨t',rfl⟩:=ry;exact PySem.EqMixed.ne_str_int (aN I q (by simp))
  | str j=>obtain ⟨t',rfl⟩:=ry;exact ne_str (aN I q (congrArg not mw))
  | _=>exact absurd (show false=true from hs) Bool.false_ne_true
 | byt i=>
  obtain ⟨t,rfl⟩:=rx
  cases y with
  | byt j=>obtain ⟨t',rfl⟩:=ry;exact PySem.W.ne_bytes (aN I q (congrArg not my))
  | _=>exact absurd (show false=true from hs) Bool.false_ne_true
 | _=>cases y <;> exact absurd (show false=true from hs) Bool.false_ne_true
theorem i3:OpR X (compareOp .Lt) (rI0 fun i j=>.bl (decide (i<j))):=sR fun _ _ _ _ _ _ _ q=>lt_int q
theorem j3:OpR X (compareOp .Gt) (rI0 fun i j=>.bl (decide (j<i))):=sR fun _ _ _ _ _ _ _ q=>gt_int q
theorem uu:OpR X (compareOp .GtE) (rI0 fun i j=>.bl (decide (j<=i))):=sR fun _ _ _ _ _ _ _ q=>ge_int q
theorem ik:OpR X (compareOp .Is) (fun x y H Q=>y=.non/\Q (.bl (decide (x=.non))) H):=by
 intro pins s σ H x y v u Q I rx ry h
 obtain ⟨rfl,q⟩:=h
 cases ry
 refine is_none_gen (aN I q ?_)
 cases x <;> first
  | (cases rx;rfl)
  | (obtain ⟨t,rfl⟩:=rx;rfl)
theorem aH (b:Expr) {op:CmpOp} (h:op≠ .In:=by decide) (h2:op≠ .NotIn:=by decide):behindInMarks op b=false:=by
 have e1:(op==CmpOp.In)=false:=by cases op <;> first | rfl | exact absurd rfl h
 have e2:(op==CmpOp.NotIn)=false:=by cases op <;> first | rfl | exact absurd rfl h2
 cases b <;> simp [behindInMarks,e1,e2]
theorem cK {op:CmpOp} {r:R2} (ho:OpR X (compareOp op) r) (ha:PE X a ta) (hb:PE X b tb) (hm:behindInMarks op b=false):PE X (.Compare a [op] [b] pos) (tOp r ta tb):=by
 intro pins s σ H Q I h
 exact wpAny_Compare1 (tL ha hb I h fun v u s2 x y H2 I2 rx ry q=>ho pins s2 σ H2 x y v u Q I2 rx ry q) hm
noncomputable def tS (t:TE):TT:=fun σ H Q=>t σ H fun x H'=> ∃ k,x=.bl k/\Q k H'
theorem aD {op:CmpOp} {r:R2} (ho:OpR X (compareOp op) r) (ha:PE X a ta) (hb:PE X b tb) (hm:behindInMarks op b=false):PT X (.Compare a [op] [b] pos) (tS (tOp r ta tb)):=by
 intro pins s σ H Q I h
 refine wpAny_isTrue_Compare1 (thn (ha pins s σ H _ I h) fun v s1 ⟨x,H1,I1,r1,q1⟩=>thn (hb pins s1 σ H1 _ I1 q1) fun u s2 ⟨y,H2,I2,r2,q2⟩=>
  thn (ho pins s2 σ H2 x y v u _ I2 r1 r2 q2) fun c s3 ⟨z,H3,I3,r3,k,e,q3⟩=>?_) hm
 subst e
 cases r3
 exact wpAny_truthy_bool ⟨H3,I3,q3⟩
noncomputable def uO (K:PySem.W.Frag) (x:V) (H:Hp) (k:Bool):Prop:=
 match x with
 | .non=>k=false
 | .bl b=>k=b
 | .int i=>k=(i !=0)
 | .str y=>y.length<=sizeLine/\k=((y.length:Int)!=0)
 | .byt y=>y.size<=sizeLine/\k=((y.size:Int)!=0)
 | .ref p=>(∃ xs,SqL K H p xs/\k= !xs.isEmpty)\/(∃ xs,SqT K H p xs/\k= !xs.isEmpty)\/ ∃ kvs,H p=some (.dK kvs)/\k= !kvs.isEmpty
 | _=>False
theorem lR {κ:Type} {kvs:List (κ×V)} {vs:List (κ×Value)} (r:KV kvs vs):(!vs.isEmpty)= !kvs.isEmpty:=by
 cases r <;> rfl
theorem iw {xs:List V} {its:List Value} (r:Vals xs its):(!its.toArray.isEmpty)= !xs.isEmpty:=by
 cases r <;> simp
theorem gf:(sizeLine:Nat) <2^63:=by rw [sizeLine_eq];decide
theorem sf:vF X (fun x H Q=> ∃ k,uO X.K x H k/\Q k H):=by
 intro pins s σ H x v Q I rx h
 obtain ⟨k,e,q⟩:=h
 have hl:=gf
 have hs:sizeLine=16777216:=sizeLine_eq
 cases x with
 | non=>
  cases rx
  have e':k=false:=e
  subst e'
  exact truthy_none ⟨H,I,q⟩
 | bl b=>
  cases rx
  have e':k=b:=e
  subst e'
  exact wpAny_truthy_bool ⟨H,I,q⟩
 | int i=>
  obtain ⟨t,rfl⟩:=rx
  have e':k=(i !=0):=e
  subst e'
  exact PySem.P.truthy_int ⟨H,I,q⟩
 | str y=>
  obtain ⟨t,rfl⟩:=rx
  obtain ⟨hy,e'⟩:y.length<=sizeLine/\k=((y.length:Int)!=0):=e
  subst e'
  exact PySem.P.truthy_str (by omega) ⟨H,I.tok _,q⟩
 | byt y=>
  obtain ⟨t,rfl⟩:=rx
  obtain ⟨hy,e'⟩:y.size<=sizeLine/\k=((y.size:Int)!=0):=e
  subst e'
  exact PySem.W.truthy_bytes (by omega) ⟨H,I.tok _,q⟩
 | ref p=>
  cases rx
  have e':(∃ xs,SqL X.K H p xs/\k= !xs.isEmpty)\/(∃ xs,SqT X.K H p xs/\k= !xs.isEmpty)\/ ∃ kvs,H p=some (.dK kvs)/\k= !kvs.isEmpty:=e
  rcases e' with ⟨xs,hx,e'⟩ | ⟨xs,hx,e'⟩ | ⟨kvs,hx,e'⟩
  ·subst e'
   obtain ⟨its,r,pl,hz⟩:=I.list hx
   have hlen:=r.length
   exact wpAny_truthy_list pl.isList (by simp only [List.size_toArray];omega) ⟨H,I.tok _,by rw [iw r];exact q⟩
  ·subst e'
   obtain ⟨its,r,pl,hz⟩:=I.tuple hx
   have hlen:=r.length
   exact truthy_tuple pl (by simp only [List.size_toArray];omega) ⟨H,I.tok _,by rw [iw r];exact q⟩
  ·subst e'
   obtain ⟨hz,hS,vs,r,m⟩:kvs.length<=sizeLine/\(p==sysModules)=false/\ ∃ vs,KV kvs vs/\s.heap.DictOf (aX X.prog X.w) p vs:=I.hok p _ hx
   have hlen:kvs.length=vs.length:=Paired.length r
   exact wpAny_truthy_dict hS m (by omega) ⟨H,I.tok _,by rw [lR r];exact q⟩
 | _=>exact (show False from e).elim
theorem pj (ha:PE X a ta) (he: ∀ whole,isTrue a X.env whole=(do let v <- whole;standAt a.pos;holding [v] (truthy v))):
  PT X a (fun σ H Q=>ta σ H fun x H'=> ∃ k,uO X.K x H' k/\Q k H'):=by
 intro pins s σ H Q I h
 exact isTrue_plain (thn (ha pins s σ H _ I h) fun v s1 ⟨x,H1,I1,r1,q1⟩=>sf pins s1 σ H1 x v Q I1 r1 q1) (he _)
theorem e7:OpR X (binaryOp .Add) (fun x y H Q=> ∃ i j,x=.str i/\y=.str j/\i.length+j.length<=sizeLine/\Q (.str (i++j)) H):=by
 intro pins s σ H x y v u Q I rx ry h
 obtain ⟨i,j,rfl,rfl,hz,q⟩:=h
 obtain ⟨t,rfl⟩:=rx
 obtain ⟨t',rfl⟩:=ry
 exact add_str (fun t' tk=>⟨.str (i++j),H,I.tok _,⟨_,rfl⟩,q⟩) hz
theorem gU {x:V} {us:List Value} (r:Vals [x] us): ∃ u,us=[u]/\RelV x u:=by
 cases r with
 | cons r1 r2=>cases r2;exact ⟨_,rfl,r1⟩
theorem gm {x y:V} {us:List Value} (r:Vals [x,y] us): ∃ u w',us=[u,w']/\RelV x u/\RelV y w':=by
 cases r with
 | cons r1 r2=>
  cases r2 with
  | cons r3 r4=>cases r4;exact ⟨_,_,rfl,r1,r3⟩
theorem gk (hc:X.calm=true):di X (.builtin "max") (fun xs H Q=> ∃ i j,xs=[.int i,.int j]/\Q (.int (if j>i then j else i)) H):=by
 intro pins s σ H xs us Q I r h
 obtain ⟨i,j,rfl,q⟩:=h
 obtain ⟨u,w',rfl,⟨t,rfl⟩,⟨t',rfl⟩⟩:=gm r
 refine max_two_ints (I.ok.hd hc) fun h' tk k=>⟨_,H,I.kept k,?_,q⟩
 by_cases hj:j>i
 ·rw [if_pos hj,if_pos hj];exact ⟨_,rfl⟩
 ·rw [if_neg hj,if_neg hj];exact ⟨_,rfl⟩
theorem jb (hc:X.calm=true):di X (.builtin "min") (fun xs H Q=> ∃ i j,xs=[.int i,.int j]/\Q (.int (if j<i then j else i)) H):=by
 intro pins s σ H xs us Q I r h
 obtain ⟨i,j,rfl,q⟩:=h
 obtain ⟨u,w',rfl,⟨t,rfl⟩,⟨t',rfl⟩⟩:=gm r
 refine min_two_ints (I.ok.hd hc) fun h' tk k=>⟨_,H,I.kept k,?_,q⟩
 by_cases hj:j<i
 ·rw [if_pos hj,if_pos hj];exact ⟨_,rfl⟩
 ·rw [if_neg hj,if_neg hj];exact ⟨_,rfl⟩
theorem eO:di X (.type "int") (fun xs H Q=>(∃ i,xs=[.int i]/\Q (.int i) H)\/ ∃ k,xs=[.bl k]/\Q (.int (if k then 1 else 0)) H):=by
 intro pins s σ H xs us Q I r h
 rcases h with ⟨i,rfl,q⟩ | ⟨k,rfl,q⟩
 ·obtain ⟨u,rfl,t,rfl⟩:=gU r
  exact call_int_int ⟨.int i,H,I,⟨_,rfl⟩,q⟩
 ·obtain ⟨u,rfl,r1⟩:=gU r
  cases r1
  exact call_int_bool ⟨.int (if k then 1 else 0),H,I.tok _,⟨_,rfl⟩,q⟩
end
structure ObjM (h:Heap) (x dx C:Addr) (mA:Str->Option Value):Prop where
 obj:h.get? x=some (PySem.W.instObj C dx)
 ns:h.Ns1 dx mA
 ne:dx≠x
theorem nO {h:Heap} {dx:Addr} {mA:Str->Option Value} (n:h.Ns1 dx mA): ∃ od,h.get? dx=some od/\ ∀ name,PySem.W.lookIn name od=some (mA name):=by
 obtain ⟨o,es,ep,ho,hd,hk,_,hm⟩:=n
 refine ⟨o,ho,fun name=>?_⟩
 have e:=hm name
 unfold nsFind findBy at e
 rw [<- Array.find?_toList]at e
 unfold PySem.W.lookIn
 rw [hd]
 dsimp only
 split
 ·rename_i y q
  rw [q]at e
  exact congrArg some e
 ·rename_i q
  rw [q]at e
  have a:es.toList.any (·.refKey)=false:=by
   rw [List.any_eq_false]
   intro y hy
   obtain ⟨z,t,hkey⟩:=hk y (Array.mem_toList_iff.mp hy)
   simp [DictEntry.refKey,hkey]
  have a': ¬ es.toList.any (·.refKey)=true:=by rw [a];exact Bool.false_ne_true
  rw [if_neg a']
  exact congrArg some e
theorem ObjM.look {h:Heap} {x dx C:Addr} {mA:Str->Option Value} (I:ObjM h x dx C mA): ∃ od,PySem.W.InstAt h x (PySem.W.instObj C dx) C (some od)/\ ∀ name,PySem.W.lookIn name od=some (mA name):=
 let ⟨od,ho,hl⟩:=nO I.ns
 ⟨od,⟨I.obj,rfl,rfl,ho⟩,hl⟩
theorem RelO.some_of {v:V} {o:Option Value} (r:RelO (some v) o): ∃ u,o=some u/\RelV v u:=by
 cases o with
 | none=>exact (show False from r).elim
 | some u=>exact ⟨u,rfl,r⟩
section
variable {P:Program} {w:World} {H H':Hp} {h h':Heap} {a C dx:Addr} {fs fs':List (Str×V)}
theorem rz (hok:HOk P w H h) (e:H a=some (.ins C dx fs)): ∃ mA,ObjM h a dx C mA/\(∀ f,RelO (fs.lookup f) (mA f))/\PySem.Within mA (fs.map (·.1))/\fs.length<=1000/\H dx=some (.own a):=by
 obtain ⟨d,z,ne,ob,mA,n,r,q⟩:=(show ObjOk P w H h a (.ins C dx fs)from hok a _ e)
 exact ⟨mA,⟨ob,n,ne⟩,r,q,z,d⟩
end
structure Cls (K:PySem.W.Frag) (C:Addr):Prop where
 pg:PySem.W.plainGet K C Str.empty=true
 hd:PySem.W.hasDictIn K C=true
 po:PySem.W.plainOver K C=true
 sa:PySem.W.findIn K (.ref C) "__setattr__"=some (some (.builtin "object.__setattr__"))
theorem Cls.get {K:PySem.W.Frag} {C:Addr} (c:Cls K C) (f:Str):PySem.W.plainGet K C f=true:=c.pg
section
variable {X:Cx} {pins:List (Addr×Obj)} {σ:St} {H:Hp} {s:Shared} {A:Around} {E:Value->Shared->Prop} {Q:Value->Shared->Prop} {c:Value} {b:Bool}
inductive fO (K:PySem.W.Frag) (H:Hp):V->Value->Prop where
 | non:fO K H .non (.type "NoneType")
 | bl (x:Bool):fO K H (.bl x) (.type "bool")
 | int (i:Int):fO K H (.int i) (.type "int")
 | str (x:Str):fO K H (.str x) (.type "str")
 | flt (x:UInt64):fO K H (.flt x) (.type "float")
 | lst {a:Addr} {xs:List V} (e:H a=some (.lst xs)):fO K H (.ref a) (.type "list")
 | frz {a:Addr} {o:Obj} {xs:List V} (e:H a=some (.frz o (.lst xs))):fO K H (.ref a) (.type "list")
 | tup {a:Addr} {xs:List V} (e:H a=some (.tup xs)):fO K H (.ref a) (.type "tuple")
 | dK {a:Addr} {kvs:List (Key×V)} (e:H a=some (.dK kvs)):fO K H (.ref a) (.type "dict")
 | dT {a:Addr} {kvs:List (List Key×V)} (e:H a=some (.dT kvs)):fO K H (.ref a) (.type "dict")
 | ins {a C dx:Addr} {fs:List (Str×V)} (e:H a=some (.ins C dx fs)) (cl:Cls K C) (ha:PySem.W.findIn K (.ref C) "__class__"=some (some (.builtin "object.__class__")))
   (hn:PySem.W.specialIn K (.builtin "object.__class__") "__get__"=some (some (.builtin "getset_descriptor.__get__"))) (htk:PySem.W.takesIn K (.builtin "object.__class__")=some true)
   (hm:PySem.W.mroIn K C (.type "object")=some true):fO K H (.ref a) (.ref C)
theorem nX {x:V} {u t:Value} (I:Inv X pins σ H s) (rx:RelV x u) (ty:fO X.K H x t) (e:PySem.W.kitOne X.K t c=some b) (h: ∀ tk,Q (.bool b) {s with toks:=tk}):
  wpAny (model X.prog X.w) A (call (.builtin "isinstance") [u,c]) Q E s:=by
 cases ty with
 | non=>cases (show u=Value.none from rx);exact PySem.W.kia_one PySem.W.kitx_none I.kIn True.intro e (fun z=>nomatch z) h
 | bl y=>cases (show u=Value.bool y from rx);exact PySem.W.kia_one PySem.W.kitx_bool I.kIn True.intro e (fun z=>nomatch z) h
 | int i=>obtain ⟨t,q⟩:=(show ∃ t,u=Value.int i t from rx);cases q;exact PySem.W.kia_one PySem.W.kitx_int I.kIn True.intro e (fun z=>nomatch z) h
 | str y=>obtain ⟨t,q⟩:=(show ∃ t,u=Value.str y t from rx);cases q;exact PySem.W.kia_one PySem.W.kitx_str I.kIn True.intro e (fun z=>nomatch z) h
 | flt y=>obtain ⟨t,q⟩:=(show ∃ t,u=Value.float y t from rx);cases q;exact PySem.W.kia_one PySem.W.kitx_float I.kIn True.intro e (fun z=>nomatch z) h
 | @lst a xs ea=>
  cases (show u=Value.ref a from rx)
  obtain ⟨_,_,n,_,h1⟩:=(show ObjOk X.prog X.w H s.heap a (.lst xs)from I.hok a _ ea)
  exact PySem.W.kia_one PySem.W.kitx_list I.kIn ⟨_,h1,rfl⟩ e (fun z=>nomatch z) h
 | @frz a ob xs ea=>
  cases (show u=Value.ref a from rx)
  obtain ⟨_,_,_,n,_,h1⟩:=(show ObjOk X.prog X.w H s.heap a (.frz ob (.lst xs))from I.hok a _ ea)
  exact PySem.W.kia_one PySem.W.kitx_list I.kIn ⟨_,h1,rfl⟩ e (fun z=>nomatch z) h
 | @tup a xs ea=>
  cases (show u=Value.ref a from rx)
  obtain ⟨_,_,_,p⟩:=(show ObjOk X.prog X.w H s.heap a (.tup xs)from I.hok a _ ea)
  obtain ⟨o,h1,h2,_⟩:=p
  exact PySem.W.kia_one PySem.W.kitx_tuple I.kIn ⟨o,h1,h2⟩ e (fun z=>nomatch z) h
 | @dK a kvs ea=>
  cases (show u=Value.ref a from rx)
  obtain ⟨_,_,vs,_,p⟩:=(show ObjOk X.prog X.w H s.heap a (.dK kvs)from I.hok a _ ea)
  obtain ⟨o,es,ep,h1,h2,_⟩:=p
  exact PySem.W.kia_one PySem.W.kitx_dict I.kIn ⟨o,h1,h2.1⟩ e (fun z=>nomatch z) h
 | @dT a kvs ea=>
  cases (show u=Value.ref a from rx)
  obtain ⟨_,_,xs,_,o,es,ep,h1,h2,_⟩:=(show ObjOk X.prog X.w H s.heap a (.dT kvs)from I.hok a _ ea)
  exact PySem.W.kia_one PySem.W.kitx_dict I.kIn ⟨o,h1,h2.1⟩ e (fun z=>nomatch z) h
 | @ins a C dx fs ea cl ha hn htk hm=>
  cases (show u=Value.ref a from rx)
  obtain ⟨mA,O,_⟩:=rz I.hok ea
  obtain ⟨od,J,_⟩:=O.look
  exact PySem.W.kia_one (PySem.W.kitx_own (cl.get _) cl.hd ha hn htk hm) I.kIn J e (fun z=>nomatch z) h
end
structure Room (k:Nat) (A:Around):Prop where
 hd:A.handled=none
 dp:A.depth+3*k+5<recursionLimit
 un:A.units+16*k+200<cLine
theorem Room.mono {j k:Nat} {A:Around} (r:Room k A) (h:j<=k):Room j A:=⟨r.hd,by have:=r.dp;omega,by have:=r.un;omega⟩
theorem Room.deeper {k:Nat} {A:Around} (r:Room (k+1) A) (env:Env):Room k (A.deeper env):=
 ⟨r.hd,by have:=r.dp;show A.depth+1+3*k+5<_;omega,by have:=r.un;show A.units+3+16*k+200<_;omega⟩
theorem Room.in1 {k:Nat} {A:Around} (r:Room (k+1) A):Room k A.in1:=
 ⟨r.hd,by have:=r.dp;show A.depth+3*k+5<_;omega,by have:=r.un;show A.units+1+16*k+200<_;omega⟩
theorem Room.depth {k:Nat} {A:Around} (r:Room k A):A.depth<recursionLimit:=by have:=r.dp;omega
theorem Room.units {k:Nat} {A:Around} (r:Room k A):A.units+64<cLine:=by have:=r.un;omega
theorem Room.units0 {k:Nat} {A:Around} (r:Room k A):A.units<cLine:=by have:=r.un;omega
noncomputable def tW:TA:=fun _ H Q=>Q [] H
noncomputable def oJ (ta:TE) (tr:TA):TA:=fun σ H Q=>ta σ H fun x H1=>tr σ H1 fun xs H2=>Q (x::xs) H2
section
variable {X:Cx} {e:Expr} {es:List Expr} {te:TE} {t:TA} {pos:Pos}
theorem ae:PA X [] tW:=fun _ _ _ _ H Q I h=>Calls.spliced_nil ⟨[],H,I,.nil,h⟩
theorem ac (ha:PE X e te) (hr:PA X es t) (hs:starEach (e::es) X.env=(false,eval e X.env)::starEach es X.env:=by rfl):PA X (e::es) (oJ te t):=by
 intro pos pins s σ H Q I h
 rw [hs]
 show wpAny _ _ (spliced ((false,eval e X.env)::backTo pos (starEach es X.env))) _ _ s
 refine Calls.spliced_cons (thn (ha pins s σ H _ I h) fun u s1 ⟨x,H1,I1,r1,q1⟩=>?_)
 exact thn (hr pos pins s1 σ H1 _ I1 q1) fun us s2 ⟨xs,H2,I2,r2,q2⟩=>⟨x::xs,H2,I2,.cons r1 r2,q2⟩
noncomputable def uW (t:TA):TE:=fun σ H Q=>t σ H fun xs H1=>xs.length<=sizeLine/\ ∀ p,H1 p=none->Q (.ref p) (upd H1 p (.tup xs))
noncomputable def tZ (t:TA):TE:=fun σ H Q=>t σ H fun xs H1=>xs.length<=sizeLine/\ ∀ p,H1 p=none->Q (.ref p) (upd H1 p (.lst xs))
theorem aY {x1} (h:PA X es t):PE X (.Tuple es x1 pos) (uW t):=by
 intro pins s σ H Q I hq
 refine wpAny_Tuple_spliced (thn (h pos pins s σ H _ I hq) fun us s1 ⟨xs,H1,I1,r,z,q⟩=>⟨by rw [<- r.length];exact z,?_⟩)
 have hf:H1 s1.heap.objs.size=none:=I1.hok.fresh (Nat.le_refl _)
 refine ⟨.ref s1.heap.objs.size,upd H1 s1.heap.objs.size (.tup xs),I1.laid (t':=s1.toks) (fun b u e=>Heap.get?_push_of_some _ e) (Nat.le_refl _) ?_,rfl,q _ hf⟩
 exact ⟨z,us,r,⟨_,Heap.get?_push_size _ rfl,rfl,_,rfl⟩⟩
theorem bU (h:PA X es t):PE X (.List es pos) (tZ t):=by
 intro pins s σ H Q I hq
 refine wpAny_List_spliced (thn (h pos pins s σ H _ I hq) fun us s1 ⟨xs,H1,I1,r,z,q⟩=>⟨by rw [<- r.length];exact z,?_⟩)
 have hf:H1 s1.heap.objs.size=none:=I1.hok.fresh (Nat.le_refl _)
 refine ⟨.ref s1.heap.objs.size,upd H1 s1.heap.objs.size (.lst xs),I1.laid (t':=s1.toks) (fun b u e=>Heap.get?_push_of_some _ e) (Nat.le_refl _) ?_,rfl,q _ hf⟩
 exact ⟨z,us,0,r,Heap.get?_push_size _ rfl⟩
end
noncomputable abbrev Sp:=List V->Hp->VK->XK->Prop
noncomputable abbrev CXT:=List Env->Hp->Shared->XK->Value->Shared->Prop
structure qC (P:Program) (w:World) (K:PySem.W.Frag) (mg:Str->Option Value) (base:Heap) (A:Around) (outer:List Env) (s:Shared) (H:Hp):Prop where
 frames:A.frames=some outer
 mod:Mod K mg base
 bs: ∀ b o,base.get? b=some o->s.heap.get? b=some o/\H b=none
 bsz:base.objs.size<=s.heap.objs.size
 funs:s.heap.FunFrames base outer
 frf: ∀ b∈frs outer,H b=none
 hok:HOk P w H s.heap
 bare:AllBare s.gens
noncomputable def CE (outer:List Env) (P:Program) (w:World) (H:Hp) (s:Shared) (Q:VK) (u:Value) (s':Shared):Prop:=
 ∃ v H',s'.os=s.os/\AllBare s'.gens/\Un (frs outer) [] H H' s.heap s'.heap/\HOk P w H' s'.heap/\RelV v u/\Q v H'
noncomputable def CR (CX:CXT) (outer:List Env) (P:Program) (w:World) (H:Hp) (s:Shared) (Q:VK) (E:XK) (r:Result) (s':Shared):Prop:=
 match r with
 | .ok (.ret u)=>CE outer P w H s Q u s'
 | .ok _=>False
 | .error e=>CX outer H s E e s'
structure ay (P:Program) (w:World) (K:PySem.W.Frag) (mg:Str->Option Value) (base:Heap) (CX:CXT) (k:Nat) (f:Addr) (fd:FuncData) (ps:List Str) (sp:Sp):Prop where
 len: ∀ vs H Q E,sp vs H Q E->vs.length=ps.length
 run: ∀ (A:Around) (outer:List Env) (s:Shared) (H:Hp) (args:Args) (us:List Value) (vs:List V) (Q:VK) (E:XK),Room k A->qC P w K mg base A outer s H->BindsTo s fd args (ps.zip us)->Vals vs us->sp vs H Q E->
  codeAny (model P w) A (.call (.ref f) args) (CR CX outer P w H s Q E) s
section
variable {X:Cx} {pins:List (Addr×Obj)} {σ:St} {H:Hp} {s s':Shared}
theorem Inv.env0 (I:Inv X pins σ H s):qC X.prog X.w X.K X.mg X.base X.A X.stack s H:=
 ⟨I.ok.frames,I.ok.mod,I.bs,Nat.le_trans I.ok.bsz I.sz,I.stack,I.stkFree,I.hok,I.bare⟩
theorem Inv.after {Q:VK} {u:Value} (I:Inv X pins σ H s) (h:CE X.stack X.prog X.w H s Q u s'):EP X pins σ Q u s':=by
 obtain ⟨v,H',os,bare,un,hok,r,q⟩:=h
 obtain ⟨hh,g,d,t,os'⟩:=s'
 obtain rfl:os'=s.os:=os
 exact ⟨v,H',I.call (h':=hh) (g':=g) (d':=d) (t':=t) (ch:=[]) un hok bare (fun b z=>absurd z (by simp)),r,q⟩
end
noncomputable def rS (sp:Sp) (dvs:List V) (E:XK) (t:TA):TE:=fun σ H Q=>t σ H fun vs H1=>sp (vs++dvs) H1 Q E
noncomputable def Binds (K:PySem.W.Frag) (fd:FuncData) (ps:List Str) (ds:List Value):Prop:=
 ∀ (s:Shared) (us:List Value),K.In s.heap->(us++ds).length=ps.length->BindsTo s fd ⟨us,[]⟩ (ps.zip (us++ds))
theorem Binds.all {K:PySem.W.Frag} {fd:FuncData} {ps:List Str} (h: ∀ us:List Value,us.length=ps.length->bindArgs fd ⟨us,[]⟩=pure (ps.zip us)):Binds K fd ps []:=fun s us _ hl=>by
 rw [List.append_nil]at hl ⊢
 exact .of_eq (h us hl)
noncomputable def jN (CX:CXT) (X:Cx) (E:XK):Prop:= ∀ (pins:List (Addr×Obj)) (σ:St) (H:Hp) (s:Shared) (e:Value) (s':Shared),Inv X pins σ H s->CX X.stack H s E e s'->X.xe e s'
section
variable {X:Cx} {CX:CXT} {k:Nat} {f C:Addr} {fd:FuncData} {ps:List Str} {sp:Sp} {dvs:List V} {ds:List Value} {E:XK} {x m:Str} {p pos apos:Pos} {e o:Expr} {es:List Expr} {ta:TE} {t:TA}
theorem sG {pins:List (Addr×Obj)} {σ:St} {H:Hp} {s:Shared} {Q:VK} {us:List Value} {vs:List V} (F:ay X.prog X.w X.K X.mg X.base CX k f fd ps sp) (hr:Room k X.A) (hb:Binds X.K fd ps ds) (hd:Vals dvs ds) (hx:jN CX X E)
  (I:Inv X pins σ H s) (r:Vals vs us) (h:sp (vs++dvs) H Q E):wpAny (model X.prog X.w) X.A (call (.ref f) us) (EP X pins σ Q) X.xe s:=by
 have r2:Vals (vs++dvs) (us++ds):=r.append hd
 have hl:(us++ds).length=ps.length:=by rw [<- r2.length];exact F.len _ _ _ _ h
 refine wpAny_call (codeAny_mono (F.run X.A X.stack s H ⟨us,[]⟩ (us++ds) (vs++dvs) Q E hr I.env0 (hb s us I.kIn hl) r2 h) fun r s' hq=>?_)
 cases r with
 | error e=>exact hx pins σ H s e s' I hq
 | ok fl=>
  cases fl with
  | ret u=>exact I.after hq
  | next=>exact False.elim hq
  | brk=>exact False.elim hq
  | cont=>exact False.elim hq
theorem am (F:ay X.prog X.w X.K X.mg X.base CX k f fd ps sp) (hr:Room k X.A) (hg:Gl X x) (hm:X.mg x=some (.ref f)) (hk:PySem.W.keepIn X.K (.ref f)=true) (hb:Binds X.K fd ps ds) (hd:Vals dvs ds) (hx:jN CX X E)
  (ha:PA X (e::es) t) (hdb:(x==("__debug__":Str))=false:=by decide) (he:starEach (e::es) X.env=(false,eval e X.env)::starEach es X.env:=by rfl) (hpl:(backTo pos (starEach es X.env)).any (·.1)=false:=by rfl):
  PE X (.Call (.Name x p) (e::es) [] pos) (rS sp dvs E t):=by
 intro pins s σ H Q I h
 refine wpAny_Call_Name_kw (fF I hg hm ?_ hdb)
 refine PySem.W.callWith_K (h₀:=X.base) I.ok.mod.kin hk (thn (ha pos pins s σ H _ I h) fun us s1 ⟨vs,H1,I1,r,q⟩=>⟨I1.kIn,?_⟩) he hpl
 exact sG F hr hb hd hx I1 r q
end
structure aI (N P:List Str) (sc:Scope):Prop where
 kind:sc.kind=.function
 co:sc.isCoroutine=false
 gen:sc.isGenerator=false
 nd:N.Nodup
 pre:N.take P.length=P
 par: ∀ x∈P,sc.names.lookup x=some .local\/sc.names.lookup x=some .cell
 nofree: ∀ y∈sc.names,y.2≠ .free
theorem fsc {N P:List Str} {sc:Scope} (kind_:sc.kind=.function:=by rfl) (co_:sc.isCoroutine=false:=by rfl) (gen_:sc.isGenerator=false:=by rfl) (nd_:N.Nodup:=by decide +kernel) (pre_:N.take P.length=P:=by rfl) (par_: ∀ x∈P,sc.names.lookup x=some .local\/sc.names.lookup x=some .cell:=by decide +kernel) (nofree_: ∀ y∈sc.names,y.2≠ .free:=by decide +kernel):aI N P sc:=⟨kind_,co_,gen_,nd_,pre_,par_,nofree_⟩
theorem jc {kindOf:Str->Option NameKind} {x:Str}: ∀ {binds:List (Str×Value)} {m:Str->Option Value},(∀ v,(x,v)∉binds)->bindL kindOf binds m x=m x
 | [],_,_=>rfl
 | (n,v)::r,m,h=>by
  unfold bindL
  rw [jc fun w hw=>h w (List.mem_cons_of_mem _ hw)]
  split
  ·have:x≠n:=by rintro rfl;exact h v List.mem_cons_self
   simp [this]
  ·rfl
theorem je {kindOf:Str->Option NameKind} {x:Str}: ∀ {binds:List (Str×Value)} {m:Str->Option Value},(∀ v,(x,v)∉binds)->bindC kindOf binds m x=m x
 | [],_,_=>rfl
 | (n,v)::r,m,h=>by
  unfold bindC
  rw [je fun w hw=>h w (List.mem_cons_of_mem _ hw)]
  split
  ·rfl
  ·have:x≠n:=by rintro rfl;exact h v List.mem_cons_self
   simp [this]
theorem jd {kindOf:Str->Option NameKind} {x:Str} {v:Value}: ∀ {P:List Str} {vs:List Value} {i:Nat} {m:Str->Option Value},P.Nodup->P[i]? =some x->vs[i]? =some v->kindOf x=some .local->
  bindL kindOf (P.zip vs) m x=some v
 | [],_,_,_,_,h,_,_=>by simp at h
 | _::_,[],_,_,_,_,h,_=>by simp at h
 | p::P,w::vs,0,m,nd,h1,h2,hk=>by
  simp at h1 h2;subst h1;subst h2
  show bindL kindOf ((p,w)::P.zip vs) m p=_
  unfold bindL
  rw [jc fun v hv=>(List.nodup_cons.mp nd).1 (List.of_mem_zip hv).1,if_pos hk]
  simp
 | p::P,w::vs,i+1,m,nd,h1,h2,hk=>by
  show bindL kindOf ((p,w)::P.zip vs) m x=_
  unfold bindL
  exact jd (i:=i) (List.nodup_cons.mp nd).2 (by simpa using h1) (by simpa using h2) hk
theorem jf {kindOf:Str->Option NameKind} {x:Str} {v:Value}: ∀ {P:List Str} {vs:List Value} {i:Nat} {m:Str->Option Value},P.Nodup->P[i]? =some x->vs[i]? =some v->kindOf x≠some .local->
  bindC kindOf (P.zip vs) m x=some v
 | [],_,_,_,_,h,_,_=>by simp at h
 | _::_,[],_,_,_,_,h,_=>by simp at h
 | p::P,w::vs,0,m,nd,h1,h2,hk=>by
  simp at h1 h2;subst h1;subst h2
  show bindC kindOf ((p,w)::P.zip vs) m p=_
  unfold bindC
  rw [je fun v hv=>(List.nodup_cons.mp nd).1 (List.of_mem_zip hv).1,if_neg hk]
  simp
 | p::P,w::vs,i+1,m,nd,h1,h2,hk=>by
  show bindC kindOf ((p,w)::P.zip vs) m x=_
  unfold bindC
  exact jf (i:=i) (List.nodup_cons.mp nd).2 (by simpa using h1) (by simpa using h2) hk
noncomputable def fq (N:List Str) (vs:List V):St:=vs.map some++List.replicate (N.length-vs.length) none
noncomputable def dv (CX:CXT) (P:Program) (w:World) (K:PySem.W.Frag) (mg:Str->Option Value) (base:Heap) (N:List Str) (qual:Str) (scope:Scope) (f:Addr) (cd:Value) (A:Around) (outer:List Env) (s:Shared) (H:Hp) (E:XK):Cx where
 prog:=P
 w:=w
 K:=K
 mg:=mg
 base:=base
 A:=A.deeper (envOfC qual scope s.heap.objs.size f cd)
 N:=N
 s₀:=s
 H₀:=H
 env:=envOfC qual scope s.heap.objs.size f cd
 outer:=outer
 stack:=envOfC qual scope s.heap.objs.size f cd::outer
 ex:=[]
 calm:=true
 fn:=fun _=>true
 pn:=[]
 xe:=fun e s'=>wpAny (model P w) (A.deeper (envOfC qual scope s.heap.objs.size f cd)) (leaving (envOfC qual scope s.heap.objs.size f cd) e) (fun _ s''=>CX outer H s E e s'') (fun e' s''=>CX outer H s E e' s'') s'
theorem kH {sc:Scope} {n:Nat} {x:Str} (h:sc.names.lookup x=some .cell): ∃ c,(cellsFrom n sc.names []).lookup x=some c:=by
 have q:=PySem.W.cellsFrom_some sc.names n [] (.inl h)
 exact Option.isSome_iff_exists.mp q
theorem nY {CX:CXT} {P:Program} {w:World} {K:PySem.W.Frag} {mg:Str->Option Value} {base:Heap} {N ps:List Str} {qual:Str} {scope:Scope} {f:Addr} {cd:Value} {A:Around} {outer:List Env} {s s1:Shared} {H:Hp} {E:XK} {us:List Value} {vs:List V}
  (S:aI N ps scope) (hd:A.handled=none) (e0:qC P w K mg base A outer s H) (hl:vs.length=ps.length) (r:Vals vs us)
  (x:InCallC s s.heap.objs.size (bindL (envOfC qual scope s.heap.objs.size f cd).kindOf (ps.zip us) fun _=>none) (cellsFrom (s.heap.objs.size+1) scope.names []) (bindC (envOfC qual scope s.heap.objs.size f cd).kindOf (ps.zip us) fun _=>none) s1):
  Inv (dv CX P w K mg base N qual scope f cd A outer s H E) [] (fq N vs) H s1:=by
 have hpl:ps.length<=N.length:=by have:=congrArg List.length S.pre;rw [List.length_take]at this;omega
 obtain ⟨h1,tk,rfl,hk⟩:=x.done
 have noA: ∀ b:Addr,b∉(dv CX P w K mg base N qual scope f cd A outer s H E).ex:=fun b z=>absurd (show b∈([]:List Addr)from z) (by simp)
 refine ⟨⟨e0.mod,S.kind,rfl,rfl,Nat.le_refl _,fun y z c h1 h2=>?_,fun y hy=>?_,fun y c _ h=>?_,fun _=>hd,Around.frames_deeper e0.frames,.inr ⟨rfl,rfl⟩,fun b z=>absurd z (noA b),e0.bs,e0.bsz,fun b _ _=>noA b,fun b z=>absurd z (noA b),e0.funs,e0.frf⟩,
  rfl,e0.bare,Un.kept hk,⟨_,x.toInCall.ns,fun i y v h1 h2 h3=>?_⟩,fun y c h=>⟨_,x.cell y c h⟩,e0.hok.fresh (Nat.le_refl _),fun y c h=>?_,fun p hp=>absurd (show p∈([]:List (Addr×Obj))from hp) (by simp),e0.hok.kept hk,?_⟩
 ·exact name_of_addr x.apart (PySem.mem_of_lookup h1) (PySem.mem_of_lookup h2)
 ·have hy:scope.names.lookup y=some .cell\/scope.names.lookup y=some .free:=hy
  rcases hy with hy | hy
  ·exact kH hy
  ·exact absurd rfl (S.nofree _ (PySem.mem_of_lookup hy))
 ·exact Nat.le_of_lt (x.above y c (PySem.mem_of_lookup h))
 ·have hi:i<vs.length:=by
   unfold fq at h2
   by_cases hi:i<vs.length
   ·exact hi
   ·rw [List.getElem?_append_right (by simpa using hi)]at h2
    rw [List.getElem?_replicate]at h2
    split at h2 <;> cases h2
  have ha:vs[i]? =some v:=by
   unfold fq at h2
   rw [List.getElem?_append_left (by simpa using hi),List.getElem?_map]at h2
   cases e:vs[i]? with
   | none=>rw [e]at h2;cases h2
   | some a=>rw [e]at h2;cases h2;rfl
  obtain ⟨u,hu,rv⟩:=r.get ha
  have hp:ps[i]? =some y:=by
   rw [<- S.pre,List.getElem?_take_of_lt (by omega)];exact h1
  have ndP:ps.Nodup:=by rw [<- S.pre];exact S.nd.sublist (List.take_sublist _ _)
  refine ⟨u,rv,?_⟩
  rcases S.par y (List.mem_of_getElem? hp)with k | k
  ·exact .inl ⟨k,jd ndP hp hu k⟩
  ·obtain ⟨c,e⟩:=kH (n:=s.heap.objs.size+1) k
   refine .inr ⟨.inl k,c,e,?_⟩
   have q:=x.cell y c e
   rw [jf ndP hp hu (by show scope.names.lookup y≠_;rw [k];decide)]at q
   exact q
 ·exact e0.hok.fresh (Nat.le_of_lt (x.above y c (PySem.mem_of_lookup h)))
 ·unfold fq
  show _=N.length
  rw [List.length_append,List.length_map,List.length_replicate]
  omega
theorem rX {CX:CXT} {P:Program} {w:World} {K:PySem.W.Frag} {mg:Str->Option Value} {base:Heap} {k:Nat} {f:Addr} {name qual:Str} {params:Arguments} {body:List Stmt} {scope:Scope} {dV kV doc pm cdv ct oc:Value} {an od:Option Addr}
  {osl:Array (Option Value)} {N ps:List Str} {sp:Sp} (lk:K.lookup f=some ⟨oc,od,.func (PySem.W.fnOf name qual params body scope dV kV doc pm an cdv ct),osl⟩) (hcd:PySem.W.codeIn K cdv qual=true) (S:aI N ps scope)
  (len: ∀ vs H Q E,sp vs H Q E->vs.length=ps.length)
  (hbody: ∀ (A:Around) (outer:List Env) (s:Shared) (H:Hp) (vs:List V) (Q:VK) (E:XK),Room k (A.deeper (envOfC qual scope s.heap.objs.size f cdv))->sp vs H Q E->
   ∃ t,PSs (dv CX P w K mg base N qual scope f cdv A outer s H E) body t/\t {nx:=fun _ H'=>Q .non H',rt:=Q} (fq N vs) H):
  ay P w K mg base CX (k+1) f (PySem.W.fnOf name qual params body scope dV kV doc pm an cdv ct) ps sp:=by
 refine ⟨len,fun A outer s H args us vs Q E hr e0 hb r hsp=>?_⟩
 have hl:=len _ _ _ _ hsp
 have KX:K.In s.heap:=e0.mod.kin.keeps fun b o e=>(e0.bs b o e).1
 have lim:s.heap.NoLimit:=e0.mod.nolimit.keeps fun b o e=>(e0.bs b o e).1
 have hkind: ∀ y∈ps.zip us,scope.names.lookup y.1=some .local\/(scope.names.lookup y.1=some .cell/\((cellsFrom (s.heap.objs.size+1) scope.names []).lookup y.1).isSome=true):=fun ⟨n,v⟩ hy=>by
  rcases S.par n (List.of_mem_zip hy).1 with q | q
  ·exact .inl q
  ·exact .inr ⟨q,PySem.W.cellsFrom_some _ _ _ (.inl q)⟩
 refine codeAny_call_function hr.depth (KX _ _ lk) rfl S.co S.gen rfl (PySem.W.codeRec_of KX hcd) (hb _ _ _ _ ?_)
 refine wpAny_newFunctionEnv_cells S.kind hkind fun env he s1 x=>?_
 subst he
 refine ⟨lim.keeps x.toInCall.keep,codeAny_func ?_⟩
 obtain ⟨t,ht,hq⟩:=hbody A outer s H vs Q E (hr.deeper _) hsp
 have I:Inv (dv CX P w K mg base N qual scope f cdv A outer s H E) [] (fq N vs) H s1:=nY S hr.hd e0 hl r x
 refine wpAny_mono (ht [] s1 (fq N vs) H _ I hq) (fun fl s' hs=>?_) fun e s' hs=>hs
 have fin: ∀ {σ':St} {H':Hp} {v:V} {u:Value},Inv (dv CX P w K mg base N qual scope f cdv A outer s H E) [] σ' H' s'->RelV v u->Q v H'->CE outer P w H s Q u s':=
  fun {σ' H' v u} J rv q=>⟨v,H',J.os,J.bare,J.base,J.hok,rv,q⟩
 cases fl with
 | ret u=>
  obtain ⟨v,σ',H',J,rv,q⟩:=hs
  exact fin J rv q
 | next=>
  obtain ⟨σ',H',J,q⟩:=hs
  exact fin (v:=V.non) (u:=Value.none) J rfl q
 | brk=>
  obtain ⟨_,_,_,q⟩:=hs
  exact False.elim q
 | cont=>
  obtain ⟨_,_,_,q⟩:=hs
  exact False.elim q
section
variable {X:Cx} {x:Str} {p pos:Pos} {e:Expr} {es:List Expr} {t:TA} {id T:String} {r:List V->Hp->VK->Prop}
noncomputable def tCB (r:List V->Hp->VK->Prop) (t:TA):TE:=fun σ H Q=>t σ H fun vs H1=>r vs H1 Q
theorem ar (hc:di X (.builtin id) r) (hg:Gl X x) (hm:X.mg x=none) (hv:bootBuiltins x=some (.builtin id)) (ha:PA X (e::es) t) (hn:x≠"__name__":=by decide) (hdb:(x==("__debug__":Str))=false:=by decide)
  (he:starEach (e::es) X.env=(false,eval e X.env)::starEach es X.env:=by rfl) (hpl:(backTo pos (starEach es X.env)).any (·.1)=false:=by rfl):PE X (.Call (.Name x p) (e::es) [] pos) (tCB r t):=by
 intro pins s σ H Q I h
 refine wpAny_Call_Name_kw (dN I hg hm hv ?_ hn hdb)
 exact PyProof.Rows.callWith_builtin1 (thn (ha pos pins s σ H _ I h) fun us s1 ⟨vs,H1,I1,r1,q1⟩=>hc pins s1 σ H1 vs us Q I1 r1 q1) he hpl
theorem bc (hc:di X (.type T) r) (hg:Gl X x) (hm:X.mg x=none) (hv:bootBuiltins x=some (.type T)) (ha:PA X (e::es) t) (hn:x≠"__name__":=by decide) (hdb:(x==("__debug__":Str))=false:=by decide)
  (he:starEach (e::es) X.env=(false,eval e X.env)::starEach es X.env:=by rfl) (hpl:(backTo pos (starEach es X.env)).any (·.1)=false:=by rfl):PE X (.Call (.Name x p) (e::es) [] pos) (tCB r t):=by
 intro pins s σ H Q I h
 refine wpAny_Call_Name_kw (dN I hg hm hv ?_ hn hdb)
 exact PyProof.Rows.callWith_type1 (thn (ha pos pins s σ H _ I h) fun us s1 ⟨vs,H1,I1,r1,q1⟩=>hc pins s1 σ H1 vs us Q I1 r1 q1) he hpl
end
end L2
namespace HT
open PySem PyProof.Rows
section
variable {prog:Program} {w:World} {A:Around} {E:Value->Shared->Prop} {s:Shared}
theorem cat_tup {t b:Addr} {vs ws:List Value} {Q:Value->Shared->Prop} (ht:IsTup s.heap t vs.toArray) (hb:IsTup s.heap b ws.toArray) (hv:vs≠[])
  (h1:ws=[]->Q (.ref t) s) (h2:ws≠[]->Q (.ref s.heap.objs.size) {s with heap:=s.heap.push {cls:=.type "tuple",data:=.seq (vs++ws).toArray}})
  (hsz:vs.length+ws.length<=sizeLine):wpAny (model prog w) A (binaryOp .Add (.ref t) (.ref b)) Q E s:=by
 obtain ⟨⟨cls,dd,data,sl⟩,ho,hc,n,hd⟩:=id ht
 obtain ⟨⟨cls2,dd2,data2,sl2⟩,ho2,hc2,n2,hd2⟩:=id hb
 simp only at hc hd hc2 hd2
 subst hc hd hc2 hd2
 have e:vs.toArray++ws.toArray=(vs++ws).toArray:=by simp
 by_cases hw:ws=[]
 ·exact concat_meets ⟨_,ho,rfl⟩ ⟨_,ho2,rfl⟩ noFill_tuple_add seq_tuple_add PySem.F.slot_tuple_add PySem.F.entry_tuple_add (PySem.F.args_tuple_add_2 _ _)
   (tuple_addW1 t b vs.toArray ws.toArray n n2 dd dd2 sl sl2 (by simpa using hv) (by simp [hw])) ⟨ho,ho2,h1 hw⟩
 ·refine concat_meets ⟨_,ho,rfl⟩ ⟨_,ho2,rfl⟩ noFill_tuple_add seq_tuple_add PySem.F.slot_tuple_add PySem.F.entry_tuple_add (PySem.F.args_tuple_add_2 _ _)
   (tuple_addW2 t b vs.toArray ws.toArray n n2 dd dd2 sl sl2 (by simpa using hv) (by simpa using hw) (by rw [List.size_toArray,List.size_toArray];exact hsz)) ⟨ho,ho2,?_⟩
  rw [e]
  exact h2 hw
noncomputable def sIx (n d:Nat):Option Int->Nat
 | none=>d
 | some v=>if v<0 then (v+ (n:Int)).toNat else min v.toNat n
theorem sIx_none (n d:Nat):sIx n d none=d:=rfl
theorem sIx_nat (n d k:Nat):sIx n d (some (k:Int))=min k n:=by
 show (if (k:Int) <0 then ((k:Int) + (n:Int)).toNat else min (k:Int).toNat n)=min k n
 rw [if_neg (by omega),Int.toNat_natCast]
theorem sF (n d:Nat) (hd:d<=n) (o:Option Int):sIx n d o<=n:=by
 cases o with
 | none=>exact hd
 | some v=>
  show (if v<0 then (v+ (n:Int)).toNat else min v.toNat n)<=n
  by_cases hv:v<0
  ·rw [if_pos hv];omega
  ·rw [if_neg hv];exact Nat.min_le_right _ _
theorem mz (v:Int) (n d:Nat):(if v<0 then max (v+ (n:Int)) 0 else min v (n:Int))=((sIx n d (some v):Nat):Int):=by
 show (if v<0 then max (v+ (n:Int)) 0 else min v (n:Int))=(((if v<0 then (v+ (n:Int)).toNat else min v.toNat n):Nat):Int)
 by_cases hv:v<0
 ·simp only [if_pos hv];omega
 ·simp only [if_neg hv];omega
theorem lZ (lo hi:Option Int) (n:Nat):Builtin.Slice.sliceAdjust lo hi 1 (n:Int)=(((sIx n 0 lo:Nat):Int),((sIx n n hi:Nat):Int)):=by
 have h1: ¬ ((1:Int) <0):=by omega
 unfold Builtin.Slice.sliceAdjust
 simp only [h1,if_false]
 refine Prod.ext ?_ ?_
 ·cases lo with
  | none=>rfl
  | some v=>exact mz v n 0
 ·cases hi with
  | none=>rfl
  | some v=>exact mz v n n
theorem lD (i j:Nat):Builtin.Slice.slicePlaces (i:Int) (j:Int) 1=j-i:=by
 unfold Builtin.Slice.slicePlaces
 have h1:(1:Int) >0:=by omega
 simp only [h1,if_true,Int.ediv_one]
 split <;> omega
theorem cX {v:Value} {o:Option Int} {Q:Option Int->Shared->Prop} (p:IsPart v o) (h:Q o s):wpAny (model prog w) A (Builtin.Slice.slicePartIndex v) Q E s:=by
 cases p with
 | none=>exact slicePart_none h
 | int i t=>exact slicePart_int h
theorem fV {sl:Addr} {vl vu:Value} {lo hi:Option Int} {n:Nat} {Q:Int×Int×Nat->Shared->Prop} (hs:s.heap.IsSliceOf sl vl vu .none) (pl:IsPart vl lo) (pu:IsPart vu hi)
  (h:Q (((sIx n 0 lo:Nat):Int),1,sIx n n hi-sIx n 0 lo) s):wpAny (model prog w) A (Builtin.Slice.sliceApplied (.ref sl) (pure (n:Int))) Q E s:=by
 obtain ⟨os,hos,hcs,hds⟩:=id hs
 unfold Builtin.Slice.sliceApplied Builtin.Slice.sliceFields
 refine wpAny_bind (wpAny_bind (wpAny_field hos hds (x:=vl) rfl (wpAny_bind (wpAny_field hos hds (x:=vu) rfl (wpAny_bind (wpAny_field hos hds (x:=.none) rfl (wpAny_pure ?_)))))))
 refine wpAny_bind (slicePart_none ?_)
 show wpAny _ _ (if ((1:Int)==0)=true then _ else _) _ _ s
 rw [if_neg (by decide)]
 refine wpAny_bind (cX pl (wpAny_bind (cX pu (wpAny_bind (wpAny_pure ?_)))))
 show wpAny _ _ (match Builtin.Slice.sliceAdjust lo hi 1 (n:Int)with | (lo,hi)=>pure (lo,(1:Int),Builtin.Slice.slicePlaces lo hi 1)) _ _ s
 rw [lZ lo hi n]
 show wpAny _ _ (pure (((sIx n 0 lo:Nat):Int),(1:Int),Builtin.Slice.slicePlaces ((sIx n 0 lo:Nat):Int) ((sIx n n hi:Nat):Int) 1)) _ _ s
 rw [lD]
 exact wpAny_pure h
theorem pk (xs:Array Value) (i k:Nat):((List.range k).filterMap fun (m:Nat)=>xs[((i:Int) + (m:Int) *1).toNat]?).toArray=((xs.toList.drop i).take k).toArray:=by
 have e:(fun (m:Nat)=>xs[((i:Int) + (m:Int) *1).toNat]?)=fun m=>xs[i+m]? :=by
  funext m
  have:((i:Int) + (m:Int) *1).toNat=i+m:=by omega
  rw [this]
 rw [e]
 have:=pick_run xs i k
 rw [List.filterMap_map]at this
 have e2:((fun x=>xs[x]?)∘fun x=>i+x)=fun m=>xs[i+m]? :=rfl
 rw [e2]at this
 rw [this]
theorem getItem_tuple_cut {t sl:Addr} {items:Array Value} {vl vu:Value} {lo hi:Option Int} {Q:Value->Shared->Prop} (ht:IsTup s.heap t items) (hs:s.heap.IsSliceOf sl vl vu .none) (pl:IsPart vl lo) (pu:IsPart vu hi)
  (hw: ¬ (sIx items.size 0 lo=0/\sIx items.size items.size hi=items.size))
  (h:Q (.ref s.heap.objs.size) {s with heap:=s.heap.push {cls:=.type "tuple",data:=.seq ((items.toList.drop (sIx items.size 0 lo)).take (sIx items.size items.size hi-sIx items.size 0 lo)).toArray}})
  (hsz:items.size<=sizeLine):wpAny (model prog w) A (getItem (.ref t) (.ref sl)) Q E s:=by
 have htake:sizeOk (.seq ((items.toList.drop (sIx items.size 0 lo)).take (sIx items.size items.size hi-sIx items.size 0 lo)).toArray):=by
  show ((items.toList.drop (sIx items.size 0 lo)).take (sIx items.size items.size hi-sIx items.size 0 lo)).toArray.size<=sizeLine
  rw [List.size_toArray,List.length_take,List.length_drop,Array.length_toList]
  omega
 have hj:sIx items.size items.size hi<=items.size:=sF _ _ (Nat.le_refl _) hi
 obtain ⟨os,hos,hcs,hds⟩:=id hs
 have hTs:s.TypeIs (.ref sl) "slice":=⟨os,hos,hcs⟩
 unfold getItem
 try with_reducible refine wpAny_holding ?_
 first | refine wpAny_bind (wpAny_pure ?_) | skip
 refine wpAny_bind (wpAny_sequenceKey ht.typeIs (by decide) ?_)
 refine wpAny_bind (wpAny_callSpecial?_slot (name:=Str.ofString "__getitem__") ht.typeIs PyProof.Rows.slot_tuple_getitem
  (wpAny_call_entry PyProof.Rows.slot_tuple_getitem ht.typeIs entry_tuple_getitem ?_ (args_tuple_getitem _ _)))
 show wpAny _ _ (Builtin.Tuple.tupleItemsOf (.ref t) >>= _) _ _ s
 refine wpAny_bind (tupleItemsOf_ ht ?_)
 refine wpAny_bind (wpAny_typeOf hTs ?_)
 rw [if_pos (by decide)]
 refine wpAny_bind (fV hs pl pu ?_)
 have hno: ¬ ((((sIx items.size 0 lo:Nat):Int)==0&&(1:Int)==1&&(sIx items.size items.size hi-sIx items.size 0 lo)==items.size)=true):=by
  intro q
  rw [Bool.and_eq_true,Bool.and_eq_true]at q
  have q1:((sIx items.size 0 lo:Nat):Int)=0:=eq_of_beq q.1.1
  have q2:sIx items.size items.size hi-sIx items.size 0 lo=items.size:=eq_of_beq q.2
  exact hw ⟨by omega,by omega⟩
 show wpAny _ _ (if (((sIx items.size 0 lo:Nat):Int)==0&&(1:Int)==1&&(sIx items.size items.size hi-sIx items.size 0 lo)==items.size)=true then _ else _) _ _ s
 rw [if_neg hno,pk]
 first
  | exact wpAny_bind (m:=Builtin.Tuple.tupleExact _) (wpAny_newObj_type (wpAny_pure ⟨_,rfl,wpAny_pure h⟩) htake)
  | exact wpAny_bind (m:=Builtin.Tuple.tupleExact _) (wpAny_newObj_type (wpAny_bind (wpAny_pure (wpAny_pure ⟨_,rfl,wpAny_pure h⟩))) htake)
  | exact wpAny_bind (wpAny_bind (m:=Builtin.Tuple.tupleExact _) (wpAny_newObj_type (wpAny_pure (wpAny_pure ⟨_,rfl,wpAny_pure h⟩)) htake))
  | exact wpAny_bind (wpAny_bind (m:=Builtin.Tuple.tupleExact _) (wpAny_newObj_type (wpAny_pure ⟨_,rfl,wpAny_pure h⟩) htake))
end
end HT
namespace L2
open PySem PySem.Spec PyProof.Rows
noncomputable abbrev TO:=St->Hp->(Option Int->Hp->Prop)->Prop
noncomputable def PO (X:Cx) (e:Option Expr) (t:TO):Prop:=
 ∀ (pins:List (Addr×Obj)) (s:Shared) (σ:St) (H:Hp) (Q:Option Int->Hp->Prop),Inv X pins σ H s->t σ H Q->
  wpAny (model X.prog X.w) X.A (evalPart e X.env) (fun u s'=> ∃ o H',Inv X pins σ H' s'/\IsPart u o/\Q o H') X.xe s
noncomputable def qE:TO:=fun _ H Q=>Q none H
noncomputable def tU (t:TE):TO:=fun σ H Q=>t σ H fun x H1=> ∃ i,x=.int i/\Q (some i) H1
section
variable {X:Cx} {e:Expr} {te:TE} {lo hi:Option Expr} {tl th:TO} {pos p2:Pos}
theorem bw:PO X none qE:=by
 intro pins s σ H Q I h
 rw [evalPart_none]
 exact wpAny_pure ⟨none,H,I,.none,h⟩
theorem bg (h:PE X e te):PO X (some e) (tU te):=by
 intro pins s σ H Q I hw
 rw [evalPart_some]
 refine thn (h pins s σ H _ I hw) fun u s1 ⟨x,H1,I1,r1,q1⟩=>?_
 obtain ⟨i,rfl,q⟩:=q1
 obtain ⟨t,rfl⟩:=r1
 exact ⟨some i,H1,I1,.int i t,q⟩
noncomputable def SlR (X:Cx) (r:V->Option Int->Option Int->Hp->VK->Prop):Prop:=
 ∀ (pins:List (Addr×Obj)) (s:Shared) (σ:St) (H:Hp) (x:V) (v vl vu:Value) (lo hi:Option Int) (sl:Addr) (Q:VK),Inv X pins σ H s->RelV x v->s.heap.IsSliceOf sl vl vu .none->IsPart vl lo->IsPart vu hi->r x lo hi H Q->
  ∃ T id,typeLookup (.type T) "__getitem__"=pure (some (.builtin id))/\s.TypeIs v T/\wpAny (model X.prog X.w) X.A (getItem v (.ref sl)) (EP X pins σ Q) X.xe s
noncomputable def tSl (r:V->Option Int->Option Int->Hp->VK->Prop) (te:TE) (tl th:TO):TE:=fun σ H Q=>te σ H fun x H1=>tl σ H1 fun l H2=>th σ H2 fun u H3=>r x l u H3 Q
theorem a7 {r:V->Option Int->Option Int->Hp->VK->Prop} (hr:SlR X r) (he:PE X e te) (hl:PO X lo tl) (hu:PO X hi th):PE X (.Subscript e (.Slice lo hi none p2) pos) (tSl r te tl th):=by
 intro pins s σ H Q I h
 refine Subscript_ (thn (he pins s σ H _ I h) fun v s1 ⟨x,H1,I1,r1,q1⟩=>?_)
 refine wpAny_Slice (thn (hl pins s1 σ H1 _ I1 q1) fun vl s2 ⟨l,H2,I2,pl,q2⟩=>thn (hu pins s2 σ H2 _ I2 q2) fun vu s3 ⟨u,H3,I3,pu,q3⟩=>?_)
 rw [evalPart_none]
 refine wpAny_pure ?_
 have I4:Inv X pins σ H3 {s3 with heap:=s3.heap.push {cls:=.type "slice",data:=.fields #[vl,vu,.none]}}:=I3.kept (t':=s3.toks) fun b ob q=>Heap.get?_push_of_some _ q
 obtain ⟨T,id,hT,ht,hg⟩:=hr pins {s3 with heap:=s3.heap.push {cls:=.type "slice",data:=.fields #[vl,vu,.none]}} σ H3 x v vl vu l u s3.heap.objs.size Q I4 r1 (Heap.IsSliceOf.new ..) pl pu q3
 show wpAny (model X.prog X.w) X.A (subscriptTail e (.Slice lo hi none p2) v (.ref s3.heap.objs.size)) (EP X pins σ Q) X.xe {s3 with heap:=s3.heap.push {cls:=.type "slice",data:=.fields #[vl,vu,.none]}}
 exact tail_any (ops:=[.ref s3.heap.objs.size,v]) ht hT hg (by with_unfolding_all rfl)
noncomputable def fg (xs:List V) (lo hi:Option Int):List V:=(xs.drop (HT.sIx xs.length 0 lo)).take (HT.sIx xs.length xs.length hi-HT.sIx xs.length 0 lo)
theorem gC (xs:List V) (lo hi:Option Int):(fg xs lo hi).length<=xs.length:=by
 unfold fg
 rw [List.length_take,List.length_drop]
 omega
noncomputable def u9 (K:PySem.W.Frag):V->Option Int->Option Int->Hp->VK->Prop:=fun x lo hi H Q=> ∃ a xs,x=.ref a/\SqT K H a xs/\
 ¬ (HT.sIx xs.length 0 lo=0/\HT.sIx xs.length xs.length hi=xs.length)/\ ∀ p,H p=none->Q (.ref p) (upd H p (.tup (fg xs lo hi)))
theorem lq:SlR X (u9 X.K):=by
 intro pins s σ H x v vl vu lo hi sl Q I rx hs pl pu h
 obtain ⟨a,xs,rfl,hx,hw,q⟩:=h
 cases rx
 obtain ⟨its,r,ht,hz⟩:=I.tuple hx
 have hlen:its.toArray.size=xs.length:=by rw [List.size_toArray];exact r.length.symm
 refine ⟨"tuple",_,PyProof.Rows.slot_tuple_getitem.lookup,ht.typeIs,?_⟩
 refine HT.getItem_tuple_cut ht hs pl pu (by rw [hlen];exact hw) ?_ (by rw [hlen];exact hz)
 rw [hlen]
 refine ⟨.ref s.heap.objs.size,_,I.laid (t':=s.toks) (o:=.tup (fg xs lo hi)) (fun b ob q=>Heap.get?_push_of_some _ q) (Nat.le_refl _) ?_,rfl,q _ (I.hok.fresh (Nat.le_refl _))⟩
 exact ⟨Nat.le_trans (gC xs lo hi) hz,_,(r.drop (HT.sIx xs.length 0 lo)).take (HT.sIx xs.length xs.length hi-HT.sIx xs.length 0 lo),IsTup.new _ _⟩
noncomputable def ut (K:PySem.W.Frag):R2:=fun x y H Q=> ∃ a b xs ys,x=.ref a/\y=.ref b/\SqT K H a xs/\SqT K H b ys/\xs≠[]/\xs.length+ys.length<=sizeLine/\
 (ys=[]->Q (.ref a) H)/\(ys≠[]-> ∀ p,H p=none->Q (.ref p) (upd H p (.tup (xs++ys))))
theorem Vals.nil_iff {xs:List V} {us:List Value} (r:Vals xs us):us=[]↔xs=[]:=by
 cases r with
 | nil=>simp
 | cons _ _=>simp
theorem qV:OpR X (binaryOp .Add) (ut X.K):=by
 intro pins s σ H x y v u Q I rx ry h
 obtain ⟨a,b,xs,ys,rfl,rfl,ha,hb,hx,hz,q1,q2⟩:=h
 cases rx
 cases ry
 obtain ⟨its,r1,p1,_⟩:=I.tuple ha
 obtain ⟨its2,r2,p2,_⟩:=I.tuple hb
 refine HT.cat_tup p1 p2 (fun z=>hx (r1.nil_iff.mp z)) (fun z=>⟨.ref a,H,I,rfl,q1 (r2.nil_iff.mp z)⟩) (fun z=>?_) (by rw [<- r1.length,<- r2.length];exact hz)
 refine ⟨.ref s.heap.objs.size,_,I.laid (t':=s.toks) (o:=.tup (xs++ys)) (fun b ob q=>Heap.get?_push_of_some _ q) (Nat.le_refl _) ?_,rfl,q2 (fun w=>z (r2.nil_iff.mpr w)) _ (I.hok.fresh (Nat.le_refl _))⟩
 exact ⟨by rw [List.length_append];exact hz,_,r1.append r2,IsTup.new _ _⟩
end
noncomputable def ixN (n:Nat) (i:Int):Option Nat:=if 0<=i then (if i<n then some i.toNat else none)else if -(n:Int)<=i then some (i+n).toNat else none
noncomputable def atI {α:Type} (xs:List α) (i:Int):Option α:=(ixN xs.length i).bind fun j=>xs[j]?
theorem mn {n:Nat} {i:Int} {j:Nat} (h:ixN n i=some j):seqIndex? i n=some j/\j<n/\ -(n:Int)<=i/\i<n:=by
 unfold ixN at h
 by_cases h0:0<=i
 ·rw [if_pos h0]at h
  by_cases h1:i<n
  ·rw [if_pos h1]at h
   have e:i.toNat=j:=Option.some.inj h
   exact ⟨by rw [seqIndex_of h0 h1,e],by omega,by omega,h1⟩
  ·rw [if_neg h1]at h;cases h
 ·rw [if_neg h0]at h
  by_cases h1: -(n:Int)<=i
  ·rw [if_pos h1]at h
   have e:(i+n).toNat=j:=Option.some.inj h
   exact ⟨by rw [seqIndex_neg (by omega) h1,e],by omega,h1,by omega⟩
  ·rw [if_neg h1]at h;cases h
theorem jK {α:Type} {xs:List α} {i:Int} {v:α} (h:atI xs i=some v): ∃ j,seqIndex? i xs.length=some j/\xs[j]? =some v/\j<xs.length/\ -(xs.length:Int)<=i/\i<xs.length:=by
 unfold atI at h
 cases e:ixN xs.length i with
 | none=>rw [e]at h;cases h
 | some j=>
  rw [e]at h
  obtain ⟨h1,h2,h3,h4⟩:=mn e
  exact ⟨j,h1,h,h2,h3,h4⟩
theorem aG {α:Type} {xs:List α} {j:Nat} {v:α} (h:xs[j]? =some v):atI xs (j:Int)=some v:=by
 have hj:j<xs.length:=(List.getElem?_eq_some_iff.mp h).1
 have e:ixN xs.length (j:Int)=some j:=by
  unfold ixN
  rw [if_pos (by omega),if_pos (by omega)];simp
 unfold atI;rw [e];exact h
noncomputable def rP (b:Expr):Prop:= ∀ o i,subscripted b false o i=operate [o,i] (getItem o i)
noncomputable def IxR (X:Cx) (r:R2):Prop:=
 ∀ (value slice:Expr) (pins:List (Addr×Obj)) (s:Shared) (σ:St) (H:Hp) (x y:V) (v u:Value) (Q:VK),Inv X pins σ H s->RelV x v->RelV y u->r x y H Q->
  subscripted slice false v u=operate [v,u] (getItem v u)->wpAny (model X.prog X.w) X.A (subscriptTail value slice v u) (EP X pins σ Q) X.xe s
noncomputable def MtR (X:Cx) (id:String) (r:V->List V->Hp->VK->Prop):Prop:=
 ∀ (pins:List (Addr×Obj)) (s:Shared) (σ:St) (H:Hp) (x:V) (xs:List V) (v:Value) (us:List Value) (Q:VK),Inv X pins σ H s->RelV x v->Vals xs us->r x xs H Q->
  wpAny (model X.prog X.w) X.A (call (.builtin id) (v::us)) (EP X pins σ Q) X.xe s
section
variable {X:Cx} {a b:Expr} {ta tb:TE} {pos:Pos}
theorem ax {r:R2} (hr:IxR X r) (ha:PE X a ta) (hb:PE X b tb) (hs:rP b):PE X (.Subscript a b pos) (tOp r ta tb):=by
 intro pins s σ H Q I h
 exact Subscript_ (tL ha hb I h fun v u s2 x y H2 I2 rx ry q=>hr a b pins s2 σ H2 x y v u Q I2 rx ry q (hs _ _))
noncomputable def uq (K:PySem.W.Frag):R2:=fun x y H Q=> ∃ p xs i v,x=.ref p/\y=.int i/\SqL K H p xs/\atI xs i=some v/\Q v H
noncomputable def iO (K:PySem.W.Frag):R2:=fun x y H Q=> ∃ p xs i v,x=.ref p/\y=.int i/\SqT K H p xs/\atI xs i=some v/\Q v H
noncomputable def vh:R2:=fun x y H Q=> ∃ z i c,x=.str z/\y=.int i/\z.length<=sizeLine/\atI z.cps.toList i=some c/\Q (.str ⟨#[c]⟩) H
theorem aQ:IxR X (uq X.K):=by
 intro value slice pins s σ H x y v u Q I rx ry h hs
 obtain ⟨p,xs,i,z,rfl,rfl,hq,he,q⟩:=h
 cases rx
 obtain ⟨t,rfl⟩:=ry
 obtain ⟨its,r,pl,hz⟩:=I.list hq
 obtain ⟨j,h1,h2,h3,h4,h5⟩:=jK he
 obtain ⟨w,ew,rw'⟩:=r.get h2
 have hl:=r.length
 have hn:=gf
 have fin:EP X pins σ Q w s:=⟨z,H,I,rw',q⟩
 by_cases h0:0<=i
 ·have hj:i.toNat=j:=by
   rw [seqIndex_of h0 h5]at h1
   exact Option.some.inj h1
  exact item_listR pl.isList h0 (by omega) (by rw [hj];simpa using ew) fin hs
 ·have hj:(i+ (its.toArray.size:Int)).toNat=j:=by
   rw [seqIndex_neg (by omega) h4]at h1
   rw [List.size_toArray,<- hl]
   exact Option.some.inj h1
  exact subscriptTail_builtinR (x:=w) pl.isList.typeIs slot_list_getitem.lookup
   (wpAny_getItem_list_neg (Q:=fun r s'=>r=w/\EP X pins σ Q r s') pl.isList (by omega) (by rw [List.size_toArray] <;> omega) (by omega) (by rw [hj];simpa using ew) ⟨rfl,fin⟩) hs
theorem aE:IxR X (iO X.K):=by
 intro value slice pins s σ H x y v u Q I rx ry h hs
 obtain ⟨p,xs,i,z,rfl,rfl,hq,he,q⟩:=h
 cases rx
 obtain ⟨t,rfl⟩:=ry
 obtain ⟨its,r,pl,hz⟩:=I.tuple hq
 obtain ⟨j,h1,h2,h3,h4,h5⟩:=jK he
 obtain ⟨w,ew,rw'⟩:=r.get h2
 have hl:=r.length
 have hn:=gf
 have fin:EP X pins σ Q w s:=⟨z,H,I,rw',q⟩
 exact subscriptTail_builtinR (x:=w) pl.typeIs slot_tuple_getitem.lookup
  (getItem_tuple (j:=j) (Q:=fun r s'=>r=w/\EP X pins σ Q r s') pl (by omega) (by omega) (by rw [List.size_toArray,<- hl];exact h1) (by simpa using ew) ⟨rfl,fin⟩) hs
theorem lP:IxR X vh:=by
 intro value slice pins s σ H x y v u Q I rx ry h hs
 obtain ⟨z,i,c,rfl,rfl,hz,he,q⟩:=h
 obtain ⟨t,rfl⟩:=rx
 obtain ⟨t',rfl⟩:=ry
 obtain ⟨j,h1,h2,h3,h4,h5⟩:=jK he
 have hl:z.cps.toList.length=z.length:=by simp [Str.length]
 rw [hl]at h1 h4 h5
 have hn:=gf
 exact tail_any (typeIs_str s z t) slot_str_getitem.lookup (getItem_str (c:=c) (by
  have e1:decide (i< -(2^63:Int))=false:=decide_eq_false (by omega)
  have e2:decide (i≥2^63)=false:=decide_eq_false (by omega)
  rw [e1,e2,Bool.or_false]) (by rw [h1];simpa using h2) ⟨.str ⟨#[c]⟩,H,I.tok _,⟨_,rfl⟩,q⟩) hs
theorem lO (its:List Value) (n j:Nat) (u:Value):Obj.mapSeq (·.setIfInBounds j u) {cls:=.type "list",data:=.seq its.toArray n}={cls:=.type "list",data:=.seq (its.set j u).toArray n}:=by
 simp [Obj.mapSeq]
theorem Inv.lst {pins:List (Addr×Obj)} {σ:St} {H:Hp} {s:Shared} {p:Addr} {xs:List V} (I:Inv X pins σ H s) (h:H p=some (.lst xs)):
  ∃ (its:List Value) (n:Nat),Vals xs its/\s.heap.get? p=some {cls:=.type "list",data:=.seq its.toArray n}/\xs.length<=sizeLine:=by
 obtain ⟨z,its,n,r,e⟩:=I.hok p _ h
 exact ⟨its,n,r,e,z⟩
theorem Inv.lstUpd {pins:List (Addr×Obj)} {σ:St} {H:Hp} {s:Shared} {p:Addr} {xs ys:List V} {its its':List Value} {n n':Nat} {f:Obj->Obj} (I:Inv X pins σ H s) (h:H p=some (.lst xs))
  (ho:s.heap.get? p=some {cls:=.type "list",data:=.seq its.toArray n}) (hf:f {cls:=.type "list",data:=.seq its.toArray n}={cls:=.type "list",data:=.seq its'.toArray n'}) (r:Vals ys its') (hz:ys.length<=sizeLine) (t:Nat):
  Inv X pins σ (upd H p (.lst ys)) {s with heap:=s.heap.update p f,toks:=t}:=by
 have e:(s.heap.update p f).get? p=some {cls:=.type "list",data:=.seq its'.toArray n'}:=by
  rw [Heap.get?_update_self f ho (by rw [hf] <;> rfl),hf]
 refine I.write (x:=p) (e:=p) (by rw [h];trivial) (.inl rfl) (fun b u hb q=>(Heap.get?_update_other _ _ (Ne.symm hb)).trans q) ⟨_,e⟩ ?_
 exact ⟨hz,its',n',r,e⟩
noncomputable def um:V->V->V->Hp->(Hp->Prop)->Prop:=fun o i v H Q=> ∃ p xs k j,o=.ref p/\i=.int k/\H p=some (.lst xs)/\ixN xs.length k=some j/\Q (upd H p (.lst (xs.set j v)))
theorem oU:uP X um:=by
 intro pins s σ H o i v ov iv u Q I ro ri rv h
 obtain ⟨p,xs,k,j,rfl,rfl,hp,hj,q⟩:=h
 cases ro
 obtain ⟨t,rfl⟩:=ri
 obtain ⟨its,n,r,ho,hz⟩:=I.lst hp
 obtain ⟨h1,h2,h3,h4⟩:=mn hj
 have hl:=r.length
 have hn:=gf
 have I':Inv X pins σ (upd H p (.lst (xs.set j v))) {s with heap:=s.heap.update p (Obj.mapSeq (·.setIfInBounds j u))}:=
  I.lstUpd hp ho (lO its n j u) (r.set rv j) (by rw [List.length_set];exact hz) s.toks
 by_cases h0:0<=k
 ·have hk:k.toNat=j:=by
   rw [seqIndex_of h0 h4]at h1
   exact Option.some.inj h1
  exact PySem.W.ki_setAt ho h0 (by omega) (by rw [List.size_toArray,<- hl];exact h4) (by rw [hk];exact ⟨_,I',q⟩)
 ·have hk:(k+ (its.toArray.size:Int)).toNat=j:=by
   rw [seqIndex_neg (by omega) h3]at h1
   rw [List.size_toArray,<- hl]
   exact Option.some.inj h1
  exact PySem.W.ki_setBack ho (by omega) (by rw [List.size_toArray,<- hl];exact h3) (by omega) (by rw [hk];exact ⟨_,I',q⟩)
theorem jk (lo hi:Option Int) (n:Nat):(sliceBounds lo hi none n).1=((HT.sIx n 0 lo:Nat):Int)/\(sliceBounds lo hi none n).2.1=((HT.sIx n n hi:Nat):Int)/\(sliceBounds lo hi none n).2.2=1:=by
 refine ⟨?_,?_,rfl⟩
 ·cases lo with
  | none=>simp [sliceBounds,HT.sIx]
  | some i=>
   simp only [sliceBounds,HT.sIx,Option.getD_none,show (1:Int) >0 by decide,if_true]
   by_cases h:i<0
   ·simp only [h,if_true] <;> omega
   ·simp only [h,if_false] <;> omega
 ·cases hi with
  | none=>simp [sliceBounds,HT.sIx]
  | some i=>
   simp only [sliceBounds,HT.sIx,Option.getD_none,show (1:Int) >0 by decide,if_true]
   by_cases h:i<0
   ·simp only [h,if_true] <;> omega
   ·simp only [h,if_false] <;> omega
theorem iN (its:List Value) (lo hi:Option Int):slicePick its.toArray lo hi none=((its.drop (HT.sIx its.length 0 lo)).take (HT.sIx its.length its.length hi-HT.sIx its.length 0 lo)).toArray:=by
 obtain ⟨h1,h2,h3⟩:=jk lo hi its.toArray.size
 unfold slicePick
 rw [h1,h2,h3]
 simp only [sliceRange_one,pick_run,List.size_toArray] <;> rfl
noncomputable def vd (K:PySem.W.Frag):V->Option Int->Option Int->Hp->VK->Prop:=fun x lo hi H Q=> ∃ a xs,x=.ref a/\SqL K H a xs/\ ∀ p,H p=none->Q (.ref p) (upd H p (.lst (fg xs lo hi)))
theorem cR:SlR X (vd X.K):=by
 intro pins s σ H x v vl vu lo hi sl Q I rx hs pl pu h
 obtain ⟨a,xs,rfl,hx,q⟩:=h
 cases rx
 obtain ⟨its,r,ht,hz⟩:=I.list hx
 have hlen:=r.length
 refine ⟨"list",_,slot_list_getitem.lookup,ht.isList.typeIs,?_⟩
 refine wpAny_getItem_list_slice ht.isList hs pl pu .none (by simp) ?_ (by rw [List.size_toArray] <;> omega)
 rw [iN,<- hlen]
 refine ⟨.ref s.heap.objs.size,_,I.laid (t':=s.toks) (o:=.lst (fg xs lo hi)) (fun b ob q=>Heap.get?_push_of_some _ q) (Nat.le_refl _) ?_,rfl,q _ (I.hok.fresh (Nat.le_refl _))⟩
 exact ⟨Nat.le_trans (gC xs lo hi) hz,_,0,(r.drop (HT.sIx xs.length 0 lo)).take (HT.sIx xs.length xs.length hi-HT.sIx xs.length 0 lo),Heap.get?_push_size _ rfl⟩
noncomputable def fL:V->Bool
 | .non=>true
 | .bl _=>true
 | .int _=>true
 | .str _=>true
 | _=>false
noncomputable def eqV:V->V->Bool
 | .non,.non=>true
 | .bl a,.bl b=>a==b
 | .bl a,.int b=>(if a then 1 else 0)==b
 | .int a,.bl b=>a==(if b then 1 else 0)
 | .int a,.int b=>a==b
 | .str a,.str b=>a==b
 | _,_=>false
theorem tD {A:Around} {s:Shared} {y x:V} {u v:Value} (ry:RelV y u) (rx:RelV x v) (fy:fL y=true) (fx:fL x=true):SeqAt.EqAt A s u v (eqV y x):=by
 cases y with
 | non=>
  cases ry
  cases x with
  | non=>cases rx;exact SeqAt.EqAt.same _
  | bl b=>cases rx;exact SeqAt.EqAt.none_bool b
  | int b=>obtain ⟨t,rfl⟩:=rx;exact SeqAt.EqAt.none_int b t
  | str b=>obtain ⟨t,rfl⟩:=rx;exact SeqAt.EqAt.none_str b t
  | _=>exact absurd (show false=true from fx) Bool.false_ne_true
 | bl a=>
  cases ry
  cases x with
  | non=>cases rx;exact SeqAt.EqAt.bool_none a
  | bl b=>cases rx;exact SeqAt.EqAt.bool_bool a b
  | int b=>obtain ⟨t,rfl⟩:=rx;exact SeqAt.EqAt.bool_int a b t
  | str b=>obtain ⟨t,rfl⟩:=rx;exact SeqAt.EqAt.bool_str a b t
  | _=>exact absurd (show false=true from fx) Bool.false_ne_true
 | int a=>
  obtain ⟨t',rfl⟩:=ry
  cases x with
  | non=>cases rx;exact SeqAt.EqAt.int_none a t'
  | bl b=>cases rx;exact SeqAt.EqAt.int_bool a t' b
  | int b=>obtain ⟨t,rfl⟩:=rx;exact SeqAt.EqAt.int_int a t' b t
  | str b=>obtain ⟨t,rfl⟩:=rx;exact SeqAt.EqAt.int_str a t' b t
  | _=>exact absurd (show false=true from fx) Bool.false_ne_true
 | str a=>
  obtain ⟨t',rfl⟩:=ry
  cases x with
  | non=>cases rx;exact SeqAt.EqAt.str_none a t'
  | bl b=>cases rx;exact SeqAt.EqAt.str_bool a t' b
  | int b=>obtain ⟨t,rfl⟩:=rx;exact SeqAt.EqAt.str_int a t' b t
  | str b=>obtain ⟨t,rfl⟩:=rx;exact SeqAt.EqAt.str_str a t' b t
  | _=>exact absurd (show false=true from fx) Bool.false_ne_true
 | _=>exact absurd (show false=true from fy) Bool.false_ne_true
noncomputable def eqU (x:V) (u:Value):Bool:=match u with
 | .none=>eqV .non x
 | .bool b=>eqV (.bl b) x
 | .int i _=>eqV (.int i) x
 | .str z _=>eqV (.str z) x
 | _=>false
theorem qi {x y:V} {u:Value} (r:RelV y u) (f:fL y=true):eqU x u=eqV y x:=by
 cases y with
 | non=>cases r;rfl
 | bl b=>cases r;rfl
 | int i=>obtain ⟨t,rfl⟩:=r;rfl
 | str z=>obtain ⟨t,rfl⟩:=r;rfl
 | _=>exact absurd (show false=true from f) Bool.false_ne_true
theorem jM {x:V}: ∀ {xs:List V} {us:List Value},Vals xs us->xs.all fL=true->us.any (eqU x)=xs.any fun y=>eqV y x
 | _,_,.nil,_=>rfl
 | y::xs,u::us,.cons r t,f=>by
  rw [List.all_cons,Bool.and_eq_true]at f
  rw [List.any_cons,List.any_cons,qi r f.1,jM t f.2]
theorem io {A:Around} {s:Shared} {x:V} {v:Value} (rx:RelV x v) (fx:fL x=true): ∀ {xs:List V} {us:List Value},Vals xs us->xs.all fL=true-> ∀ u∈us,SeqAt.EqAt A s u v (eqU x u)
 | _,_,.nil,_=>fun u hu=>by cases hu
 | y::xs,u::us,.cons r t,f=>fun u' hu=>by
  rw [List.all_cons,Bool.and_eq_true]at f
  rcases List.mem_cons.mp hu with rfl | hu
  ·rw [qi r f.1];exact tD r rx f.1 fx
  ·exact io rx fx t f.2 u' hu
noncomputable def inV (x:V) (xs:List V):Bool:=xs.any fun y=>eqV y x
noncomputable def rIn (K:PySem.W.Frag) (neg:Bool):R2:=fun x y H Q=> ∃ p xs,y=.ref p/\(SqL K H p xs\/SqT K H p xs)/\fL x=true/\xs.all fL=true/\Q (.bl (if neg then !inV x xs else inV x xs)) H
theorem fC:OpR X (compareOp .NotIn) (rIn X.K true):=by
 intro pins s σ H x y v u Q I rx ry h
 obtain ⟨p,xs,rfl,hq,fx,fs,q⟩:=h
 cases ry
 rcases hq with hq | hq
 ·obtain ⟨its,r,pl,hz⟩:=I.list hq
  refine SeqAt.notIn_listAt (eqU x) pl.isList (fun w hw=>io rx fx r fs w (by simpa using hw)) ⟨.bl _,H,I,rfl,?_⟩
  rw [show its.toArray.any (eqU x)=its.any (eqU x) by simp,jM r fs]
  exact q
 ·obtain ⟨its,r,pl,hz⟩:=I.tuple hq
  refine SeqAt.notIn_tupleAt (eqU x) pl (fun w hw=>io rx fx r fs w (by simpa using hw)) ⟨.bl _,H,I,rfl,?_⟩
  rw [show its.toArray.any (eqU x)=its.any (eqU x) by simp,jM r fs]
  exact q
theorem av:di X (.builtin "len") (fun xs H Q=> ∃ p ys,xs=[.ref p]/\(SqL X.K H p ys\/SqT X.K H p ys)/\Q (.int ys.length) H):=by
 intro pins s σ H xs us Q I r h
 obtain ⟨p,ys,rfl,hq,q⟩:=h
 obtain ⟨u,rfl,rx⟩:=gU r
 cases rx
 have hn:=gf
 rcases hq with hq | hq
 ·obtain ⟨its,r',pl,hz⟩:=I.list hq
  have hlen:=r'.length
  exact Calls.call_len_list pl.isList (by simp only [List.size_toArray] <;> omega) ⟨.int ys.length,H,I.tok _,⟨s.toks+1,by rw [List.size_toArray,hlen]⟩,q⟩
 ·obtain ⟨its,r',pl,hz⟩:=I.tuple hq
  have hlen:=r'.length
  exact len_tuple pl (by simp only [List.size_toArray] <;> omega) ⟨.int ys.length,H,I.tok _,⟨s.toks+1,by rw [List.size_toArray,hlen]⟩,q⟩
theorem aU:di X (.type "tuple") (fun xs H Q=> ∃ p ys,xs=[.ref p]/\((SqL X.K H p ys/\ ∀ l,H l=none->Q (.ref l) (upd H l (.tup ys)))\/(SqT X.K H p ys/\Q (.ref p) H))):=by
 intro pins s σ H xs us Q I r h
 obtain ⟨p,ys,rfl,h⟩:=h
 obtain ⟨u,rfl,rx⟩:=gU r
 cases rx
 rcases h with ⟨hq,q⟩ | ⟨hq,q⟩
 ·obtain ⟨its,r',pl,hz⟩:=I.list hq
  have hlen:=r'.length
  refine call_tuple_list pl.isList (fun h' kp=>?_) (by simp only [List.size_toArray] <;> omega)
  have I1:Inv X pins σ H {s with heap:=h'}:=I.kept (t':=s.toks) kp
  have I2:Inv X pins σ (upd H h'.objs.size (.tup ys)) {s with heap:=h'.push {cls:=.type "tuple",data:=.seq its.toArray}}:=
   I1.laid (t':=s.toks) (fun b o e=>Heap.get?_push_of_some _ e) (Nat.le_refl _) (show ObjOk X.prog X.w _ _ _ (.tup ys)from ⟨hz,its,r',IsTup.new _ _⟩)
  exact ⟨.ref h'.objs.size,_,I2,rfl,q _ (I1.hok.fresh (Nat.le_refl _))⟩
 ·obtain ⟨its,r',pl,hz⟩:=I.tuple hq
  exact call_tuple_same pl ⟨.ref p,H,I,rfl,q⟩
noncomputable def tyV (K:PySem.W.Frag) (T:String) (x:V) (H:Hp):Prop:=match x with
 | .str _=>T="str"
 | .int _=>T="int"
 | .ref p=>(T="list"/\ ∃ xs,SqL K H p xs)\/(T="tuple"/\ ∃ o,K.lookup p=some o/\o.cls=.type "tuple"/\o.dict=none)\/
   (T="dict"/\((∃ kvs,H p=some (.dK kvs))\/ ∃ kvs,H p=some (.dT kvs)))\/(T="set"/\ ∃ S n,H p=some (.set S n))
 | _=>False
theorem oD {pins:List (Addr×Obj)} {σ:St} {H:Hp} {s:Shared} {T:String} {x:V} {v:Value} (I:Inv X pins σ H s) (r:RelV x v) (ty:tyV X.K T x H):
  s.TypeIs v T/\ ∀ a,v=.ref a-> ∃ ob,s.heap.get? a=some ob/\ob.dict=none:=by
 cases x with
 | str z=>
  obtain ⟨t,rfl⟩:=r
  cases (show T="str" from ty)
  exact ⟨typeIs_str s z t,fun _ e=>nomatch e⟩
 | int i=>
  obtain ⟨t,rfl⟩:=r
  cases (show T="int" from ty)
  exact ⟨typeIs_int s i t,fun _ e=>nomatch e⟩
 | ref p=>
  cases r
  rcases ty with ⟨rfl,xs,hq⟩ | ⟨rfl,o,hk,hc,hd⟩ | ⟨rfl,hk⟩ | ⟨rfl,S,n,hk⟩
  ·obtain ⟨its,_,pl,_⟩:=I.list hq
   refine ⟨pl.isList.typeIs,fun a e=>?_⟩
   cases e
   obtain ⟨o,n,e,c,hd,_⟩:=pl
   exact ⟨o,e,hd⟩
  ·refine ⟨⟨o,I.kIn p o hk,hc⟩,fun a e=>?_⟩
   cases e
   exact ⟨o,I.kIn _ o hk,hd⟩
  ·have z: ∃ o,s.heap.get? p=some o/\o.ExactDict:=by
    rcases hk with ⟨kvs,hk⟩ | ⟨kvs,hk⟩
    ·obtain ⟨_,_,_,_,o,_,_,e,ex,_⟩:=I.hok p _ hk
     exact ⟨o,e,ex⟩
    ·obtain ⟨_,_,_,_,o,_,_,e,ex,_⟩:=I.hok p _ hk
     exact ⟨o,e,ex⟩
   obtain ⟨o,e,ex⟩:=z
   refine ⟨⟨o,e,ex.1⟩,fun a e2=>?_⟩
   cases e2
   exact ⟨o,e,ex.2.1⟩
  ·obtain ⟨o,_,_,_,e,ex,_⟩:=I.hok p _ hk
   refine ⟨⟨o,e,ex.1⟩,fun a e2=>?_⟩
   cases e2
   exact ⟨o,e,ex.2.1⟩
 | _=>exact False.elim ty
noncomputable def u5 (K:PySem.W.Frag) (T:String) (r:V->List V->Hp->VK->Prop) (to:TE):TE:=fun σ H Q=>to σ H fun x H1=>tyV K T x H1/\r x [] H1 Q
noncomputable def tBM (K:PySem.W.Frag) (T:String) (r:V->List V->Hp->VK->Prop) (to:TE) (t:TA):TE:=fun σ H Q=>to σ H fun x H1=>tyV K T x H1/\t σ H1 fun xs H2=>r x xs H2 Q
variable {o e:Expr} {es:List Expr} {to:TE} {t:TA} {name:Str} {apos cpos:Pos} {T id:String} {r:V->List V->Hp->VK->Prop}
theorem sO (pa:PlainAttrs T) (slot:Slot T name id) (hty:typeOf (.builtin id)=pure (.type "method_descriptor")) (hm:MtR X id r) (ho:PE X o to)
  (hbase:attributeBase o name X.env (eval o X.env)=eval o X.env:=by rfl) (hline:(apos.endLine==cpos.line)=true:=by rfl):PE X (.Call (.Attribute o name apos) [] [] cpos) (u5 X.K T r to):=by
 intro pins s σ H Q I h
 refine wpAny_Call_method0_late hbase hline (thn (ho pins s σ H _ I h) fun v s1 ⟨x,H1,I1,r1,ty,q1⟩=>?_)
 obtain ⟨h1,h2⟩:=oD I1 r1 ty
 exact ⟨T,id,pa,slot,hty,h1,h2,Calls.callWith_builtin rfl (PySem.evalArgs_none (hm pins s1 σ H1 x [] v [] Q I1 r1 .nil q1))⟩
theorem ig (pa:PlainAttrs T) (slot:Slot T name id) (hty:typeOf (.builtin id)=pure (.type "method_descriptor")) (hm:MtR X id r) (ho:PE X o to) (ha:PA X (e::es) t)
  (hbase:attributeBase o name X.env (eval o X.env)=eval o X.env:=by rfl)
  (hfew:((backTo cpos (starEach (e::es) X.env)).all (fun x=> !x.1)&&(backToKw cpos (keywordEach [] X.env)).all (fun x=>x.1.isSome)
   &&decide ((e::es).length+ ([]:List Keyword).length+ (if ([]:List Keyword).isEmpty then 0 else 1) <30))=true:=by rfl)
  (hline:(apos.endLine==cpos.line)=true:=by rfl) (hs:starEach (e::es) X.env=(false,eval e X.env)::starEach es X.env:=by rfl) (hplain:(backTo cpos (starEach es X.env)).any (·.1)=false:=by rfl):
  PE X (.Call (.Attribute o name apos) (e::es) [] cpos) (tBM X.K T r to t):=by
 intro pins s σ H Q I h
 refine wpAny_Call_method_late hbase hfew hline rfl (thn (ho pins s σ H _ I h) fun v s1 ⟨x,H1,I1,r1,ty,q1⟩=>?_)
 obtain ⟨h1,h2⟩:=oD I1 r1 ty
 refine ⟨T,id,pa,slot,hty,h1,h2,?_⟩
 have hA:=ha cpos pins s1 σ H1 _ I1 q1
 rw [hs]at hA ⊢
 refine Calls.callWith_builtin (by show (false||(backTo cpos (starEach es X.env)).any (·.1))=false;rw [hplain] <;> rfl) (Calls.evalArgs_plain ?_)
 exact thn hA fun us s2 ⟨vs,H2,I2,r2,q2⟩=>hm pins s2 σ H2 x vs v us Q I2 r1 r2 q2
end
noncomputable def MtM (X:Cx) (id:String) (r:V->List V->Hp->VK->Prop):Prop:=
 ∀ (pins:List (Addr×Obj)) (s:Shared) (σ:St) (H:Hp) (x:V) (xs:List V) (v:Value) (us:List Value) (Q:VK),Inv X pins σ H s->RelV x v->Vals xs us->r x xs H Q->
  wpAny (model X.prog X.w) X.A (call (.builtin id) (v::us)) (EP X pins σ Q) X.xe s
theorem Vals.one: ∀ {x:V} {us:List Value},Vals [x] us-> ∃ u,us=[u]/\RelV x u
 | _,_,.cons r .nil=>⟨_,rfl,r⟩
section
variable {X:Cx} {pins:List (Addr×Obj)} {σ:St} {H:Hp} {s:Shared} {l b:Addr} {xs ys zs:List V}
theorem Inv.lset {its its':List Value} {n:Nat} {f:Array Value->Array Value} {t':Nat} (I:Inv X pins σ H s) (hH:H l=some (.lst xs))
  (e:s.heap.get? l=some {cls:=.type "list",data:=.seq its.toArray n}) (hf:f its.toArray=its'.toArray) (hv:Vals ys its') (hz:ys.length<=sizeLine):
  Inv X pins σ (upd H l (.lst ys)) {s with heap:=s.heap.update l (Obj.mapSeq f),toks:=t'}:=by
 have q:=PySem.IsL.update e f
 rw [hf]at q
 refine I.write (x:=l) (e:=l) (by rw [hH];exact trivial) (.inl rfl) (fun b' u hb hu=>(Heap.get?_update_other s.heap (Obj.mapSeq f) (Ne.symm hb)).trans hu) ⟨_,q⟩ ?_
 exact ⟨hz,its',_,hv,q⟩
theorem Inv.lnew {its:List Value} {t':Nat} (I:Inv X pins σ H s) (hv:Vals ys its) (hz:ys.length<=sizeLine):
  Inv X pins σ (upd H s.heap.objs.size (.lst ys)) {s with heap:=s.heap.push {cls:=.type "list",data:=.seq its.toArray},toks:=t'}:=
 I.laid (fun _ _ q=>Heap.get?_push_of_some _ q) (Nat.le_refl _) ⟨hz,its,0,hv,Heap.get?_push_size _ rfl⟩
theorem Inv.fresh (I:Inv X pins σ H s):H s.heap.objs.size=none:=I.hok.fresh (Nat.le_refl _)
theorem Inv.lstM (I:Inv X pins σ H s) (hH:H l=some (.lst xs)):xs.length<=sizeLine/\ ∃ (its:List Value) (n:Nat),Vals xs its/\xs.length=its.length/\s.heap.get? l=some {cls:=.type "list",data:=.seq its.toArray n}:=by
 obtain ⟨z,its,n,r,e⟩:=I.hok l _ hH
 exact ⟨z,its,n,r,r.length,e⟩
theorem pO {n:Nat} (h:n<=sizeLine):Builtin.List.listTooLong n=false:=by
 unfold Builtin.List.listTooLong
 exact decide_eq_false (by omega)
end
section
variable {X:Cx}
noncomputable def qP:V->List V->Hp->VK->Prop:=fun x vs H Q=> ∃ l xs y,x=.ref l/\vs=[y]/\H l=some (.lst xs)/\xs.length<sizeLine/\Q .non (upd H l (.lst (xs++[y])))
theorem cv:MtM X "list.append" qP:=by
 intro pins s σ H x vs v us Q I rx rv h
 obtain ⟨l,xs,y,rfl,rfl,hH,hz,q⟩:=h
 cases rx
 obtain ⟨u,rfl,ru⟩:=rv.one
 obtain ⟨z,its,n,r,hl,e⟩:=I.lstM hH
 refine call_meets F.slot_list_append ⟨_,e,rfl⟩ F.entry_list_append (F.args_list_append_2 _ _) (PySem.list_append l its.toArray n u (by rw [List.size_toArray];omega)) ⟨e,?_⟩
 refine ⟨.non,_,I.lset (its':=its++[u]) hH e (by simp) (r.append (.cons ru .nil)) ?_,rfl,q⟩
 rw [List.length_append,List.length_singleton]
 omega
noncomputable def qN:V->List V->Hp->VK->Prop:=fun x vs H Q=> ∃ l b xs zs,x=.ref l/\vs=[.ref b]/\H l=some (.lst xs)/\H b=some (.lst zs)/\xs.length+zs.length<=sizeLine/\Q .non (upd H l (.lst (xs++zs)))
theorem i4:MtM X "list.extend" qN:=by
 intro pins s σ H x vs v us Q I rx rv h
 obtain ⟨l,b,xs,zs,rfl,rfl,hH,hB,hz,q⟩:=h
 cases rx
 obtain ⟨u,rfl,ru⟩:=rv.one
 cases ru
 obtain ⟨z,its,n,r,hl,e⟩:=I.lstM hH
 obtain ⟨z2,its2,n2,r2,hl2,e2⟩:=I.lstM hB
 have hsz:its.toArray.size+its2.toArray.size<=sizeLine:=by rw [List.size_toArray,List.size_toArray];omega
 have hlong: ¬ (!its.toArray.isEmpty&&Builtin.List.listTooLong (its.toArray.size+its2.toArray.size))=true:=by
  rw [pO hsz,Bool.and_false]
  exact Bool.false_ne_true
 refine call_meets F.slot_list_extend ⟨_,e,rfl⟩ F.entry_list_extend (F.args_list_extend_2 _ _)
  (AutoSeq1.list_extend_list_list_0 l its.toArray n b its2.toArray n2 hlong (by rw [List.size_toArray];omega) (by omega)) ⟨e,e2,?_⟩
 refine ⟨.non,_,I.lset (its':=its++its2) hH e (by simp) (r.append r2) ?_,rfl,q⟩
 rw [List.length_append]
 omega
noncomputable def vi:R2:=fun x y H Q=> ∃ l b xs zs,x=.ref l/\y=.ref b/\H l=some (.lst xs)/\H b=some (.lst zs)/\xs.length+zs.length<=sizeLine/\ ∀ p,H p=none->Q (.ref p) (upd H p (.lst (xs++zs)))
theorem gc:OpR X (binaryOp .Add) vi:=by
 intro pins s σ H x y v u Q I rx ry h
 obtain ⟨l,b,xs,zs,rfl,rfl,hH,hB,hz,q⟩:=h
 cases rx
 cases ry
 obtain ⟨z,its,n,r,hl,e⟩:=I.lstM hH
 obtain ⟨z2,its2,n2,r2,hl2,e2⟩:=I.lstM hB
 refine PySem.P.add_list e e2 ?_ (by rw [List.size_toArray,List.size_toArray];omega)
 have ea:its.toArray++its2.toArray=(its++its2).toArray:=by simp
 rw [ea]
 exact ⟨.ref _,_,I.lnew (t':=s.toks) (r.append r2) (by rw [List.length_append];omega),rfl,q _ I.fresh⟩
end
section
variable {κ:Type} [DecidableEq κ]
noncomputable def bn (kvs:List (κ×V)) (k:κ):Option V:=(kvs.find? fun kv=>decide (kv.1=k)).map (·.2)
noncomputable def dB (kvs:List (κ×V)) (k:κ) (v:V):List (κ×V):=
 if (kvs.any fun kv=>decide (kv.1=k))=true then kvs.map (fun kv=>if kv.1=k then (kv.1,v)else kv)else kvs++[(k,v)]
theorem bI {p:κ×V} {r:List (κ×V)} {k:κ} (e:p.1=k):bn (p::r) k=some p.2:=by simp [bn,List.find?_cons,e]
theorem bJ {p:κ×V} {r:List (κ×V)} {k:κ} (e: ¬ p.1=k):bn (p::r) k=bn r k:=by simp [bn,List.find?_cons,e]
theorem dS (k:κ): ∀ kvs:List (κ×V),(kvs.any fun kv=>decide (kv.1=k))=(bn kvs k).isSome
 | []=>rfl
 | p::r=>by
  rw [List.any_cons]
  by_cases e:p.1=k
  ·simp only [bI e,decide_eq_true e,Bool.true_or,Option.isSome_some]
  ·rw [bJ e,decide_eq_false e,Bool.false_or];exact dS k r
theorem jR (k j:κ) (y:V): ∀ kvs:List (κ×V),bn (kvs.map fun kv=>if kv.1=k then (kv.1,y)else kv) j=(bn kvs j).map fun x=>if j=k then y else x
 | []=>rfl
 | p::r=>by
  have ih:=jR k j y r
  rw [List.map_cons]
  by_cases h:p.1=k
  ·rw [if_pos h]
   by_cases e:p.1=j
   ·rw [bI (p:=(p.1,y)) e,bI e,Option.map_some,if_pos (e.symm.trans h)]
   ·rw [bJ (p:=(p.1,y)) e,bJ e,ih]
  ·rw [if_neg h]
   by_cases e:p.1=j
   ·rw [bI (p:=p) e,bI e,Option.map_some,if_neg (fun z=>h (e.trans z))]
   ·rw [bJ (p:=p) e,bJ e,ih]
theorem iS (k j:κ) (y:V): ∀ kvs:List (κ×V),bn kvs k=none->bn (kvs++[(k,y)]) j=if j=k then some y else bn kvs j
 | [],_=>by
  by_cases e:k=j
  ·rw [if_pos e.symm];exact bI (p:=(k,y)) e
  ·rw [if_neg (fun z=>e z.symm)];exact bJ (p:=(k,y)) e
 | p::r,hn=>by
  rw [List.cons_append]
  have hk: ¬ p.1=k:=fun z=>by rw [bI z]at hn;cases hn
  rw [bJ hk]at hn
  have ih:=iS k j y r hn
  by_cases e:p.1=j
  ·rw [bI e,bI e,if_neg (fun z=>hk (e.trans z))]
  ·rw [bJ e,bJ e,ih]
theorem gV (kvs:List (κ×V)) (k j:κ) (y:V):bn (dB kvs k y) j=if j=k then some y else bn kvs j:=by
 unfold dB
 by_cases a:(kvs.any fun kv=>decide (kv.1=k))=true
 ·rw [if_pos a,jR]
  rw [dS]at a
  by_cases e:j=k
  ·obtain ⟨x,hx⟩:=Option.isSome_iff_exists.mp a
   rw [if_pos e,e,hx,Option.map_some,if_pos rfl]
  ·rw [if_neg e]
   cases bn kvs j with
   | none=>rfl
   | some x=>rw [Option.map_some,if_neg e]
 ·rw [if_neg a]
  refine iS k j y kvs ?_
  rw [dS]at a
  cases q:bn kvs k with
  | none=>rfl
  | some x=>rw [q]at a;exact (a rfl).elim
theorem cM (kvs:List (κ×V)) (k:κ) (v:V):(dB kvs k v).length<=kvs.length+1:=by
 unfold dB
 split
 ·rw [List.length_map];omega
 ·rw [List.length_append,List.length_cons,List.length_nil];omega
theorem RelO.isSome_eq {o:Option V} {u:Option Value} (r:RelO o u):o.isSome=u.isSome:=by
 cases o with
 | none=>cases u with
  | none=>rfl
  | some _=>exact (show False from r).elim
 | some _=>cases u with
  | none=>exact (show False from r).elim
  | some _=>rfl
theorem KV.val {kvs:List (κ×V)} {vs:List (κ×Value)} (r:KV kvs vs) (k:κ):RelO (bn kvs k) (valueAt vs k):=by
 unfold KV at r
 induction r with
 | nil=>exact True.intro
 | @cons p q ps qs h t ih=>
  obtain ⟨h1,h2⟩:=h
  by_cases e:p.1=k
  ·have e':q.1=k:=h1.symm.trans e
   have b:valueAt (q::qs) k=some q.2:=by simp [valueAt,List.find?_cons,e']
   rw [bI e,b];exact h2
  ·have e': ¬ q.1=k:=fun z=>e (h1.trans z)
   have b:valueAt (q::qs) k=valueAt qs k:=by simp [valueAt,List.find?_cons,e']
   rw [bJ e,b];exact ih
theorem KV.any {kvs:List (κ×V)} {vs:List (κ×Value)} (r:KV kvs vs) (k:κ):(kvs.any fun kv=>decide (kv.1=k))=vs.any fun kv=>decide (kv.1=k):=by
 unfold KV at r
 induction r with
 | nil=>rfl
 | cons h t ih=>rw [List.any_cons,List.any_cons,ih,h.1]
theorem KV.repl {kvs:List (κ×V)} {vs:List (κ×Value)} (r:KV kvs vs) (k:κ) {y:V} {u:Value} (ry:RelV y u):
  KV (kvs.map fun kv=>if kv.1=k then (kv.1,y)else kv) (vs.map fun kv=>if kv.1=k then (kv.1,u)else kv):=by
 unfold KV at r ⊢
 induction r with
 | nil=>exact .nil
 | @cons p q ps qs h t ih=>
  rw [List.map_cons,List.map_cons]
  refine .cons ?_ ih
  obtain ⟨h1,h2⟩:=h
  by_cases e:p.1=k
  ·rw [if_pos e,if_pos (h1.symm.trans e)];exact ⟨h1,ry⟩
  ·rw [if_neg e,if_neg (fun z=>e (h1.trans z))];exact ⟨h1,h2⟩
theorem KV.put {kvs:List (κ×V)} {vs:List (κ×Value)} (r:KV kvs vs) (k:κ) {y:V} {u:Value} (ry:RelV y u):KV (dB kvs k y) (stored vs k u):=by
 unfold dB stored
 rw [r.any k]
 by_cases e:(vs.any fun kv=>decide (kv.1=k))=true
 ·rw [if_pos e,if_pos e];exact r.repl k ry
 ·rw [if_neg e,if_neg e];exact Paired.snoc r ⟨rfl,ry⟩
theorem KV.length {kvs:List (κ×V)} {vs:List (κ×Value)} (r:KV kvs vs):kvs.length=vs.length:=Paired.length r
end
theorem km {P:Program} {w:World} {k:Key} {u:Value} (r:RelV (kV k) u):(aX P w).is k u=true:=by
 cases k with
 | inl i=>obtain ⟨t,e⟩:=(show ∃ t,u=Value.int i t from r);subst e;exact j9 P w i t
 | inr x=>obtain ⟨t,e⟩:=(show ∃ t,u=Value.str x t from r);subst e;exact j8 P w x t
theorem i5 {P:Program} {w:World}: ∀ {ks:List Key} {us:List Value},Vals (ks.map kV) us->ItemsAre (aX P w) ks us
 | [],_,r=>by rw [List.map_nil]at r;cases r;exact .nil
 | k::ks,_,r=>by
  rw [List.map_cons]at r
  cases r with
  | cons h t=>exact .cons (km h) (i5 t)
noncomputable abbrev KT (H:Hp):List (List Key×V)->List (List Key×Addr×Value)->Prop:=Paired fun p q=>p.1=q.1/\H q.2.1=some (.tup (p.1.map kV))/\RelV p.2 q.2.2
theorem KT.val {H:Hp} {kvs:List (List Key×V)} {xs:List (List Key×Addr×Value)} (r:KT H kvs xs) (k:List Key):RelO (bn kvs k) ((atKey xs k).map (·.2)):=by
 induction r with
 | nil=>exact True.intro
 | @cons p q ps qs h t ih=>
  obtain ⟨h1,_,h2⟩:=h
  by_cases e:p.1=k
  ·have e':q.1=k:=h1.symm.trans e
   have b:atKey (q::qs) k=some q.2:=by simp [atKey,List.find?_cons,e']
   rw [bI e,b];exact h2
  ·have e': ¬ q.1=k:=fun z=>e (h1.trans z)
   have b:atKey (q::qs) k=atKey qs k:=by simp [atKey,List.find?_cons,e']
   rw [bJ e,b];exact ih
theorem KT.repl {H:Hp} {kvs:List (List Key×V)} {xs:List (List Key×Addr×Value)} (r:KT H kvs xs) (k:List Key) {y:V} {u:Value} (ry:RelV y u):
  KT H (kvs.map fun kv=>if kv.1=k then (kv.1,y)else kv) (xs.map (putAt k u)):=by
 induction r with
 | nil=>exact .nil
 | @cons p q ps qs h t ih=>
  rw [List.map_cons,List.map_cons]
  refine .cons ?_ ih
  obtain ⟨h1,h2,h3⟩:=h
  unfold putAt
  by_cases e:p.1=k
  ·rw [if_pos e,if_pos (h1.symm.trans e)];exact ⟨h1,h2,ry⟩
  ·rw [if_neg e,if_neg (fun z=>e (h1.trans z))];exact ⟨h1,h2,h3⟩
theorem KT.put {H:Hp} {kvs:List (List Key×V)} {xs:List (List Key×Addr×Value)} (r:KT H kvs xs) (k:List Key) {b:Addr} {y:V} {u:Value} (hb:H b=some (.tup (k.map kV))) (ry:RelV y u):
  KT H (dB kvs k y) (storedH xs k b u):=by
 have e:(kvs.any fun kv=>decide (kv.1=k))=(atKey xs k).isSome:=by
  rw [dS,(r.val k).isSome_eq,Option.isSome_map]
 unfold dB storedH
 rw [e]
 by_cases q:(atKey xs k).isSome=true
 ·rw [if_pos q,if_pos q];exact r.repl k ry
 ·rw [if_neg q,if_neg q];exact Paired.snoc r ⟨rfl,hb,ry⟩
theorem KT.keeps {H H':Hp} {kvs:List (List Key×V)} {xs:List (List Key×Addr×Value)} (r:KT H kvs xs) (ht: ∀ b ys,H b=some (.tup ys)->H' b=some (.tup ys)):KT H' kvs xs:=
 Paired.mapP r fun _ _ z=>⟨z.1,ht _ _ z.2.1,z.2.2⟩
section
variable {P:Program} {w:World} {H:Hp} {h:Heap} {a:Addr}
theorem rT {u:HO} (ok:HOk P w H h) (e:Rd H a u):ObjOk P w H h a u:=e.ok ok
theorem i7 {kvs:List (Key×V)} (ok:HOk P w H h) (e:Rd H a (.dK kvs)):kvs.length<=sizeLine/\(a==sysModules)=false/\ ∃ vs,KV kvs vs/\h.DictOf (aX P w) a vs:=
 show ObjOk P w H h a (.dK kvs)from rT ok e
theorem iB {kvs:List (Key×V)} (ok:HOk P w H h) (e:H a=some (.dK kvs)):kvs.length<=sizeLine/\(a==sysModules)=false/\ ∃ vs,KV kvs vs/\h.DictOf (aX P w) a vs:=i7 ok (.inl e)
theorem ip {ks:List Key} (ok:HOk P w H h) (e:H a=some (.tup (ks.map kV))):(tupleKind (aX P w)).is h ks a:=by
 obtain ⟨_,its,r,o,h1,h2,n,h3⟩:=(show ObjOk P w H h a (.tup (ks.map kV))from ok a _ e)
 exact ⟨o,its.toArray,n,h1,h2,h3,by simpa using i5 r⟩
theorem ku {kvs:List (List Key×V)} (ok:HOk P w H h) (e:Rd H a (.dT kvs)):kvs.length<=sizeLine/\(a==sysModules)=false/\
  ∃ xs,KT H kvs xs/\h.DictOfH (tupleKind (aX P w)) a xs:=by
 obtain ⟨z,y,xs,r,o,es,ep,h1,h2,h3,h4,h5⟩:=(show ObjOk P w H h a (.dT kvs)from rT ok e)
 refine ⟨z,y,xs,r,o,es,ep,h1,h2,h3,h4,fun x hx=>?_,h5⟩
 have all: ∀ {l:List (List Key×V)} {m:List (List Key×Addr×Value)},KT H l m-> ∀ x∈m,(tupleKind (aX P w)).is h x.1 x.2.1:=by
  intro l m q
  induction q with
  | nil=>intro x hx;exact nomatch hx
  | @cons p q ps qs hq t ih=>
   intro x hx
   rcases List.mem_cons.mp hx with e | hx
   ·subst e
    exact ip ok (by rw [<- hq.1];exact hq.2.1)
   ·exact ih x hx
 exact all r x hx
theorem uN {kvs:List (List Key×V)} (ok:HOk P w H h) (e:H a=some (.dT kvs)):kvs.length<=sizeLine/\(a==sysModules)=false/\
  ∃ xs,KT H kvs xs/\h.DictOfH (tupleKind (aX P w)) a xs:=ku ok (.inl e)
end
noncomputable def DGet (H:Hp) (a:Addr) (y:V) (r:Option V):Prop:=
 (∃ kvs k,Rd H a (.dK kvs)/\y=kV k/\r=bn kvs k)\/ ∃ kvs k b,Rd H a (.dT kvs)/\y=.ref b/\H b=some (.tup (k.map kV))/\r=bn kvs k
noncomputable def DPut (H:Hp) (a:Addr) (y v:V) (H':Hp):Prop:=
 (∃ kvs k,H a=some (.dK kvs)/\y=kV k/\kvs.length<sizeLine/\H'=upd H a (.dK (dB kvs k v)))\/
 ∃ kvs k b,H a=some (.dT kvs)/\y=.ref b/\H b=some (.tup (k.map kV))/\kvs.length<sizeLine/\H'=upd H a (.dT (dB kvs k v))
theorem DGet.k {H:Hp} {a:Addr} {kvs:List (Key×V)} {k:Key} (e:H a=some (.dK kvs)):DGet H a (kV k) (bn kvs k):=.inl ⟨kvs,k,.inl e,rfl,rfl⟩
theorem DPut.k {H:Hp} {a:Addr} {kvs:List (Key×V)} {k:Key} {v:V} (e:H a=some (.dK kvs)) (hl:kvs.length<sizeLine):DPut H a (kV k) v (upd H a (.dK (dB kvs k v))):=.inl ⟨kvs,k,e,rfl,hl,rfl⟩
section
variable {X:Cx} {pins:List (Addr×Obj)} {σ:St} {H:Hp} {s:Shared} {a:Addr} {y v:V} {u r:Value} {o:Option V} {A:Around} {E:Value->Shared->Prop}
theorem Inv.big (I:Inv X pins σ H s):sysModules<s.heap.objs.size:=by
 have h:mainGlobals<s.heap.objs.size:=(I.mod.glob.keeps I.bk).lt
 exact Nat.lt_trans (by decide) h
theorem om {Q:Value->Shared->Prop} (hu:A.units+1<cLine) (I:Inv X pins σ H s) (g:DGet H a y (some v)) (ry:RelV y u) (h: ∀ w' s',Inv X pins σ H s'->RelV v w'->Q w' s'):
  wpAny (model X.prog X.w) A (getItem (.ref a) u) Q E s:=by
 rcases g with ⟨kvs,k,e,ey,l⟩ | ⟨kvs,k,b,e,ey,eb,l⟩
 ·subst ey
  obtain ⟨z,hd,vs,rel,dd⟩:=i7 I.hok e
  obtain ⟨w',hw,rw'⟩:=RelO.some_of (v:=v) (o:=valueAt vs k) (by rw [l];exact rel.val k)
  exact wpAny_getItem_of (km ry) dd.mapOf hw (h w' _ (I.tok _) rw')
 ·subst ey
  cases (show u=Value.ref b from ry)
  obtain ⟨z,hd,xs,rel,dd⟩:=ku I.hok e
  obtain ⟨w',hw,rw'⟩:=RelO.some_of (v:=v) (o:=(atKey xs k).map (·.2)) (by rw [l];exact rel.val k)
  obtain ⟨p,hp,hp2⟩:=Option.map_eq_some_iff.mp hw
  refine wpAny_getItem_heap (tupleKind_room_in1 hu) (ip I.hok eb) dd hp ?_
  rw [hp2]
  exact h w' _ (I.tok _) rw'
theorem vz {Q:Value->Shared->Prop} (hu:A.units+1<cLine) (I:Inv X pins σ H s) (g:DGet H a y o) (ry:RelV y u) (h: ∀ s',Inv X pins σ H s'->Q (.bool o.isSome) s'):
  wpAny (model X.prog X.w) A (compareOp .In u (.ref a)) Q E s:=by
 rcases g with ⟨kvs,k,e,ey,l⟩ | ⟨kvs,k,b,e,ey,eb,l⟩
 ·subst ey
  obtain ⟨z,hd,vs,rel,dd⟩:=i7 I.hok e
  refine wpAny_in_of (km ry) hd dd.mapOf ?_
  rw [<- (rel.val k).isSome_eq,<- l]
  exact h _ (I.tok _)
 ·subst ey
  cases (show u=Value.ref b from ry)
  obtain ⟨z,hd,xs,rel,dd⟩:=ku I.hok e
  refine wpAny_in_heap (tupleKind_room_in1 hu) (ip I.hok eb) hd dd ?_
  have q:=(rel.val k).isSome_eq
  rw [Option.isSome_map]at q
  rw [<- q,<- l]
  exact h _ (I.tok _)
theorem rJ {Q:Value->Shared->Prop} (hu:A.units+1<cLine) (I:Inv X pins σ H s) (g:DGet H a y o) (ry:RelV y u) (h: ∀ s',Inv X pins σ H s'->Q (.bool (!o.isSome)) s'):
  wpAny (model X.prog X.w) A (compareOp .NotIn u (.ref a)) Q E s:=by
 rcases g with ⟨kvs,k,e,ey,l⟩ | ⟨kvs,k,b,e,ey,eb,l⟩
 ·subst ey
  obtain ⟨z,hd,vs,rel,dd⟩:=i7 I.hok e
  refine wpAny_notIn_of (km ry) hd dd.mapOf ?_
  rw [<- (rel.val k).isSome_eq,<- l]
  exact h _ (I.tok _)
 ·subst ey
  cases (show u=Value.ref b from ry)
  obtain ⟨z,hd,xs,rel,dd⟩:=ku I.hok e
  refine wpAny_notIn_heap (tupleKind_room_in1 hu) (ip I.hok eb) hd dd ?_
  have q:=(rel.val k).isSome_eq
  rw [Option.isSome_map]at q
  rw [<- q,<- l]
  exact h _ (I.tok _)
theorem gR {h':Heap} {t':Nat} {ob:HO} (I:Inv X pins σ H s) (mu:Mut (H a)) (hs:Heap.SameBut a s.heap h') (he: ∃ q,h'.get? a=some q) (new:ObjOk X.prog X.w (upd H a ob) h' a ob):
  Inv X pins σ (upd H a ob) {s with heap:=h',toks:=t'}:=
 I.write (x:=a) (e:=a) mu (.inl rfl) (fun b q hb z=>(hs.2 b hb).trans z) he new
theorem qk {P:Program} {w:World} {H':Hp} {h':Heap} {kvs:List (Key×V)} {vs:List (Key×Value)} (z:kvs.length<=sizeLine) (hd:(a==sysModules)=false) (rel:KV kvs vs) (dd:h'.DictOf (aX P w) a vs):
  ObjOk P w H' h' a (.dK kvs):=⟨z,hd,vs,rel,dd⟩
theorem oj {H':Hp} {Q:Unit->Shared->Prop} (hu:A.units+1<cLine) (I:Inv X pins σ H s) (g:DPut H a y v H') (ry:RelV y u) (rv:RelV v r) (h: ∀ s',Inv X pins σ H' s'->Q () s'):
  wpAny (model X.prog X.w) A (setItem (.ref a) u r) Q E s:=by
 rcases g with ⟨kvs,k,e,ey,l,eH⟩ | ⟨kvs,k,b,e,ey,eb,l,eH⟩
 ·subst ey eH
  obtain ⟨z,hd,vs,rel,dd⟩:=iB I.hok e
  have hz:vs.length<=sizeLine:=by rw [<- rel.length];exact z
  have hl:(dB kvs k v).length<=sizeLine:=by have:=cM kvs k v;omega
  refine wpAny_setItem_pairs (hsz:=hz) (km ry) dd fun h' dd' hs=>h _ ?_
  have he: ∃ q,h'.get? a=some q:=let ⟨q,_,_,hq,_⟩:=dd';⟨q,hq⟩
  exact gR I (by rw [e];exact True.intro) hs he (qk hl hd (rel.put k rv) dd')
 ·subst ey eH
  cases (show u=Value.ref b from ry)
  obtain ⟨z,hd,xs,rel,dd⟩:=uN I.hok e
  have hz:xs.length<=sizeLine:=by rw [<- Paired.length rel];exact z
  have hl:(dB kvs k v).length<=sizeLine:=by have:=cM kvs k v;omega
  refine wpAny_setItem_heap (hsz:=hz) (tupleKind_room_in1 hu) (ip I.hok eb) dd fun h' dd' hs=>h _ ?_
  obtain ⟨q,es,ep,hq,h2,h3,h4,_,h5⟩:=dd'
  refine gR I (by rw [e];exact True.intro) hs ⟨q,hq⟩ ⟨hl,hd,_,(rel.put k eb rv).keeps fun c ys ec=>?_,q,es,ep,hq,h2,h3,h4,h5⟩
  rw [ah (uw ec e (fun z=>nomatch z))]
  exact ec
end
section
variable {X:Cx} {pins:List (Addr×Obj)} {σ:St} {H:Hp} {s:Shared} {a:Addr} {kvs:List (Key×V)} {k:Key} {u:Value} {A:Around} {E:Value->Shared->Prop}
theorem rK {Q:Value->Shared->Prop} (I:Inv X pins σ H s) (e:H a=some (.dK kvs)) (h: ∀ s',Inv X pins σ (upd H a (.dK [])) s'->Q .none s'):wpAny (model X.prog X.w) A (call (.builtin "dict.clear") [.ref a]) Q E s:=by
 obtain ⟨z,hd,vs,rel,dd⟩:=iB I.hok e
 refine call_meetsIn PySem.F.slot_dict_clear dd.typeIs PySem.F.entry_dict_clear (PySem.F.args_dict_clear_1 _) (meets_dict_clear (aX X.prog X.w) a) ⟨vs,dd,by rw [<- rel.length];exact z,fun h' dd' hs=>h _ ?_⟩
 have he: ∃ q,h'.get? a=some q:=let ⟨q,_,_,hq,_⟩:=dd';⟨q,hq⟩
 exact gR (t':=s.toks) I (by rw [e];exact True.intro) hs he (qk (Nat.zero_le _) hd .nil dd')
end
noncomputable def uR (i:Expr):Prop:= ∀ ov iv,subscripted i false ov iv=operate [ov,iv] (getItem ov iv)
theorem qH {prog:Program} {w:World} {A:Around} {E:Value->Shared->Prop} {s:Shared} {env:Env} {value slice:Expr} {pos:Pos} {T id:String} {Q:Value->Shared->Prop}
  (hl:typeLookup (.type T) "__getitem__"=pure (some (.builtin id))) (hs:uR slice)
  (h:wpAny (model prog w) A (eval value env) (fun o s₁=>wpAny (model prog w) A (eval slice env) (fun i s₂=>s₂.TypeIs o T/\wpAny (model prog w) A (getItem o i) Q E s₂) E s₁) E s):
  wpAny (model prog w) A (eval (.Subscript value slice pos) env) Q E s:=by
 refine Subscript_ (wpAny_mono h (fun o s₁ h₁=>wpAny_mono h₁ (fun i s₂ h₂=>?_) fun _ _ x=>x) fun _ _ x=>x)
 obtain ⟨hT,h₂⟩:=h₂
 unfold subscriptTail
 refine wpAny_bind ?_
 rw [getitemInPython_of_ne hT.not_modules]
 refine wpAny_bind (wpAny_specialOf hT hl ?_)
 have fin:wpAny (model prog w) A (subscripted slice false o i) (fun r s₃=>wpAny (model prog w) A (letTemporaryGo value o r >>= fun _=>pure r) Q E s₃) E s₂:=by
  rw [hs o i]
  exact wpAny_operating (wpAny_mono h₂ (fun r s₃ h₃=>wpAny_bind (wpAny_letTemporaryGo (wpAny_pure h₃))) fun _ _ x=>x)
 first
  | exact wpAny_pure (wpAny_bind fin)
  | exact wpAny_bind (wpAny_pure (wpAny_bind fin))
  | exact wpAny_bind fin
theorem kx {X:Cx} {pins:List (Addr×Obj)} {σ:St} {H:Hp} {s:Shared} {a:Addr} {y:V} {o:Option V} (I:Inv X pins σ H s) (g:DGet H a y o):s.TypeIs (.ref a) "dict":=by
 rcases g with ⟨kvs,k,e,_,_⟩ | ⟨kvs,k,b,e,_,_,_⟩
 ·obtain ⟨_,_,vs,_,dd⟩:=i7 I.hok e
  exact dd.typeIs
 ·obtain ⟨_,_,xs,_,dd⟩:=ku I.hok e
  exact dd.typeIs
noncomputable def ub (td ty:TE):TE:=fun σ H Q=>td σ H fun x H1=>ty σ H1 fun y H2=> ∃ a v,x=.ref a/\DGet H2 a y (some v)/\Q v H2
noncomputable def u4 (ty td:TE):TE:=fun σ H Q=>ty σ H fun y H1=>td σ H1 fun x H2=> ∃ a o,x=.ref a/\DGet H2 a y o/\Q (.bl o.isSome) H2
noncomputable def qF (ty td:TE):TE:=fun σ H Q=>ty σ H fun y H1=>td σ H1 fun x H2=> ∃ a o,x=.ref a/\DGet H2 a y o/\Q (.bl (!o.isSome)) H2
noncomputable def uk (td ty tv:TE):TS:=fun D σ H=>tv σ H fun v H1=>td σ H1 fun x H2=>ty σ H2 fun y H3=> ∃ a H4,x=.ref a/\DPut H3 a y v H4/\D.nx σ H4
section
variable {X:Cx} {o i e value:Expr} {pos pos' tpos:Pos} {td ty tv:TE}
theorem cz (hu:X.A.units+1<cLine) (ho:PE X o td) (hi:PE X i ty) (hs:uR i):PE X (.Subscript o i pos) (ub td ty):=by
 intro pins s σ H Q I h
 refine qH PySem.F.slot_dict_getitem.lookup hs (thn (ho pins s σ H _ I h) fun u s1 ⟨x,H1,I1,rx,q1⟩=>thn (hi pins s1 σ H1 _ I1 q1) fun iv s2 ⟨y,H2,I2,ry,a,v,ex,g,q2⟩=>?_)
 subst ex
 obtain rfl:u=Value.ref a:=rx
 exact ⟨kx I2 g,om hu I2 g ry fun w' s3 I3 rw'=>⟨v,H2,I3,rw',q2⟩⟩
theorem lH (hu:X.A.units+1<cLine) (hi:PE X i ty) (ho:PE X o td):PC X .In i o (u4 ty td):=by
 intro pins s σ H Q I h
 refine thn (hi pins s σ H _ I h) fun iv s1 ⟨y,H1,I1,ry,q1⟩=>thn (ho pins s1 σ H1 _ I1 q1) fun u s2 ⟨x,H2,I2,rx,a,ov,ex,g,q2⟩=>?_
 subst ex
 obtain rfl:u=Value.ref a:=rx
 exact vz hu I2 g ry fun s3 I3=>⟨.bl ov.isSome,H2,I3,rfl,q2⟩
theorem fZ (hu:X.A.units+1<cLine) (hi:PE X i ty) (ho:PE X o td):PC X .NotIn i o (qF ty td):=by
 intro pins s σ H Q I h
 refine thn (hi pins s σ H _ I h) fun iv s1 ⟨y,H1,I1,ry,q1⟩=>thn (ho pins s1 σ H1 _ I1 q1) fun u s2 ⟨x,H2,I2,rx,a,ov,ex,g,q2⟩=>?_
 subst ex
 obtain rfl:u=Value.ref a:=rx
 exact rJ hu I2 g ry fun s3 I3=>⟨.bl (!ov.isSome),H2,I3,rfl,q2⟩
theorem fB (hu:X.A.units+1<cLine) (ho:PE X o td) (hi:PE X i ty) (hv:PE X value tv) (hs:swapsWith value (some (.Subscript o i pos')) pos.line X.env=pure false):
  PS X (.Assign [.Subscript o i pos'] value pos) (uk td ty tv):=by
 intro pins s σ H D I h
 refine wpAny_Assign_Subscript (thn (hv pins s σ H _ I h) fun r s1 ⟨v,H1,I1,rv,q1⟩=>thn (ho pins s1 σ H1 _ I1 q1) fun u s2 ⟨x,H2,I2,rx,q2⟩=>thn (hi pins s2 σ H2 _ I2 q2) fun iv s3 ⟨y,H3,I3,ry,a,H4,ex,g,q3⟩=>?_) hs
 subst ex
 obtain rfl:u=Value.ref a:=rx
 exact oj hu I3 g ry rv fun s4 I4=>⟨σ,H4,I4,q3⟩
end
theorem ql {P:Program} {w:World} {H:Hp} (h:Heap) (hb:sysModules<h.objs.size):ObjOk P w H (h.push {cls:=.type "dict",data:=.dict #[]}) h.objs.size (.dK []):=
 ⟨Nat.zero_le _,beq_eq_false_iff_ne.mpr (Ne.symm (Nat.ne_of_lt hb)),[],.nil,Heap.DictOf.new h⟩
noncomputable def sv:TE:=fun _ H Q=> ∀ p,H p=none->Q (.ref p) (upd H p (.dK []))
section
variable {X:Cx} {pos:Pos}
theorem dC:PE X (.Dict [] [] pos) sv:=fun pins s σ H Q I h=>
 wpAny_Dict_empty ⟨.ref s.heap.objs.size,_,I.laid (a:=s.heap.objs.size) (o:=.dK []) (t':=s.toks) (fun _ _ q=>Heap.get?_push_of_some _ q) (Nat.le_refl _) (ql s.heap I.big),rfl,h _ (I.hok.fresh (Nat.le_refl _))⟩
end
end L2
namespace Att
open PySem PySem.W PySem.Calls PyProof.Rows
theorem gF {P:Params} {h:Heap}: ∀ (ns:List Int) (vs:List Value),WellAll P h vs (ns.map WData.int)->IntsAre vs ns:=by
 intro ns
 induction ns with
 | nil=>
  intro vs w
  rw [List.map_nil]at w
  cases w
  exact .nil
 | cons n ns ih=>
  intro vs w
  rw [List.map_cons]at w
  cases w with
  | cons a b=>
   cases a
   exact .cons _ _ (ih _ b)
theorem mU {l:OpenLaw} {n:Nat} (hn:l.most=some n) {P:Params} {h:Heap} {args:List WData} {vals:List Value}
  (hpre:l.row.toRowW.claim.pre args=true) (hwl:WellAll P h vals args):
  ∃ a vs ns,vals=[Value.ref a]/\args=[WData.list (ns.map WData.int)]/\h.get? a=some {cls:=.type "list",data:=.seq vs.toArray}/\IntsAre vs ns/\ns.length<=n:=by
 have hsh:WShape.hasAll [] args [.list .int]=true:=(pre_splitW hpre).1
 have hc:l.pre.holds [] {args:=args}=true:=(pre_splitW hpre).2
 obtain ⟨d,r,rfl,h1,h2⟩:=hasAllW_cons hsh
 obtain rfl:=hasAllW_nil h2
 obtain ⟨xs,rfl,h3⟩:=hasW_list h1
 obtain ⟨ns,rfl⟩:=items_int h3
 have hlen:ns.length<=n:=by
  unfold OpenLaw.pre at hc
  have h4:(WTm.not (.lt (.lit (.int (n:Int))) (.len (.arg 0)))).holds [] {args:=[.list (ns.map .int)]}=true:=by
   have h4:=(holds_andW hc).1
   rw [hn]at h4
   exact h4
  have h5:=condW_of h4 (w_not (w_lt w_lit (w_len_list (w_arg rfl))))
  rw [List.length_map]at h5
  refine Nat.le_of_not_lt fun q=>?_
  have q':(n:Int) < ((ns.length:Nat):Int):=by omega
  first
   | (rw [decide_eq_true q']at h5;exact absurd h5 (by decide))
   | (simp at h5;omega)
 cases hwl with
 | cons w1 w2=>
  cases w2
  cases w1 with
  | list ho hall=>exact ⟨_,_,ns,rfl,rfl,ho,gF ns _ hall,hlen⟩
theorem nn (l:OpenLaw) (args:List WData):l.row.toRowW.claim.post args (.bool true) args=true:=
 postW_of (r:=l.row.toRowW) (X:=(true==true))
  (show WShape.has [] (.bool true) .bool=true by first | rfl | decide | simp [WShape.has,WShape.arms,WShape.armsAll])
  (show (WTm.eq .res (.lit (.bool true))).value [] {args:=args,res:=some (.bool true),after:=args}=some (.bool (true==true))from w_eq_bool (w_res rfl) w_lit) rfl
theorem attach_call {l:OpenLaw} {n:Nat} {q:Program} {loose:List Str} {XP:(Str->Option Value)->Heap->Prop} {YP:World->Heap->Prop} {d:DefRec}
  (hn:l.most=some n) (hdf:d.params.defaults=[])
  (call: ∀ (w:World) (s₀ s₁:Shared) (mg mb:Str->Option Value) (fa:Addr) (o:Obj) (pm cd doc:Value) (a:Addr) (vs:List Value) (ns:List Int),
   Ground q loose [] XP w s₀ mg mb s₁.heap->YP w s₁.heap->
   s₁.heap.get? fa=some o->o.data=.func (docDef d.name d.params d.body d.scope pm cd doc)->s₁.heap.CodeRec cd d.name->mg d.name=some (.ref fa)->
   s₁.heap.get? a=some {cls:=.type "list",data:=.seq vs.toArray}->IntsAre vs ns->ns.length<=n->s₁.gens= #[]->
   codeAny (model l.prog w) callerA (.call (.ref fa) ⟨[.ref a],[]⟩) (fun r s'=>r=.ok (.ret (.bool true))/\OldK s₁.heap s'.heap/\s'.os=s₁.os/\AllBare s'.gens) s₁):
  WalkO q loose XP YP l.row.toRowW d [] (fun f vs=>PySem.call f vs):=by
 intro w s₀ s₁ mg mb G Y fa o pm cd doc dV kV ho hd hcd hD hmg hg args vals as hpre hlay hrd hwl hlo
 obtain rfl:dV=.none:=Dflts.none hD hdf
 obtain rfl:kV=.none:=Dflts.noKw hD
 obtain ⟨a,vs,ns,rfl,rfl,hobj,hints,hlen⟩:=mU hn hpre hwl
 refine enter_call (codeAny_mono (call w s₀ s₁ mg mb fa o pm cd doc a vs ns G Y ho (fd_plain hd) hcd hmg hobj hints hlen hg) fun r s' hq=>?_)
 obtain ⟨rfl,h2,h3,h4⟩:=hq
 exact ⟨.inl ⟨.bool true,.bool true,[],rfl,fun _=>rfl,.bool true,nn l _,fun _=>⟨List.Pairwise.nil,fun _ hm=>(nomatch hm)⟩⟩,h2,h3,h4⟩
end Att
namespace L2
open PySem PySem.Spec PyProof.Rows
theorem iR: ∀ {vs:List Value} {ns:List Int},IntsAre vs ns->Vals (ns.map V.int) vs
 | _,_,.nil=>.nil
 | _,_,.cons n t h=>.cons ⟨t,rfl⟩ (iR h)
noncomputable def fM (s:Stmt):Arguments:=match s with
 | .FunctionDef _ a _ _ _ _ _ _ _ _=>a
 | _=>{posonlyargs:=[],args:=[],vararg:=none,kwonlyargs:=[],kw_defaults:=[],kwarg:=none,defaults:=[]}
noncomputable def bz (s:Stmt):List Stmt:=match s with
 | .FunctionDef _ _ b _ _ _ _ _ _ _=>b
 | _=>[]
noncomputable def aj (s:Stmt):Scope:=match s with
 | .FunctionDef _ _ _ _ _ _ sc _ _ _=>sc
 | _=>{kind:=.function,names:=[],isGenerator:=false,isCoroutine:=false}
noncomputable abbrev CX0:CXT:=fun _ _ _ _ _ _=>False
noncomputable abbrev E0:XK:=fun _ _ _=>False
theorem aw {X:Cx}:jN CX0 X E0:=fun _ _ _ _ _ _ _ h=>h.elim
structure Fun (K:PySem.W.Frag) (x qual:Str) (st:Stmt) (f:Addr) (fd:FuncData):Prop where
 ex: ∃ (oc:Value) (od:Option Addr) (kV doc pm:Value) (an:Option Addr) (cdv ct:Value) (osl:Array (Option Value)),
  fd=PySem.W.fnOf x qual (fM st) (bz st) (aj st) .none kV doc pm an cdv ct/\K.lookup f=some ⟨oc,od,.func fd,osl⟩/\PySem.W.codeIn K cdv qual=true
 kp:PySem.W.keepIn K (.ref f)=true
section
variable {P:Program} {w:World} {K:PySem.W.Frag} {mg:Str->Option Value} {base:Heap}
theorem Fun.ok {x qual:Str} {st:Stmt} {f:Addr} {fd:FuncData} {N ps:List Str} {k:Nat} {sp:Sp} (F:Fun K x qual st f fd) (S:aI N ps (aj st)) (len: ∀ vs H Q E,sp vs H Q E->vs.length=ps.length)
  (hbody: ∀ (cdv:Value) (A:Around) (outer:List Env) (s:Shared) (H:Hp) (vs:List V) (Q:VK) (E:XK),Room k (A.deeper (envOfC qual (aj st) s.heap.objs.size f cdv))->sp vs H Q E->
   ∃ t,PSs (dv CX0 P w K mg base N qual (aj st) f cdv A outer s H E).nox (bz st) t/\t {nx:=fun _ H'=>Q .non H',rt:=Q} (fq N vs) H):ay P w K mg base CX0 (k+1) f fd ps sp:=by
 obtain ⟨oc,od,kV,doc,pm,an,cdv,ct,osl,rfl,lk,hcd⟩:=F.ex
 refine rX lk hcd S len fun A outer s H vs Q E hr hsp=>?_
 obtain ⟨t,h,q⟩:=hbody cdv A outer s H vs Q E hr hsp
 exact ⟨t,h.nox,q⟩
theorem Fun.binds {x qual:Str} {st:Stmt} {f:Addr} {fd:FuncData} {ps:List Str} (F:Fun K x qual st f fd)
  (h: ∀ (kV doc pm:Value) (an:Option Addr) (cdv ct:Value) (us:List Value),us.length=ps.length->bindArgs (PySem.W.fnOf x qual (fM st) (bz st) (aj st) .none kV doc pm an cdv ct) ⟨us,[]⟩=pure (ps.zip us)):Binds K fd ps []:=by
 obtain ⟨oc,od,kV,doc,pm,an,cdv,ct,osl,rfl,lk,hcd⟩:=F.ex
 exact .all (h kV doc pm an cdv ct)
end
theorem dR {A:Around} {k:Nat} (hr:Room k A):A.units+1<cLine:=Nat.lt_of_le_of_lt (Nat.add_le_add_left (by decide:1<=64) _) hr.units
theorem aF {n:Nat} (h:n<=1000):n<sizeLine:=Nat.lt_of_le_of_lt h (by decide)
section
variable {X:Cx}
theorem pv (i:Nat) {x:Str} {pos:Pos} (hN:X.N[i]? =some x:=by rfl) (hv:Vis X.env.scope x:=by first | exact Or.inl rfl | exact Or.inr (Or.inl rfl) | exact Or.inr (Or.inr rfl)) (hd:(x==("__debug__":Str))=false:=by decide)
  (hcd:(x==("__classdict__":Str))=false:=by decide):PE X (.Name x pos) (qD i):=sM hN hv hd hcd
end
theorem bi {A B:Prop} (h:B):if false=true then A else B:=by
 rw [if_neg Bool.false_ne_true]
 exact h
theorem bd {A B:Prop} (h:A):if true=true then A else B:=by
 rw [if_pos rfl]
 exact h
theorem dE {c A B:Prop} [Decidable c] (h1:c->A) (h2: ¬ c->B):if c then A else B:=by
 by_cases h:c
 ·rw [if_pos h]
  exact h1 h
 ·rw [if_neg h]
  exact h2 h
noncomputable def Same (H H':Hp):Prop:= ∀ b o,H b=some o->H' b=some o
theorem Same.refl (H:Hp):Same H H:=fun _ _ h=>h
theorem Same.trans {H H1 H2:Hp} (a:Same H H1) (b:Same H1 H2):Same H H2:=fun c o h=>b c o (a c o h)
theorem Same.free {H H':Hp} (e:Same H H') {l:Addr} (h:H' l=Option.none):H l=Option.none:=by
 cases q:H l with
 | none=>rfl
 | some o=>
  rw [e l o q]at h
  cases h
theorem Same.seq {K:PySem.W.Frag} {H H':Hp} {a:Addr} {xs:List V} (e:Same H H') (h:SqL K H a xs):SqL K H' a xs:=by
 rcases h with (h | ⟨o,h⟩) | h
 ·exact .inl (.inl (e _ _ h))
 ·exact .inl (.inr ⟨o,e _ _ h⟩)
 ·exact .inr h
section
variable {X:Cx}
theorem qp:di X (.builtin "isinstance") (fun xs H Q=> ∃ x T t b,xs=[x,.ty T]/\fO X.K H x t/\PySem.W.kitOne X.K t (.type T)=some b/\Q (.bl b) H):=by
 intro pins s σ H xs us Q I r h
 obtain ⟨x,T,t,b,rfl,ty,e,q⟩:=h
 obtain ⟨u,w',rfl,ru,rw'⟩:=gm r
 cases (show w'=Value.type T from rw')
 exact nX I ru ty e fun tk=>⟨.bl b,H,I.tok tk,rfl,q⟩
end
noncomputable def Itw (n:Nat) (R:Nat->V->Prop):It:=⟨fun i _=>i<n,fun i H x H'=>H'=H/\R i x,fun i _=>i=n⟩
theorem la {P:Program} {w:World} {K:PySem.W.Frag} {tg:Expr} (it:Addr) (n:Nat) (Pv:Nat->Value->Prop) (tn:Nat->Heap->Prop) (R:Nat->V->Prop)
  (hW: ∀ A:Around,A.handled=none->Walks P w A it [it] [it] n Pv tn)
  (hobj: ∀ i h,tn i h-> ∃ (o:Obj) (nm:String) (vs:Array Value),h.get? it=some o/\o.cls=.type nm/\o.data=.fields vs/\
   ["enumerate","zip","dict_itemiterator","dict_reverseitemiterator","odict_iterator","itertools.zip_longest","itertools.pairwise"].contains nm=false)
  (hP: ∀ i v,Pv i v-> ∃ x,RelV x v/\R i x)
  (hself: ∀ (A:Around) (i:Nat) (s:Shared) (Q:Value->Shared->Prop) (E:Value->Shared->Prop),tn i s.heap->Q (.ref it) s->wpAny (model P w) A (pyIter (.ref it)) Q E s):l3 P w K tg (Itw n R) [it] it tn where
 mem:=by simp
 obj:=fun i h st b hb=>by
  have e:b=it:=by simpa using hb
  subst e
  obtain ⟨o,nm,vs,e,_,d,_⟩:=hobj i h st
  exact ⟨o,e,fun v z=>by rw [d]at z;cases z⟩
 keep:=fun i h h' st k=>(hW callerA rfl).frame i h h' st fun b hb o e=>k b hb o e
 item:=by
  intro X hP' hw hK hc i pins s σ H E I hf st hg
  subst hP' hw hK
  obtain ⟨f0,f1,f2,f3,f4,f5⟩:=hf it (by simp)
  refine (hW X.A (I.ok.hd hc)).item i s _ _ hg st fun v h' tk hv st' kk=>?_
  obtain ⟨x,rx,qx⟩:=hP i v hv
  have I1:Inv X pins σ H {s with heap:=h',toks:=tk}:=I.turned (fun b o hb e=>kk b o (by simpa using hb) e) f0 f1 f3 f4 f5
  obtain ⟨o,nm,vs,e,c,d,ne⟩:=hobj _ _ st'
  exact ⟨v,rfl,ko (s:={s with heap:=h',toks:=tk}) e c d ne ⟨x,H,I1,rx,⟨rfl,qx⟩,st',fun b hb=>(hf b hb).1⟩⟩
 done:=by
  intro X hP' hw hK hc i pins s σ H E I hf st hg
  subst hP' hw hK
  obtain ⟨f0,f1,f2,f3,f4,f5⟩:=hf it (by simp)
  have hg':i=n:=hg
  subst hg'
  exact (hW X.A (I.ok.hd hc)).done s _ _ st fun h' tk kk=>⟨rfl,I.turned (t':=tk) (fun b o hb e=>kk b o (by simpa using hb) e) f0 f1 f3 f4 f5⟩
 self:=hself
theorem qf {n:Nat} {R:Nat->V->Prop} {g:TG} {tb:TS} {D:eP} {σ:St} {H:Hp} (Pv:Nat->St->Hp->Prop) (h0:Pv 0 σ H)
  (hs: ∀ i x σ H,i<n->R i x->Pv i σ H->g x σ H fun σ2 H2=>tb {D with nx:=Pv (i+1),ct:=Pv (i+1),bk:=D.nx} σ2 H2) (hd: ∀ σ H,Pv n σ H->D.nx σ H):
  ∃ W:Nat->Nat->St->Hp->Prop,(∃ m,W 0 m σ H)/\ ∀ i m σ H,W i m σ H->
   ((Itw n R).stop i H/\D.nx σ H)\/((Itw n R).go i H/\ ∃ N:St->Hp->Prop,(∀ σ' H',N σ' H'-> ∃ m',m'<m/\W (i+1) m' σ' H')/\ ∀ x H',(Itw n R).yld i H x H'->g x σ H' fun σ2 H2=>tb {D with nx:=N,ct:=N,bk:=D.nx} σ2 H2):=by
 refine ⟨fun i m σ H=>i<=n/\m=n-i/\Pv i σ H,⟨n,Nat.zero_le _,by simp,h0⟩,?_⟩
 rintro i m σ H ⟨hi,hm,p⟩
 by_cases e:i=n
 ·subst e
  exact .inl ⟨rfl,hd σ H p⟩
 ·have hlt:i<n:=by omega
  refine .inr ⟨hlt,Pv (i+1),fun σ' H' p'=>⟨n- (i+1),by omega,by omega,rfl,p'⟩,?_⟩
  rintro x H' ⟨rfl,r⟩
  exact hs i x σ H' hlt r p
section
variable {X:Cx} {tg:Expr}
noncomputable def uC (ta:TA):TI:=fun σ H R=>ta σ H fun vs H1=> ∃ i j c:Int,vs=[.int i,.int j,.int c]/\(-(2^40)<=i/\i<2^40/\ -(2^40)<=j/\j<2^40/\0<c/\c<2^20)/\
 R (Itw (Builtin.Range.rangeSize i j c).toNat fun k v=>v=.int (i+k*c)) H1
theorem lp {a b c:Int} (h1: -(2^40)<=a) (h2:a<2^40) (h3: -(2^40)<=b) (h4:b<2^40) (h5:0<c) (h6:c<2^20):Builtin.Range.small a b c=true:=by
 have hz:Builtin.Range.rangeSize a b c<=2^41/\0<=Builtin.Range.rangeSize a b c:=by
  unfold Builtin.Range.rangeSize
  rw [if_pos h5]
  split
  ·have e1:(b-a-1) /c<=b-a-1:=Int.ediv_le_self _ (by omega)
   have e2:0<=(b-a-1) /c:=Int.ediv_nonneg (by omega) (by omega)
   omega
  ·omega
 unfold Builtin.Range.small
 simp only [Builtin.Range.rangeFitsLong,Bool.and_eq_true,Bool.or_eq_true,decide_eq_true_eq,beq_iff_eq,show c>0 from h5,if_true]
 omega
theorem nr {a b c:Expr} {ta:TA} {p pos:Pos} (hg:Gl X "range") (hm:X.mg "range"=none) (ha:PA X [a,b,c] ta) (hs:starEach [a,b,c] X.env=[(false,eval a X.env),(false,eval b X.env),(false,eval c X.env)]:=by rfl)
  (hs2:starEach [b,c] X.env=[(false,eval b X.env),(false,eval c X.env)]:=by rfl):PI X tg (.Call (.Name "range" p) [a,b,c] [] pos) (uC ta):=by
 intro pins s σ H R I h
 refine Call_ (dN I hg hm boot_range (PyProof.Rows.callWith_type1 (thn (ha pos pins s σ H _ I h) fun us s1 ⟨vs,H1,I1,r1,q1⟩=>?_) (by rw [hs,hs2]) (by rw [hs2];rfl)))
 obtain ⟨i,j,c,e,⟨q1,q2,q3,q4,q5,q6⟩,q⟩:=q1
 subst e
 cases r1 with
 | cons r rr=>
  cases rr with
  | cons r' rr=>
   cases rr with
   | cons r'' rr=>
    cases rr
    obtain ⟨t,rfl⟩:=r
    obtain ⟨t',rfl⟩:=r'
    obtain ⟨t'',rfl⟩:=r''
    refine call_range_3 (by omega) ?_ (Or.inl (PyProof.noPylong_small (by omega)))
    refine wpAny_pyIter_range (IsRange.new ..) (lp q1 q2 q3 q4 q5 q6) ?_
    have I2:Inv X pins σ H1 {s1 with heap:=s1.heap.push {cls:=.type "range",data:=.fields #[.int i t,.int j t',.int c t'']}}:=I1.kept (t':=s1.toks) fun b o e=>Heap.get?_push_of_some _ e
    have hn:0<=Builtin.Range.rangeSize i j c:=by
     unfold Builtin.Range.rangeSize
     rw [if_pos q5]
     split
     ·have:=Int.ediv_nonneg (a:=j-i-1) (b:=c) (by omega) (by omega)
      omega
     ·omega
    refine ⟨(s1.heap.push {cls:=.type "range",data:=.fields #[.int i t,.int j t',.int c t'']}).objs.size,[(s1.heap.push {cls:=.type "range",data:=.fields #[.int i t,.int j t',.int c t'']}).objs.size],_,_,H1,rfl,
     I2.kept (t':=s1.toks) fun b o e=>Heap.get?_push_of_some _ e,
     la _ (Builtin.Range.rangeSize i j c).toNat _ _ (fun k v=>v=.int (i+k*c)) (fun A hA=>Walks.range hA _ i c _) (fun k h st=>⟨_,"range_iterator",_,st,rfl,rfl,by decide⟩) (fun k v hv=>?_) (fun _ _ _ _ _ st h=>wpAny_pyIter_rangeiter st h),?_,fun b hb=>?_,q⟩
    ·obtain ⟨tt,rfl⟩:=hv
     exact ⟨.int (i+k*c),⟨tt,rfl⟩,rfl⟩
    ·show IsRangeIter _ _ (i+ ((0:Nat):Int) *c) (((Builtin.Range.rangeSize i j c).toNat:Int) - ((0:Nat):Int)) c
     have e1:i+ ((0:Nat):Int) *c=i:=by simp
     have e2:(((Builtin.Range.rangeSize i j c).toNat:Nat):Int) - ((0:Nat):Int)=Builtin.Range.rangeSize i j c:=by omega
     rw [e1,e2]
     exact Heap.get?_push_size _ rfl
    ·have e:b=(s1.heap.push {cls:=.type "range",data:=.fields #[.int i t,.int j t',.int c t'']}).objs.size:=by simpa using hb
     subst e
     exact I2.fpOk (Nat.le_refl _) I2.fresh
end
section
variable {X:Cx} {e k:Expr} {te tk:TE} {pos p2:Pos}
theorem dy: ∀ (ix:List Nat) {xs:List V} {us:List Value},Vals xs us->Vals (ix.filterMap (xs[·]?)) (ix.filterMap (us[·]?))
 | [],_,_,_=>.nil
 | i::r,xs,us,h=>by
  rw [List.filterMap_cons,List.filterMap_cons]
  cases ex:xs[i]? with
  | none=>
   rw [h.none_of ex]
   exact dy r h
  | some x=>
   obtain ⟨u,eu,ru⟩:=h.get ex
   rw [eu]
   exact .cons ru (dy r h)
noncomputable def dX (n:Nat) (c:Int):List Nat:=sliceRange (sliceBounds none none (some c) n).1 (sliceBounds none none (some c) n).2.1 (sliceBounds none none (some c) n).2.2
noncomputable def gn (xs:List V) (c:Int):List V:=(dX xs.length c).filterMap (xs[·]?)
theorem lA {α:Type} (xs:List α):(List.range xs.length).filterMap (xs[·]?)=xs:=by
 induction xs with
 | nil=>rfl
 | cons x r ih=>
  rw [List.length_cons,List.range_succ_eq_map,List.filterMap_cons,List.filterMap_map]
  show x::List.filterMap ((fun j=>(x::r)[j]?)∘Nat.succ) (List.range r.length)=x::r
  congr 1
theorem lj (n:Nat):dX n 1=List.range n:=by
 unfold dX sliceBounds sliceRange
 simp only [Option.getD_some,show (1:Int) >0 by decide,if_true]
 by_cases h:n=0
 ·subst h
  rfl
 ·rw [if_pos (by omega)]
  have e:(((n:Int) -0+1-1) /1).toNat=n:=by rw [Int.ediv_one];omega
  rw [e]
  conv=>rhs;rw [<- List.map_id (List.range n)]
  apply List.map_congr_left
  intro k hk
  show (0+1* (k:Int)).toNat=k
  omega
theorem mM (xs:List V):gn xs 1=xs:=by
 unfold gn
 rw [lj]
 exact lA xs
theorem ll (n:Nat):dX n (-1)=(List.range n).map fun k=>n-1-k:=by
 unfold dX sliceBounds sliceRange
 simp only [Option.getD_some,show ¬ ((-1:Int) >0) by decide,if_false]
 by_cases h:n=0
 ·subst h
  rfl
 ·rw [if_pos (by omega)]
  have e:(((n:Int) -1- -1- -1-1) / (- -1)).toNat=n:=by
   rw [show (- -1:Int)=1 by decide,Int.ediv_one];omega
  rw [e]
  apply List.map_congr_left
  intro k hk
  have:=List.mem_range.mp hk
  show ((n:Int) -1+ -1* (k:Int)).toNat=n-1-k
  omega
theorem rev_pick {α:Type} (xs:List α):((List.range xs.length).map fun k=>xs.length-1-k).filterMap (xs[·]?)=xs.reverse:=by
 apply List.ext_getElem?
 intro i
 have hall:((List.range xs.length).map fun k=>xs.length-1-k).filterMap (xs[·]?)=(List.range xs.length).filterMap fun k=>xs[xs.length-1-k]? :=by
  rw [List.filterMap_map]
  rfl
 rw [hall]
 have hsome: ∀ (l:List Nat),(∀ k∈l,k<xs.length)-> ∀ j:Nat,(l.filterMap fun k=>xs[xs.length-1-k]?)[j]? =l[j]?.bind fun k=>xs[xs.length-1-k]? :=by
  intro l
  induction l with
  | nil=>intro _ j;rfl
  | cons a r ih=>
   intro hl j
   have ha:=hl a List.mem_cons_self
   have hx:xs[xs.length-1-a]? =some xs[xs.length-1-a]:=List.getElem?_eq_getElem (by omega)
   rw [List.filterMap_cons,hx]
   cases j with
   | zero=>simp [hx]
   | succ j=>
    rw [List.getElem?_cons_succ,List.getElem?_cons_succ]
    exact ih (fun k hk=>hl k (List.mem_cons_of_mem _ hk)) j
 rw [hsome _ (fun k hk=>List.mem_range.mp hk) i]
 by_cases hi:i<xs.length
 ·rw [List.getElem?_range hi,List.getElem?_reverse hi]
  rfl
 ·rw [List.getElem?_eq_none (by simpa using hi),List.getElem?_eq_none (by simpa using hi)]
  rfl
theorem mQ (xs:List V):gn xs (-1)=xs.reverse:=by
 unfold gn
 rw [ll]
 exact rev_pick xs
noncomputable def tT (K:PySem.W.Frag) (te tk:TE):TE:=fun σ H Q=>te σ H fun x H1=>tk σ H1 fun y H2=> ∃ a xs c,x=.ref a/\y=.int c/\SqL K H2 a xs/\c≠0/\ ∀ p,H2 p=none->Q (.ref p) (upd H2 p (.lst (gn xs c)))
theorem qS (he:PE X e te) (hk:PE X k tk):PE X (.Subscript e (.Slice none none (some k) p2) pos) (tT X.K te tk):=by
 intro pins s σ H Q I h
 refine Subscript_ (thn (he pins s σ H _ I h) fun v s1 ⟨x,H1,I1,r1,q1⟩=>?_)
 refine wpAny_Slice ?_
 rw [evalPart_none,evalPart_some]
 refine wpAny_pure (wpAny_pure ?_)
 refine thn (hk pins s1 σ H1 _ I1 q1) fun vk s3 ⟨y,H3,I3,ry,a,xs,c,ex,ey,hq,hc,q⟩=>?_
 subst ex ey
 obtain ⟨t,rfl⟩:=ry
 cases r1
 have I4:Inv X pins σ H3 {s3 with heap:=s3.heap.push {cls:=.type "slice",data:=.fields #[.none,.none,.int c t]}}:=I3.kept (t':=s3.toks) fun b ob q=>Heap.get?_push_of_some _ q
 obtain ⟨its,r,ht,hz⟩:=I4.list hq
 have hlen:=r.length
 have hpick:slicePick its.toArray none none (some c)=((dX xs.length c).filterMap (its[·]?)).toArray:=by
  unfold slicePick dX
  rw [List.size_toArray,hlen]
  simp
 have hle:(gn xs c).length<=sizeLine:=by
  have h1:=slicePick_size_le its.toArray none none (some c)
  rw [hpick,List.size_toArray,List.size_toArray]at h1
  have h2:=(dy (dX xs.length c) r).length
  unfold gn
  omega
 show wpAny (model X.prog X.w) X.A (subscriptTail e (.Slice none none (some k) p2) (.ref a) (.ref s3.heap.objs.size)) (EP X pins σ Q) X.xe {s3 with heap:=s3.heap.push {cls:=.type "slice",data:=.fields #[.none,.none,.int c t]}}
 refine tail_any (ops:=[.ref a,.ref s3.heap.objs.size]) ht.isList.typeIs slot_list_getitem.lookup (wpAny_getItem_list_slice ht.isList (Heap.IsSliceOf.new ..) .none .none (.int c t) (by simpa using hc) ?_ (by rw [List.size_toArray];omega)) (by with_unfolding_all rfl)
 rw [hpick]
 refine ⟨.ref (s3.heap.push {cls:=.type "slice",data:=.fields #[.none,.none,.int c t]}).objs.size,_,I4.laid (t':=s3.toks) (o:=.lst (gn xs c)) (fun b ob q=>Heap.get?_push_of_some _ q) (Nat.le_refl _) ?_,rfl,q _ I4.fresh⟩
 exact ⟨hle,_,0,dy _ r,Heap.get?_push_size _ rfl⟩
noncomputable def va:V->Option Int->Option Int->Hp->VK->Prop:=fun x lo hi H Q=> ∃ z,x=.str z/\z.length<=sizeLine/\Q (.str (Txt.slice z lo hi)) H
theorem jl:SlR X va:=by
 intro pins s σ H x v vl vu lo hi sl Q I rx hs pl pu h
 obtain ⟨z,rfl,hz,q⟩:=h
 obtain ⟨t,rfl⟩:=rx
 refine ⟨"str",_,F.slot_str_getitem.lookup,typeIs_str _ _ _,?_⟩
 have go: ∀ (l u:Option (Int×Tok)),vl=partValue l->vu=partValue u->lo=l.map (·.1)->hi=u.map (·.1)->wpAny (model X.prog X.w) X.A (getItem (.str z t) (.ref sl)) (EP X pins σ Q) X.xe s:=by
  intro l u e1 e2 e3 e4
  subst e1 e2 e3 e4
  refine wpAny_getItem_str_slice (l:=l) (u:=u) (st:=none) hs rfl ?_
  exact post_val_or_str ⟨Nat.le_trans (Txt.slice_le z _ _) hz,fun t' k=>⟨.str (Txt.slice z (l.map (·.1)) (u.map (·.1))),H,I.tok k,⟨t',rfl⟩,q⟩⟩
 cases pl with
 | none=>
  cases pu with
  | none=>exact go none none rfl rfl rfl rfl
  | int j tj=>exact go none (some (j,tj)) rfl rfl rfl rfl
 | int i ti=>
  cases pu with
  | none=>exact go (some (i,ti)) none rfl rfl rfl rfl
  | int j tj=>exact go (some (i,ti)) (some (j,tj)) rfl rfl rfl rfl
open PySem.AutoSeq1 (wpAny_loadPart')in
theorem nh (bs:List Bool):((List.range bs.length).all fun i=>(bs[i]?).getD true)=bs.all id:=by
 induction bs with
 | nil=>rfl
 | cons b r ih=>
  rw [List.length_cons,List.range_succ_eq_map,List.all_cons,List.all_map]
  show (b&&(List.range r.length).all (fun i=>((b::r)[i+1]?).getD true))=(b&&r.all id)
  rw [<- ih]
  rfl
theorem kK (hc:X.calm=true):di X (.builtin "all") (fun xs H Q=> ∃ (p:Addr) (bs:List Bool),xs=[.ref p]/\SqL X.K H p (bs.map V.bl)/\Q (.bl (bs.all id)) H):=by
 intro pins s σ H xs us Q I r h
 obtain ⟨p,bs,rfl,hq,q⟩:=h
 obtain ⟨u,rfl,ru⟩:=gU r
 cases ru
 obtain ⟨its,rv,pl,hz⟩:=I.list hq
 have hl:=pl.isList
 have hlt:p<s.heap.objs.size:=by obtain ⟨_,e,_⟩:=hl;exact Heap.lt_size e
 have hn:its.toArray.size=bs.length:=by have:=rv.length;rw [List.length_map]at this;rw [List.size_toArray];omega
 refine call_all_walk (wpAny_pyIter_list hl ?_)
 refine ⟨s.heap.objs.size,[s.heap.objs.size,p],[s.heap.objs.size],its.toArray.size,_,_,fun i=>(bs[i]?).getD true,rfl,Walks.list (A:=X.A.in1) (I.ok.hd hc) _ p (Nat.ne_of_lt hlt) its.toArray,
  ⟨⟨_,Heap.get?_push_size _ rfl,rfl,rfl⟩,hl.push _⟩,fun i v s' Q' E' hP hQ=>?_,fun h' tk hk=>?_⟩
 ·have hv:its[i]? =some v:=by simpa using hP
  have hi:i<bs.length:=by
   have:=(List.getElem?_eq_some_iff.mp hv).1
   have:=rv.length
   rw [List.length_map]at this
   omega
  have hb:(bs.map V.bl)[i]? =some (V.bl bs[i]):=by rw [List.getElem?_map,List.getElem?_eq_getElem hi] <;> rfl
  obtain ⟨u,eu,ru⟩:=rv.get hb
  rw [hv]at eu
  cases eu
  cases (show v=Value.bool bs[i]from ru)
  have hQ':=hQ
  simp only [List.getElem?_eq_getElem hi,Option.getD_some]at hQ'
  exact wpAny_truthy_bool hQ'
 ·rw [hn,nh]
  refine ⟨.bl (bs.all id),H,I.kept (t':=tk) fun b x e=>?_,rfl,q⟩
  exact hk b x (fun hm=>by rw [List.mem_singleton.mp hm]at e;exact Nat.lt_irrefl _ (Heap.lt_size e)) (Heap.get?_push_of_some _ e)
end
theorem fK {α β:Type} {f:α->β->Sem (ForInStep β)} (g:β->α->β): ∀ {l:List α} (c:β),(∀ x∈l,∀ c,f x c=pure (.yield (g c x)))->forIn l c f=pure (l.foldl g c)
 | [],c,_=>rfl
 | x::l,c,h=>by
  have hx:=h x List.mem_cons_self c
  rw [List.forIn_cons,hx,pure_bind]
  exact fK g (g c x) fun y hy=>h y (List.mem_cons_of_mem _ hy)
noncomputable def bK (cells:List (Str×Addr)) (c:List (Str×Addr)) (x:Str×NameKind):List (Str×Addr):=
 if x.2=.free then (match cells.lookup x.1 with | some a=>(x.1,a)::c | none=>c)else c
noncomputable def br (cells:List (Str×Addr)) (names:List (Str×NameKind)):List (Str×Addr):=names.foldl (bK cells) []
theorem cL {scope:Scope} {env:Env} (h: ∀ x∈scope.names,x.2=.free-> ∃ c,env.cells.lookup x.1=some c):closureFor scope env=pure (br env.cells scope.names):=by
 simp only [closureFor]
 rw [fK (bK env.cells) [] (fun x hx c=>by
  obtain ⟨n,kind⟩:=x
  by_cases hk:kind=.free
  ·subst hk
   obtain ⟨a,ha⟩:=h _ hx rfl
   simp only [bK,if_true,beq_self_eq_true,cellOf,ha,pure_bind]
  ·have hb:(kind==NameKind.free)=false:=by simpa using hk
   simp only [bK,hb,hk,Bool.false_eq_true,if_false])]
 rfl
theorem iG {cells:List (Str×Addr)}: ∀ {names:List (Str×NameKind)} {acc:List (Str×Addr)},(∀ p∈acc,cells.lookup p.1=some p.2)-> ∀ p∈names.foldl (bK cells) acc,cells.lookup p.1=some p.2
 | [],_,h=>h
 | x::r,acc,h=>by
  refine iG (names:=r) (acc:=bK cells acc x) ?_
  intro p hp
  unfold bK at hp
  split at hp
  ·split at hp
   ·rename_i a ha
    rcases List.mem_cons.mp hp with e | e
    ·subst e
     exact ha
    ·exact h p e
   ·exact h p hp
  ·exact h p hp
theorem iH {cells:List (Str×Addr)}: ∀ {names:List (Str×NameKind)} {acc:List (Str×Addr)} {p:Str×Addr},p∈acc->p∈names.foldl (bK cells) acc
 | [],_,_,h=>h
 | x::r,acc,p,h=>by
  refine iH (names:=r) (acc:=bK cells acc x) ?_
  unfold bK
  split
  ·split
   ·exact List.mem_cons_of_mem _ h
   ·exact h
  ·exact h
theorem ky {cells:List (Str×Addr)} {n:Str} {c:Addr} (hc:cells.lookup n=some c): ∀ {names:List (Str×NameKind)} {acc:List (Str×Addr)},(n,NameKind.free)∈names->(n,c)∈names.foldl (bK cells) acc
 | [],_,h=>by simp at h
 | x::r,acc,h=>by
  rcases List.mem_cons.mp h with e | e
  ·subst e
   refine iH (names:=r) ?_
   simp [bK,hc]
  ·exact ky hc (names:=r) e
theorem mem_of_lookup {α β:Type} [BEq α] [LawfulBEq α] {k:α} {v:β}: ∀ {l:List (α×β)},l.lookup k=some v->(k,v)∈l
 | [],h=>by simp at h
 | (a,b)::r,h=>by
  rw [List.lookup_cons]at h
  split at h
  ·rename_i e
   have:=eq_of_beq e
   subst this
   cases h
   exact List.mem_cons_self
  ·exact List.mem_cons_of_mem _ (mem_of_lookup h)
theorem eR {α β:Type} [BEq α] [LawfulBEq α] {k:α} {v:β}: ∀ {l:List (α×β)},(k,v)∈l-> ∃ v',l.lookup k=some v'
 | [],h=>by simp at h
 | (a,b)::r,h=>by
  rw [List.lookup_cons]
  split
  ·exact ⟨b,rfl⟩
  ·rename_i e
   rcases List.mem_cons.mp h with q | q
   ·cases q
    simp at e
   ·exact eR q
theorem bE {cells:List (Str×Addr)} {names:List (Str×NameKind)} {n:Str} {c:Addr} (h:(br cells names).lookup n=some c):cells.lookup n=some c:=
 iG (names:=names) (acc:=[]) (by simp) (n,c) (mem_of_lookup h)
theorem ck {cells:List (Str×Addr)} {names:List (Str×NameKind)} {n:Str} {c:Addr} (hc:cells.lookup n=some c) (h:(n,NameKind.free)∈names):(br cells names).lookup n=some c:=by
 obtain ⟨c',e⟩:=eR (ky hc (acc:=[]) h)
 have:=bE e
 rw [hc]at this
 cases this
 exact e
noncomputable def aV (sc0 scope:Scope):List (Str×NameKind):=
 scope.names.map fun (n,k)=>if (k== .free&&sc0.kind== .function&&sc0.names.lookup n==some .cell)then (n,.cell)else (n,k)
structure fi (sc0:Scope) (N0:List Str) (scope:Scope) (x:Str) (ys:List Str) (fr:List Nat):Prop where
 kind:scope.kind=.function
 nocell: ∀ y∈scope.names,y.2≠ .cell
 loc: ∀ y∈scope.names,y.2=.local->scope.names.lookup y.1=some .local
 xl:(aV sc0 scope).lookup x=some .local
 free: ∀ y∈scope.names,y.2=.free->sc0.names.lookup y.1=some .cell
 nd:(x::ys).Nodup
 len:ys.length=fr.length
 sl: ∀ q∈ys.zip fr,N0[q.2]? =some q.1/\sc0.names.lookup q.1=some .cell/\(aV sc0 scope).lookup q.1=some .cell
theorem cok {sc0:Scope} {N0:List Str} {scope:Scope} {x:Str} {ys:List Str} {fr:List Nat} (kind_:scope.kind=.function:=by rfl) (nocell_: ∀ y∈scope.names,y.2≠ .cell:=by decide +kernel) (loc_: ∀ y∈scope.names,y.2=.local->scope.names.lookup y.1=some .local:=by decide +kernel) (xl_:(aV sc0 scope).lookup x=some .local:=by decide +kernel) (free_: ∀ y∈scope.names,y.2=.free->sc0.names.lookup y.1=some .cell:=by decide +kernel) (nd_:(x::ys).Nodup:=by decide +kernel) (len_:ys.length=fr.length:=by rfl) (sl_: ∀ q∈ys.zip fr,N0[q.2]? =some q.1/\sc0.names.lookup q.1=some .cell/\(aV sc0 scope).lookup q.1=some .cell:=by decide +kernel):fi sc0 N0 scope x ys fr:=⟨kind_,nocell_,loc_,xl_,free_,nd_,len_,sl_⟩
noncomputable def aZ (X:Cx) (x:Str) (ys:List Str) (scope:Scope) (C:Addr) (s:Shared) (H:Hp) (ex:List Addr):Cx:=
 {X with N:=x::ys,s₀:=s,H₀:=H,env:=compEnvC scope (br X.env.cells scope.names) C X.env,outer:=X.stack,stack:=X.stack,ex:=ex,fn:=fun _=>false,pn:=[],xe:=fun _ _=>False}
section
variable {prog:Program} {w:World} {A:Around} {R:Result->Shared->Prop} {s:Shared}
theorem eS {elt target iter:Expr} {scope:Scope} {pos:Pos} {it acc:Value} {env:Env} (I:Nat->Shared->Prop)
  (turn: ∀ n s,I n s->wpAny (model prog w) A (pyNext it) (fun r s₁=>match r with
   | none=>R (.ok .next) s₁
   | some v=>wpAny (model prog w) A (letOwnedTupleGo target it v) (fun _ s₁'=>wpAny (model prog w) A (assign target env v) (fun _ s₂=>wpAny (model prog w) A (eval elt env) (fun x s₃=>
     wpAny (model prog w) A (call (.builtin "list.append") [acc,x]) (fun _ s₄=> ∃ m,m<n/\I m s₄) (fun _ _=>False) s₃) (fun _ _=>False) s₂) (fun _ _=>False) s₁') (fun _ _=>False) s₁) (fun _ _=>False) s)
  (n:Nat) (h:I n s):codeAny (model prog w) A (.compLoop (.ListComp elt [⟨target,iter,[],0⟩] scope pos) 0 it acc env) R s:=by
 refine codeAny_loop rfl I (fun n s hI=>?_) n h
 show wpAny _ _ ((compTurn (.ListComp elt [⟨target,iter,[],0⟩] scope pos) 0 it acc env).onRaise (fun x=>do noteFrame x env;theTreesLotGoes x)) _ _ s
 refine wpAny_noted ?_
 rw [compTurn_list1]
 refine wpAny_noRaise ?_
 refine wpAny_bind (wpAny_standAt (wpAny_bind (wpAny_mono (turn n s hI) (fun r s₁ h₁=>?_) fun _ _ h'=>h')))
 cases r with
 | none=>exact wpAny_pure h₁
 | some v=>
  refine wpAny_bind (wpAny_mono h₁ (fun _ s₁' h₁'=>?_) fun _ _ h'=>h')
  exact wpAny_bind (wpAny_mono h₁' (fun _ s₂ h₂=>wpAny_bind (wpAny_bind (wpAny_mono h₂ (fun x s₃ h₃=>wpAny_bind (wpAny_mono h₃
   (fun _ s₄ h₄=>wpAny_pure (wpAny_pure ⟨rfl,h₄⟩)) fun _ _ h'=>h')) fun _ _ h'=>h'))) fun _ _ h'=>h')
end
noncomputable def bH (fr:List Nat) (σ:St):St:=fr.map fun j=>(σ[j]?).join
noncomputable def gY (fr:List Nat) (te:TE) (σ:St) (J:It) (H1:Hp) (Q:VK):Prop:=
 ∀ p,H1 p=none-> ∃ W:Nat->Nat->List V->Hp->Prop,(∃ m,W 0 m [] (upd H1 p (.lst [])))/\ ∀ i m ys H,W i m ys H->H p=some (.lst ys)/\
  ((J.stop i H/\Q (.ref p) H)\/(J.go i H/\ys.length<sizeLine/\ ∀ x H',J.yld i H x H'->te (some x::bH fr σ) H' fun v H2=>
   H2 p=some (.lst ys)/\ ∃ m',m'<m/\W (i+1) m' (ys++[v]) (upd H2 p (.lst (ys++[v])))))
noncomputable def oM (wi:TI) (fr:List Nat) (te:TE):TE:=fun σ H Q=>wi σ H fun J H1=>gY fr te σ J H1 Q
section
variable {X:Cx} {x:Str} {px pos fpos:Pos} {iter elt:Expr} {scope sc0:Scope} {N0 ys:List Str} {fr:List Nat} {wi:TI} {te:TE} {pins:List (Addr×Obj)} {σ:St} {H:Hp} {s:Shared}
theorem i8 {use:Option (Value->Sem Unit)} {Qv:Value->Shared->Prop} {Q:VK} (hcalm:X.calm=true) (hi:PI X (.Name x px) iter wi) (hsc:X.env.scope=sc0) (hN:X.N=N0) (ok:fi sc0 N0 scope x ys fr)
  (hE: ∀ C s H ex,PE (aZ X x ys scope C s H ex) elt te) (I:Inv X pins σ H s) (h:oM wi fr te σ H Q) (hs: ∀ v,foldedSetIterable iter X.env v=pure v)
  (fin: ∀ (p C:Addr) (H':Hp) (s':Shared) (m:Str->Option Value),Inv X pins σ H' s'->s'.heap.Ns C m->H' C=none->C≠X.env.locals->X.s₀.heap.objs.size<=C->(∀ y c,X.env.cells.lookup y=some c->c≠C)->(∀ q∈X.pn++pins,q.1≠C)->Q (.ref p) H'->
   compPost (model X.prog X.w) X.A X.xe use Qv (.ref p) C (.ok .next) s'):
  wpAny (model X.prog X.w) X.A (comprehension (.ListComp elt [⟨.Name x px,iter,[],0⟩] scope pos) scope X.env fpos (newList []) false (eval iter X.env) use) Qv X.xe s:=by
 subst hsc hN
 have hkof: ∀ y,X.env.kindOf y=X.env.scope.names.lookup y:=fun y=>rfl
 have hfree: ∀ y∈scope.names,y.2=.free-> ∃ c,X.env.cells.lookup y.1=some c:=fun y hy e=>I.ok.has y.1 (.inl (ok.free y hy e))
 refine wpAny_comprehension_free (gs:=[]) rfl hs (cL hfree) ok.kind ok.loc (thn (hi pins s σ H _ I h) fun v s1 h1=>thn h1 fun itv s2 h2=>?_)
 obtain ⟨it,fp,tn,J,H2,e,I2,T,st2,f2,hp⟩:=h2
 subst e
 refine wpAny_newObj_type (wpAny_newFunctionEnv ok.nocell (by intro y hy;simp at hy) (fun h₁ hns₁ hsb₁=>?_) ok.kind)
 dsimp only at hns₁ hsb₁ ⊢
 have I3:Inv X pins σ (upd H2 s2.heap.objs.size (.lst [])) {s2 with heap:=s2.heap.push {cls:=.type "list",data:=.seq ([]:List Value).toArray}}:=
  I2.lnew (its:=[]) (ys:=[]) (t':=s2.toks) .nil (Nat.zero_le _)
 have hf2: ∀ b∈fp,b<s2.heap.objs.size:=fun b hb=>by
  obtain ⟨o,e,_⟩:=T.obj _ _ st2 b hb
  exact Heap.lt_size e
 have hps:s2.heap.objs.size< (s2.heap.push {cls:=.type "list",data:=.seq ([]:List Value).toArray}).objs.size:=by rw [Heap.size_push];exact Nat.lt_succ_self _
 have W0:=hp s2.heap.objs.size I2.fresh
 have st3:tn 0 (s2.heap.push {cls:=.type "list",data:=.seq ([]:List Value).toArray}):=T.keep _ _ _ st2 fun b hb o e=>Heap.get?_push_of_some _ e
 generalize hpp:s2.heap.objs.size=p at I3 W0 hf2 hps ⊢
 generalize hh3:(s2.heap.push {cls:=.type "list",data:=.seq ([]:List Value).toArray})=h3 at I3 hns₁ hsb₁ hps st3 ⊢
 generalize hH3:upd H2 p (.lst [])=H3 at I3 W0
 have hold: ∀ b o,h3.get? b=some o->h₁.get? b=some o:=fun b o e=>hsb₁.extBut b o (Nat.ne_of_lt (Heap.lt_size e)) (Heap.get?_push_of_some _ e)
 have fH3: ∀ b∈fp,H3 b=none:=fun b hb=>by
  rw [<- hH3,ah (Nat.ne_of_lt (hf2 b hb))]
  exact (f2 b hb).1
 have hclos: ∀ y c,(br X.env.cells scope.names).lookup y=some c->X.env.cells.lookup y=some c:=fun y c e=>bE e
 have hcell3: ∀ y c,X.env.cells.lookup y=some c->c<h3.objs.size:=fun y c e=>by
  obtain ⟨v,o,ho,_⟩:=I3.cell y c e
  exact Heap.lt_size ho
 have hlt3:X.env.locals<h3.objs.size:=I3.lt
 have Yok:(aZ X x ys scope h3.objs.size {s2 with heap:=h3} H3 fp).Ok:={
  mod:=I.ok.mod
  kind:=ok.kind
  glob:=I.ok.glob
  blt:=I.ok.blt
  above:=Nat.le_refl _
  inj:=fun y z c e1 e2=>I.ok.inj y z c (hclos _ _ e1) (hclos _ _ e2)
  has:=fun y hk=>by
   have hfr:(y,NameKind.free)∈scope.names:=by
    have hm: ∃ k,(aV X.env.scope scope).lookup y=some k/\(k=.cell\/k=.free):=by
     rcases hk with hk | hk
     ·exact ⟨_,hk,.inl rfl⟩
     ·exact ⟨_,hk,.inr rfl⟩
    obtain ⟨k,hk,hkk⟩:=hm
    have hmem:=mem_of_lookup hk
    unfold aV at hmem
    obtain ⟨⟨n,k0⟩,hn,en⟩:=List.mem_map.mp hmem
    dsimp only at en
    split at en
    ·rename_i hc
     simp only [Bool.and_eq_true]at hc
     have hk0:k0=.free:=by simpa using hc.1.1
     cases en
     rw [<- hk0]
     exact hn
    ·cases en
     rcases hkk with e | e
     ·exact absurd e (ok.nocell _ hn)
     ·rw [<- e]
      exact hn
   obtain ⟨c,hc⟩:=hfree _ hfr rfl
   exact ⟨c,ck hc hfr⟩
  cab:=fun y c hf _=>by cases hf
  hd:=I.ok.hd
  frames:=I.ok.frames
  stk:=.inl rfl
  exf:=fun b hb=>⟨fun e=>absurd (hf2 b hb) (by rw [e];exact Nat.not_lt.mpr (Nat.le_of_lt hps)),fun y c e=>(f2 b hb).2.2.2.2.1 y c (hclos _ _ e)⟩
  bs:=fun b o e=>⟨(I3.bs b o e).1,(I3.bs b o e).2⟩
  bsz:=Nat.le_trans I.ok.bsz I3.sz
  noex:=fun b o e hb=>by
   rcases (f2 b hb).2.2.2.1 with q | q
   ·exact I.ok.noex b o e q
   ·have h1:b<X.base.objs.size:=Heap.lt_size e
    exact absurd h1 (Nat.not_lt.mpr (Nat.le_trans I.ok.bsz q))
  exfs:=fun b hb hm=>by
   rcases List.mem_cons.mp (I3.stkSub b hm)with q | q
   ·exact (f2 b hb).2.1 q
   ·exact (f2 b hb).2.2.1 q
  funs:=I3.stack
  frf:=I3.stkFree}
 have IY:Inv (aZ X x ys scope h3.objs.size {s2 with heap:=h3} H3 fp) [] (none::bH fr σ) H3 {s2 with heap:=h₁,toks:=s2.toks+ ([]:List (Str×Value)).length}:={
  ok:=Yok
  os:=rfl
  bare:=I2.bare
  base:=Un.kept hold
  loc:=by
   refine ⟨_,hns₁,fun i y v hy hv hvis=>?_⟩
   cases i with
   | zero=>cases hv
   | succ j=>
    have hy':ys[j]? =some y:=hy
    have hv':(bH fr σ)[j]? =some (some v):=hv
    unfold bH at hv'
    rw [List.getElem?_map]at hv'
    obtain ⟨i0,hi0,hv0⟩:=Option.map_eq_some_iff.mp hv'
    have hz:(y,i0)∈ys.zip fr:=by
     refine List.mem_iff_getElem?.mpr ⟨j,?_⟩
     rw [List.getElem?_zip_eq_some]
     exact ⟨hy',hi0⟩
    obtain ⟨hn,hk,hk2⟩:=ok.sl _ hz
    have hσ:σ[i0]? =some (some v):=by
     cases e:σ[i0]? with
     | none=>rw [e]at hv0;cases hv0
     | some o=>
      rw [e]at hv0
      rw [show o=some v from hv0]
    obtain ⟨m,hm,hl⟩:=I3.loc
    obtain ⟨u,ru,lk⟩:=hl i0 y v hn hσ (.inr (.inl hk))
    refine ⟨u,ru,.inr ⟨.inl hk2,?_⟩⟩
    rcases lk with ⟨a,_⟩ | ⟨_,c,hc,hcell⟩
    ·have a':X.env.scope.names.lookup y=some .local:=a
     have hk':X.env.scope.names.lookup y=some .cell:=hk
     rw [hk']at a'
     cases a'
    ·have hfr:(y,NameKind.free)∈scope.names:=by
      have hmem:=mem_of_lookup hk2
      unfold aV at hmem
      obtain ⟨⟨n,k0⟩,hn0,en⟩:=List.mem_map.mp hmem
      dsimp only at en
      split at en
      ·rename_i hc0
       simp only [Bool.and_eq_true]at hc0
       have hk0:k0=.free:=by simpa using hc0.1.1
       cases en
       rw [<- hk0]
       exact hn0
      ·cases en
       exact absurd rfl (ok.nocell _ hn0)
     exact ⟨c,ck hc hfr,hcell.keeps hold⟩
  cell:=fun y c e=>by
   obtain ⟨v,hv⟩:=I3.cell y c (hclos _ _ e)
   exact ⟨v,hv.keeps hold⟩
  free:=I3.fresh
  freeC:=fun y c e=>I3.freeC y c (hclos _ _ e)
  pin:=fun q hq=>by cases hq
  hok:=I3.hok.kept hold
  len:=by
   show (none::bH fr σ).length=(x::ys).length
   rw [List.length_cons,List.length_cons,ok.len]
   unfold bH
   rw [List.length_map]}
 have hxl:(aZ X x ys scope h3.objs.size {s2 with heap:=h3} H3 fp).env.scope.names.lookup x=some .local:=ok.xl
 have pgx:PG (aZ X x ys scope h3.objs.size {s2 with heap:=h3} H3 fp) (.Name x px) (fH 0):=aL (i:=0) ok.nd rfl (.inl hxl) (.inr hxl)
 have pel:=hE h3.objs.size {s2 with heap:=h3} H3 fp
 obtain ⟨W,⟨m0,w0⟩,turn⟩:=W0
 have stat: ∀ {H':Hp},(∀ b∈fp,H' b=none)-> ∀ b∈fp,fP (aZ X x ys scope h3.objs.size {s2 with heap:=h3} H3 fp) [] H' b:=fun hn b hb=>
  ⟨hn b hb,(Yok.exf b hb).1,Yok.exfs b hb,.inl hb,(Yok.exf b hb).2,fun q hq=>by cases hq⟩
 have loop:codeAny (model X.prog X.w) X.A (.compLoop (.ListComp elt [⟨.Name x px,iter,[],0⟩] scope pos) 0 (.ref it) (.ref p) (compEnvC scope (br X.env.cells scope.names) h3.objs.size X.env))
   (compPost (model X.prog X.w) X.A X.xe use Qv (.ref p) h3.objs.size) {s2 with heap:=h₁,toks:=s2.toks+ ([]:List (Str×Value)).length}:=by
  refine eS (fun n s'=> ∃ i zs v0 H',Inv (aZ X x ys scope h3.objs.size {s2 with heap:=h3} H3 fp) [] (v0::bH fr σ) H' s'/\tn i s'.heap/\(∀ b∈fp,H' b=none)/\W i n zs H') ?_ m0
   ⟨0,[],none,H3,IY,T.keep _ _ _ st3 fun b hb o e=>hold b o e,fH3,w0⟩
  rintro n s5 ⟨i,zs,v0,H5,I5,st5,fr5,w5⟩
  obtain ⟨hacc,turn5⟩:=turn i n zs H5 w5
  rcases turn5 with ⟨stop,qn⟩ | ⟨go,hlen,step⟩
  ·refine thn (T.done (aZ X x ys scope h3.objs.size {s2 with heap:=h3} H3 fp) rfl rfl rfl hcalm i [] s5 _ H5 _ I5 (stat fr5) st5 stop) fun r s6 ⟨hr,I6⟩=>?_
   subst hr
   obtain ⟨m6,n6,_⟩:=I6.loc
   refine fin p h3.objs.size H5 s6 m6 (I3.call' I6.os I6.base I6.hok I6.bare fun b hb=>⟨(f2 b hb).2.2.2.1,(f2 b hb).2.1,(f2 b hb).2.2.2.2.1,(f2 b hb).2.2.2.2.2⟩) n6 I6.free (Nat.ne_of_gt hlt3) I3.sz (fun y c e=>Nat.ne_of_lt (hcell3 y c e)) (fun q hq=>?_) qn
   exact Nat.ne_of_lt (Heap.lt_size (I3.pin q hq).1)
  ·refine thn (T.item (aZ X x ys scope h3.objs.size {s2 with heap:=h3} H3 fp) rfl rfl rfl hcalm i [] s5 _ H5 _ I5 (stat fr5) st5 go) fun r s6 ⟨u,hr,h6⟩=>?_
   subst hr
   refine thn h6 fun _ s7 ⟨xv,H7,I7,r7,y7,st7,fr7⟩=>?_
   have I7':=I7.pinned (stat fr7) (T.obj _ _ st7)
   refine thn (pgx _ s7 _ H7 xv u (fun σ' H'=>σ'=some xv::bH fr σ/\H'=H7) I7' r7 ⟨rfl,rfl⟩) fun _ s8 ⟨σ8,H8,I8,e8,e8'⟩=>?_
   subst e8 e8'
   refine thn (pel _ s8 _ H8 _ I8 (step xv H8 y7)) fun yv s9 ⟨v9,H9,I9,r9,hp9,m',hm',w9⟩=>?_
   refine thn (cv _ s9 _ H9 (.ref p) [v9] (.ref p) [yv] (fun _ H'=>H'=upd H9 p (.lst (zs++[v9]))) I9 rfl (.cons r9 .nil) ⟨p,zs,v9,rfl,rfl,hp9,hlen,rfl⟩) fun _ s10 ⟨_,H10,I10,_,e10⟩=>?_
   subst e10
   refine ⟨m',hm',i+1,zs++[v9],some xv,_,I10.unpinned,T.keep _ _ _ st7 fun b hb o e=>(I10.pin (b,o) (List.mem_append_right _ (List.mem_append_right _ (bq hb e)))).1,fun b hb=>?_,w9⟩
   obtain ⟨o,e,d⟩:=T.obj _ _ st7 b hb
   exact (I10.pin (b,o) (List.mem_append_right _ (List.mem_append_right _ (bq hb e)))).2.1
 exact codeAny_compStart_list loop (T.self X.A 0 _ _ _ (T.keep _ _ _ st3 fun b hb o e=>hold b o e) loop)
theorem cA (hcalm:X.calm=true) (hi:PI X (.Name x px) iter wi) (hsc:X.env.scope=sc0) (hN:X.N=N0) (ok:fi sc0 N0 scope x ys fr)
  (hE: ∀ C s H ex,PE (aZ X x ys scope C s H ex) elt te) (hs: ∀ v,foldedSetIterable iter X.env v=pure v:=by intro _;rfl):
  PE X (.ListComp elt [⟨.Name x px,iter,[],0⟩] scope pos) (oM wi fr te):=by
 intro pins s σ H Q I h
 rw [eval_ListComp]
 refine i8 (use:=none) (Qv:=EP X pins σ Q) (Q:=Q) hcalm hi hsc hN ok hE I h hs fun p C H' s' m I' hn h0 h1 h2 h3 h4 q=>?_
 refine ⟨m,hn,fun h' sb=>⟨.ref p,H',I'.turned (t':=s'.toks) (fun b o hb e=>sb.extBut b o hb e) h0 (Ne.symm (Ne.symm h1)) (.inr h2) h3 h4,rfl,q⟩⟩
theorem eG {i:Nat} {y:Str} {py spos:Pos} (hcalm:X.calm=true) (hnd:X.N.Nodup) (hiN:X.N[i]? =some y) (hy:Loc X.env.scope y) (hi:PI X (.Name x px) iter wi) (hsc:X.env.scope=sc0) (hN:X.N=N0) (ok:fi sc0 N0 scope x ys fr)
  (hE: ∀ C s H ex,PE (aZ X x ys scope C s H ex) elt te) (hsw:swapsWith (.ListComp elt [⟨.Name x px,iter,[],0⟩] scope pos) (some (.Name y py)) spos.line X.env=pure true:=by rfl)
  (hs: ∀ v,foldedSetIterable iter X.env v=pure v:=by intro _;rfl) (hf:X.fn y=true\/X.env.scope.names.lookup y=some .local:=by first | exact .inl rfl | exact .inr rfl | assumption):
  PS X (.Assign [.Name y py] (.ListComp elt [⟨.Name x px,iter,[],0⟩] scope pos) spos) (oN (oM wi fr te) (fH i)):=by
 intro pins s σ H D I h
 rw [exec_Assign_Name_used _ _ _ _ hsw]
 refine wpAny_bind (wpAny_standAt (wpAny_bind ?_))
 show wpAny _ X.A (do let _ <- comprehension (.ListComp elt [⟨.Name x px,iter,[],0⟩] scope pos) scope X.env _ (newList []) false (eval iter X.env) (some (assign (.Name y py) X.env))) _ _ s
 refine wpAny_bind (thn (i8 (use:=some (assign (.Name y py) X.env)) (Qv:=fun _ s'=>SP X pins D .next s') (Q:=fun v H'=>D.nx (σ.set i (some v)) H') hcalm hi hsc hN ok hE I h hs fun p C H' s' m I' hn h0 h1 h2 h3 h4 q=>?_) fun _ s' hq=>wpAny_pure (wpAny_pure hq))
 show wpAny _ X.A (assign (.Name y py) X.env (.ref p)) _ _ s'
 refine wpAny_assign_Name (fQ (v:=.ref p) I' hnd hiN hy rfl (fun s'' I'' ⟨a,sb,ha⟩=>?_) hf)
 have hCa:C≠a:=by
  rcases ha with e | e
  ·rw [e];exact h1
  ·exact (h3 y a e).symm
 refine ⟨m,hn.sameBut sb hCa,fun h' sb'=>⟨_,H',I''.turned (t':=s''.toks) (fun b o hb e=>sb'.extBut b o hb e) h0 h1 (.inr h2) h3 h4,q⟩⟩
theorem eL {n:Nat} {J:It} {H1:Hp} {Q:VK} {R:Nat->V->Prop} (hn:n<=1000) (hgo: ∀ i H,i<n->J.go i H) (hstop: ∀ H,J.stop n H) (hy: ∀ i H v H',J.yld i H v H'->H'=H/\R i v)
  (Pv:Addr->Nat->List V->Hp->Prop) (h0: ∀ p,H1 p=none->Pv p 0 [] (upd H1 p (.lst []))) (hl: ∀ p i zs H,Pv p i zs H->H p=some (.lst zs)/\zs.length=i)
  (hs: ∀ p i zs H v (k:VK),H1 p=none->i<n->R i v->Pv p i zs H->(∀ u H2,H2 p=some (.lst zs)->Pv p (i+1) (zs++[u]) (upd H2 p (.lst (zs++[u])))->k u H2)->te (some v::bH fr σ) H k)
  (hd: ∀ p zs H,H1 p=none->Pv p n zs H->Q (.ref p) H):gY fr te σ J H1 Q:=by
 intro p hp
 refine ⟨fun i m zs H=>i<=n/\m=n-i/\Pv p i zs H,⟨n,Nat.zero_le _,by simp,h0 p hp⟩,?_⟩
 rintro i m zs H ⟨hi,hm,q⟩
 obtain ⟨hp',hz⟩:=hl p i zs H q
 refine ⟨hp',?_⟩
 by_cases e:i=n
 ·subst e
  exact .inl ⟨hstop H,hd p zs H hp q⟩
 ·have hlt:i<n:=by omega
  refine .inr ⟨hgo i H hlt,aF (by omega),fun v H' hv=>?_⟩
  obtain ⟨rfl,r⟩:=hy i H v H' hv
  refine hs p i zs H' v _ hp hlt r q fun u H2 a b=>?_
  exact ⟨a,n- (i+1),by omega,by omega,rfl,b⟩
theorem jC {lo:Int} {n:Nat}: ∀ i H,i<n->(Itr lo n).go i H:=fun _ _ h=>h
theorem fG {lo:Int} {n:Nat}: ∀ H,(Itr lo n).stop n H:=fun _=>Nat.le_refl n
theorem gO {lo:Int} {n:Nat}: ∀ i H v H',(Itr lo n).yld i H v H'->H'=H/\v=.int (lo+i):=fun _ _ _ _ h=>h
end
noncomputable def mj:Expr->Bool
 | .Starred _ _=>false
 | _=>true
theorem iM {e:Expr} {es:List Expr} {env:Env} (h:mj e=true):starEach (e::es) env=(false,eval e env)::starEach es env:=by
 cases e <;> first | rfl | cases h
theorem pac {X:Cx} {e:Expr} {es:List Expr} {te:TE} {t:TA} (ha:PE X e te) (hr:PA X es t) (h:mj e=true:=by rfl):PA X (e::es) (oJ te t):=ac ha hr (iM h)
noncomputable def lW:Const->Option V
 | .str x=>some (.str x)
 | .int i=>some (.int i)
 | .bool b=>some (.bl b)
 | .none=>some .non
 | _=>none
noncomputable def fN:List Expr->Option (List V)
 | []=>some []
 | .Constant c _ _::r=>(match lW c,fN r with | some v,some vs=>some (v::vs) | _,_=>none)
 | _::_=>none
theorem pD {X:Cx} {c:Const} {j:Nat} {pos:Pos} {v:V} (h:lW c=some v):PE X (.Constant c j pos) (tC v):=by
 cases c with
 | str x=>cases h;exact bx
 | int i=>cases h;exact ag
 | bool b=>cases h;exact iY
 | none=>cases h;exact cP
 | _=>cases h
theorem iZ {X:Cx}: ∀ {es:List Expr} {vs:List V},fN es=some vs->PA X es (fun _ H Q=>Q vs H)
 | [],vs,h=>by
  cases h
  exact ae
 | e::r,vs,h=>by
  cases e with
  | Constant c j pos=>
   simp only [fN]at h
   cases hc:lW c with
   | none=>rw [hc]at h;cases h
   | some v=>
    cases hr:fN r with
    | none=>rw [hc,hr]at h;cases h
    | some ws=>
     rw [hc,hr]at h
     cases h
     exact pac (pD hc) (iZ hr)
  | _=>cases h
theorem qR {X:Cx} {i:Nat} {x:Str} {es:List Expr} {vs:List V} {pos p pos':Pos} (hN:X.N.Nodup) (hi:X.N[i]? =some x) (hx:Loc X.env.scope x) (hf:X.fn x=true\/X.env.scope.names.lookup x=some .local) (h:fN es=some vs):
  PS X (.Assign [.Name x pos'] (.List es p) pos) (oN (tZ (fun _ H Q=>Q vs H)) (fH i)):=
 aq hN hi hx (bU (iZ h)) rfl hf
end L2
namespace HT
open PySem PyProof.Rows
section
variable {prog:Program} {w:World} {A:Around} {s:Shared} {E:Value->Shared->Prop}
theorem kM (n:Nat):Builtin.Slice.sliceAdjust none none (-1) (n:Int)=((n:Int) -1,-1):=by
 unfold Builtin.Slice.sliceAdjust
 simp
theorem j2 (n:Nat):Builtin.Slice.slicePlaces ((n:Int) -1) (-1) (-1)=n:=by
 unfold Builtin.Slice.slicePlaces
 have h1: ¬ ((-1:Int) >0):=by omega
 simp only [h1,if_false]
 rw [show (- -1:Int)=1 by decide,Int.ediv_one]
 split <;> omega
theorem jL {sl:Addr} {t:Tok} {n:Nat} {Q:Int×Int×Nat->Shared->Prop} (hs:s.heap.IsSliceOf sl .none .none (.int (-1) t)) (h:Q ((n:Int) -1,-1,n) s):
  wpAny (model prog w) A (Builtin.Slice.sliceApplied (.ref sl) (pure (n:Int))) Q E s:=by
 obtain ⟨os,hos,hcs,hds⟩:=id hs
 unfold Builtin.Slice.sliceApplied Builtin.Slice.sliceFields
 refine wpAny_bind (wpAny_bind (wpAny_field hos hds (x:=.none) rfl (wpAny_bind (wpAny_field hos hds (x:=.none) rfl (wpAny_bind (wpAny_field hos hds (x:=.int (-1) t) rfl (wpAny_pure ?_)))))))
 refine wpAny_bind (cX (.int (-1) t) ?_)
 show wpAny _ _ (if ((-1:Int)==0)=true then _ else _) _ _ s
 rw [if_neg (by decide)]
 refine wpAny_bind (cX .none (wpAny_bind (cX .none (wpAny_bind (wpAny_pure ?_)))))
 show wpAny _ _ (match Builtin.Slice.sliceAdjust none none (-1) (n:Int)with | (lo,hi)=>pure (lo,(-1:Int),Builtin.Slice.slicePlaces lo hi (-1))) _ _ s
 rw [kM n]
 show wpAny _ _ (pure ((n:Int) -1,(-1:Int),Builtin.Slice.slicePlaces ((n:Int) -1) (-1) (-1))) _ _ s
 rw [j2]
 exact wpAny_pure h
theorem kr {α β:Type} {f g:α->Option β}: ∀ {l:List α},(∀ x∈l,f x=g x)->l.filterMap f=l.filterMap g
 | [],_=>rfl
 | x::r,h=>by rw [List.filterMap_cons,List.filterMap_cons,h x List.mem_cons_self,kr fun y hy=>h y (List.mem_cons_of_mem _ hy)]
theorem nq (xs:Array Value):((List.range xs.size).filterMap fun (m:Nat)=>xs[((xs.size:Int) -1+ (m:Int) * -1).toNat]?).toArray=xs.toList.reverse.toArray:=by
 congr 1
 rw [<- L2.rev_pick xs.toList,List.filterMap_map,Array.length_toList]
 refine kr fun m hm=>?_
 have:=List.mem_range.mp hm
 have e:((xs.size:Int) -1+ (m:Int) * -1).toNat=xs.size-1-m:=by omega
 rw [e]
 simp
theorem getItem_tuple_back {a sl:Addr} {items:Array Value} {t:Tok} {Q:Value->Shared->Prop} (ht:IsTup s.heap a items) (hs:s.heap.IsSliceOf sl .none .none (.int (-1) t))
  (h:Q (.ref s.heap.objs.size) {s with heap:=s.heap.push {cls:=.type "tuple",data:=.seq items.toList.reverse.toArray}})
  (hsz:items.size<=sizeLine):wpAny (model prog w) A (getItem (.ref a) (.ref sl)) Q E s:=by
 have hok:sizeOk (.seq items.toList.reverse.toArray):=by
  show items.toList.reverse.toArray.size<=sizeLine
  rw [List.size_toArray,List.length_reverse,Array.length_toList]
  exact hsz
 obtain ⟨os,hos,hcs,hds⟩:=id hs
 have hTs:s.TypeIs (.ref sl) "slice":=⟨os,hos,hcs⟩
 unfold getItem
 try with_reducible refine wpAny_holding ?_
 first | refine wpAny_bind (wpAny_pure ?_) | skip
 refine wpAny_bind (wpAny_sequenceKey ht.typeIs (by decide) ?_)
 refine wpAny_bind (wpAny_callSpecial?_slot (name:=Str.ofString "__getitem__") ht.typeIs PyProof.Rows.slot_tuple_getitem
  (wpAny_call_entry PyProof.Rows.slot_tuple_getitem ht.typeIs entry_tuple_getitem ?_ (args_tuple_getitem _ _)))
 show wpAny _ _ (Builtin.Tuple.tupleItemsOf (.ref a) >>= _) _ _ s
 refine wpAny_bind (tupleItemsOf_ ht ?_)
 refine wpAny_bind (wpAny_typeOf hTs ?_)
 rw [if_pos (by decide)]
 refine wpAny_bind (jL hs ?_)
 show wpAny _ _ (if (((items.size:Int) -1)==0&&(-1:Int)==1&&items.size==items.size)=true then _ else _) _ _ s
 rw [if_neg (by simp),nq]
 first
  | exact wpAny_bind (m:=Builtin.Tuple.tupleExact _) (wpAny_newObj_type (wpAny_pure ⟨_,rfl,wpAny_pure h⟩) hok)
  | exact wpAny_bind (m:=Builtin.Tuple.tupleExact _) (wpAny_newObj_type (wpAny_bind (wpAny_pure (wpAny_pure ⟨_,rfl,wpAny_pure h⟩))) hok)
  | exact wpAny_bind (wpAny_bind (m:=Builtin.Tuple.tupleExact _) (wpAny_newObj_type (wpAny_pure (wpAny_pure ⟨_,rfl,wpAny_pure h⟩)) hok))
  | exact wpAny_bind (wpAny_bind (m:=Builtin.Tuple.tupleExact _) (wpAny_newObj_type (wpAny_pure ⟨_,rfl,wpAny_pure h⟩) hok))
end
end HT
namespace L2
open PySem PySem.Spec PyProof.Rows
section
variable {X:Cx} {e k:Expr} {te tk:TE} {pos p2:Pos}
noncomputable def sw (K:PySem.W.Frag) (te tk:TE):TE:=fun σ H Q=>te σ H fun x H1=>tk σ H1 fun y H2=> ∃ a xs,x=.ref a/\y=.int (-1)/\SqT K H2 a xs/\ ∀ p,H2 p=none->Q (.ref p) (upd H2 p (.tup xs.reverse))
theorem oC {xs:List V} {us:List Value} (h:Vals xs us):Vals xs.reverse us.reverse:=by
 rw [<- rev_pick xs,<- rev_pick us,h.length]
 exact dy _ h
theorem pF (he:PE X e te) (hk:PE X k tk):PE X (.Subscript e (.Slice none none (some k) p2) pos) (sw X.K te tk):=by
 intro pins s σ H Q I h
 refine Subscript_ (thn (he pins s σ H _ I h) fun v s1 ⟨x,H1,I1,r1,q1⟩=>?_)
 refine wpAny_Slice ?_
 rw [evalPart_none,evalPart_some]
 refine wpAny_pure (wpAny_pure ?_)
 refine thn (hk pins s1 σ H1 _ I1 q1) fun vk s3 ⟨y,H3,I3,ry,a,xs,ex,ey,hq,q⟩=>?_
 subst ex ey
 obtain ⟨t,rfl⟩:=ry
 cases r1
 have I4:Inv X pins σ H3 {s3 with heap:=s3.heap.push {cls:=.type "slice",data:=.fields #[.none,.none,.int (-1) t]}}:=I3.kept (t':=s3.toks) fun b ob q=>Heap.get?_push_of_some _ q
 obtain ⟨its,r,ht,hz⟩:=I4.tuple hq
 show wpAny (model X.prog X.w) X.A (subscriptTail e (.Slice none none (some k) p2) (.ref a) (.ref s3.heap.objs.size)) (EP X pins σ Q) X.xe {s3 with heap:=s3.heap.push {cls:=.type "slice",data:=.fields #[.none,.none,.int (-1) t]}}
 refine tail_any (ops:=[.ref a,.ref s3.heap.objs.size]) ht.typeIs PyProof.Rows.slot_tuple_getitem.lookup (HT.getItem_tuple_back ht (Heap.IsSliceOf.new ..) ?_ (by rw [List.size_toArray,<- r.length];exact hz)) (by with_unfolding_all rfl)
 refine ⟨.ref (s3.heap.push {cls:=.type "slice",data:=.fields #[.none,.none,.int (-1) t]}).objs.size,_,I4.laid (t':=s3.toks) (o:=.tup xs.reverse) (fun b ob q=>Heap.get?_push_of_some _ q) (Nat.le_refl _) ?_,rfl,q _ I4.fresh⟩
 exact ⟨by rw [List.length_reverse];exact hz,_,oC r,IsTup.new _ _⟩
end
section
variable {X:Cx}
noncomputable def gE:List Int->Int
 | []=>0
 | n::r=>n+gE r
theorem nj (ns:List Int): ∀ k,k<=ns.length->preSum (fun i=>(ns[i]?).getD 0) k=gE (ns.take k):=by
 intro k
 induction k with
 | zero=>intro _;rfl
 | succ k ih=>
  intro h
  have hk:k<ns.length:=h
  show preSum (fun i=>(ns[i]?).getD 0) k+ (ns[k]?).getD 0=gE (ns.take (k+1))
  rw [ih (Nat.le_of_lt hk)]
  have: ∀ (l:List Int) (j:Nat) (hj:j<l.length),gE (l.take (j+1))=gE (l.take j) + (l[j]?).getD 0:=by
   intro l
   induction l with
   | nil=>intro j hj;cases hj
   | cons x r ih=>
    intro j hj
    cases j with
    | zero=>simp [gE]
    | succ j=>
     rw [List.take_succ_cons,List.take_succ_cons,List.getElem?_cons_succ]
     show x+gE (r.take (j+1))=x+gE (r.take j) + (r[j]?).getD 0
     rw [ih j (by simpa using hj)]
     omega
  exact (this ns k hk).symm
theorem ju (ns:List Int) (h: ∀ n∈ns,0<=n/\n<=1000000): ∀ k,k<=ns.length->0<=preSum (fun i=>(ns[i]?).getD 0) k/\preSum (fun i=>(ns[i]?).getD 0) k<=1000000*k:=by
 intro k
 induction k with
 | zero=>intro _;exact ⟨Int.le_refl _,by show (0:Int)<=1000000* ((0:Nat):Int);omega⟩
 | succ k ih=>
  intro hk
  obtain ⟨a,b⟩:=ih (Nat.le_of_succ_le hk)
  have e:ns[k]? =some ns[k]:=List.getElem?_eq_getElem hk
  obtain ⟨c,d⟩:=h ns[k] (List.getElem_mem hk)
  show 0<=preSum (fun i=>(ns[i]?).getD 0) k+ (ns[k]?).getD 0/\preSum (fun i=>(ns[i]?).getD 0) k+ (ns[k]?).getD 0<=1000000* ((k+1:Nat):Int)
  rw [e,Option.getD_some]
  constructor <;> omega
theorem kI (hc:X.calm=true):di X (.builtin "sum") (fun xs H Q=> ∃ (p:Addr) (ns:List Int),xs=[.ref p]/\SqL X.K H p (ns.map V.int)/\ns.length<=1000/\(∀ n∈ns,0<=n/\n<=1000000)/\Q (.int (gE ns)) H):=by
 intro pins s σ H xs us Q I r h
 obtain ⟨p,ns,rfl,hq,hle,hb,q⟩:=h
 obtain ⟨u,rfl,ru⟩:=gU r
 cases ru
 obtain ⟨its,rv,pl,hz⟩:=I.list hq
 have hl:=pl.isList
 have hlt:p<s.heap.objs.size:=by obtain ⟨_,e,_⟩:=hl;exact Heap.lt_size e
 have hlen:its.length=ns.length:=by have:=rv.length;rw [List.length_map]at this;omega
 have hn:its.toArray.size=ns.length:=by rw [List.size_toArray];exact hlen
 refine call_sum_walk (wpAny_pyIter_list hl ?_)
 refine ⟨s.heap.objs.size,[s.heap.objs.size,p],[s.heap.objs.size],its.toArray.size,_,_,fun i=>(ns[i]?).getD 0,rfl,Walks.list (A:=X.A.in1) (I.ok.hd hc) _ p (Nat.ne_of_lt hlt) its.toArray,
  ⟨⟨_,Heap.get?_push_size _ rfl,rfl,rfl⟩,hl.push _⟩,fun b hb=>?_,fun i v hP=>?_,fun j hj=>?_,fun h' tk t' hk=>?_⟩
 ·rw [Heap.size_push]
  rcases List.mem_cons.mp hb with e | e
  ·rw [e];exact Nat.lt_succ_self _
  ·rw [List.mem_singleton.mp e];exact Nat.lt_succ_of_lt hlt
 ·have hv:its[i]? =some v:=by simpa using hP
  have hi:i<ns.length:=by
   have:=(List.getElem?_eq_some_iff.mp hv).1
   omega
  have hx:(ns.map V.int)[i]? =some (V.int ns[i]):=by rw [List.getElem?_map,List.getElem?_eq_getElem hi] <;> rfl
  obtain ⟨u,eu,ru⟩:=rv.get hx
  rw [hv]at eu
  cases eu
  obtain ⟨t,rfl⟩:=ru
  refine ⟨t,?_⟩
  show Value.int ns[i] t=Value.int ((ns[i]?).getD 0) t
  rw [List.getElem?_eq_getElem hi]
  rfl
 ·rw [hn]at hj
  obtain ⟨a,b⟩:=ju ns hb (j+1) hj
  have e:ns[j]? =some ns[j]:=List.getElem?_eq_getElem hj
  obtain ⟨c,d⟩:=hb ns[j] (List.getElem_mem hj)
  refine ⟨⟨?_,?_⟩,?_,?_⟩
  ·show -(2^63)<=(ns[j]?).getD 0
   rw [e,Option.getD_some];omega
  ·show (ns[j]?).getD 0<2^63
   rw [e,Option.getD_some];omega
  ·omega
  ·omega
 ·rw [hn,nj ns _ (Nat.le_refl _),List.take_length]
  refine ⟨.int (gE ns),H,I.kept (t':=tk) fun b x e=>?_,⟨_,rfl⟩,q⟩
  exact hk b x (fun hm=>by rw [List.mem_singleton.mp hm]at e;exact Nat.lt_irrefl _ (Heap.lt_size e)) (Heap.get?_push_of_some _ e)
end
end L2
namespace HT
open PySem PyProof.Rows
section
variable {prog:Program} {w:World} {A:Around} {s:Shared} {E:Value->Shared->Prop} {d j:Addr} {ks:List Value} {i ep:Nat}
noncomputable def DEs (h:Heap) (d:Addr) (ks:List Value) (ep:Nat):Prop:= ∃ o es,h.get? d=some o/\o.ExactDict/\o.data=.dict es ep/\es.toList.map (·.key)=ks
theorem DEs.type (m:DEs s.heap d ks ep):s.TypeIs (.ref d) "dict":=by
 obtain ⟨o,_,ho,hc,_⟩:=m
 exact ⟨o,ho,hc.1⟩
theorem fW {es:Array DictEntry} (e:es.toList.map (·.key)=ks):es.size=ks.length:=by
 rw [<- e,List.length_map,Array.length_toList]
theorem iter_des {Q:Value->Shared->Prop} (lo:(d==sysModules)=false) (m:DEs s.heap d ks ep)
  (q:Q (.ref s.heap.objs.size) {s with heap:=s.heap.push {cls:=.type "dict_keyiterator",data:=.fields #[.ref d,.int 0 0,.int ks.length 0,.int ep 0]}}):wpAny (model prog w) A (pyIter (.ref d)) Q E s:=by
 have ty:=m.type
 obtain ⟨o,es,ho,hc,hdat,hk⟩:=m
 refine wpAny_pyIter_slot ty PySem.F.slot_dict_iter (wpAny_call_entry PySem.F.slot_dict_iter ty PySem.F.entry_dict_iter ?_ (PySem.F.args_dict_iter_1 _))
 unfold Builtin.«dict.__iter__» Builtin.Dict.dictSlotNone
 refine wpAny_bind (wpAny_bind (wpAny_notOrdered_dict ty ?_))
 refine wpAny_pure (show wpAny _ _ (Builtin.Dict.showsAll d >>= _) _ _ s from ?_)
 unfold Builtin.Dict.showsAll
 rw [if_neg (by rw [lo];exact Bool.false_ne_true)]
 refine wpAny_bind (wpAny_pure (wpAny_bind (wpAny_dictEntries ho hdat (wpAny_bind (wpAny_dictEpoch ho hdat ?_)))))
 refine wpAny_bind (wpAny_newObj_type (wpAny_pure ⟨_,rfl,"dict_keyiterator",_,⟨_,Heap.get?_push_size _ rfl,rfl⟩,PySem.F.slot_dict_keyiterator_next.lookup,?_⟩))
 simpa [rawInt,fW hk]using q
theorem next_des {x:Value} {Q:Option Value->Shared->Prop} (st:s.heap.IsKeyIter j d i ks.length ep) (m:DEs s.heap d ks ep) (hx:ks[i]? =some x)
  (q: ∀ h',h'.IsKeyIter j d (i+1) ks.length ep->Heap.SameBut j s.heap h'->Q (some x) {s with heap:=h'}):wpAny (model prog w) A (pyNext (.ref j)) Q E s:=by
 have ty:=st.typeIs
 obtain ⟨o,ho,hc,hd⟩:=id st
 obtain ⟨od,es,hod,hcd,hdd,hk⟩:=m
 have hz:=fW hk
 have hlt:i<ks.length:=(List.getElem?_eq_some_iff.mp hx).1
 have hes:i<es.size:=by omega
 have hkey:es[i].key=x:=by
  have e1:(es.toList.map (·.key))[i]? =some x:=by rw [hk];exact hx
  rw [List.getElem?_map,Array.getElem?_toList,Array.getElem?_eq_getElem hes]at e1
  exact Option.some.inj e1
 unfold pyNext
 refine wpAny_bind (wpAny_attempt (wpAny_callSpecial?_slot (name:=Str.ofString "__next__") ty PySem.F.slot_dict_keyiterator_next (wpAny_call_entry PySem.F.slot_dict_keyiterator_next ty PySem.F.entry_dict_keyiterator_next ?_ (PySem.F.args_dict_keyiterator_next_1 _))))
 refine wpAny_bind (wpAny_pure (wpAny_bind (wpAny_bind ?_)))
 first | refine wpAny_bind (wpAny_typeNameOfWhole_keyiter ty (wpAny_pure (wpAny_bind (wpAny_fieldsOf ho hd ?_)))) | refine wpAny_bind (wpAny_typeNameOf_keyiter ty (wpAny_pure (wpAny_bind (wpAny_fieldsOf ho hd ?_))))
 have own:Builtin.Dict_items.ownsTuple "dict_keyiterator"=false:=by decide
 simp only [own,Bool.false_eq_true,if_false]
 refine (show wpAny _ _ (if (Value.ref d==Value.none)=true then _ else _) _ _ s from ?_)
 rw [if_neg fun b0:(Value.ref d==Value.none)=true=>Bool.false_ne_true b0]
 refine wpAny_bind (wpAny_pure (wpAny_bind (wpAny_dictEntries hod hdd ?_)))
 rw [if_neg (by rw [hz];simp)]
 refine wpAny_bind (wpAny_pure (wpAny_bind (wpAny_dictEpoch hod hdd ?_)))
 rw [if_neg (by simp)]
 refine wpAny_pure ?_
 simp only [show ¬ ((i:Int) <0)from by omega,if_false,Int.toNat_natCast,Array.getElem?_eq_getElem hes]
 refine wpAny_bind ?_
 first | refine wpAny_bind (wpAny_typeNameOfWhole_keyiter ty (wpAny_pure (wpAny_bind (wpAny_isOneOf_keyiter ty ?_)))) | refine wpAny_bind (wpAny_typeNameOf_keyiter ty (wpAny_pure (wpAny_bind (wpAny_isOneOf_keyiter ty ?_))))
 refine (show wpAny _ _ (setField (.ref j) 1 (rawInt ((i:Int) +1)) >>= _) _ _ s from ?_)
 refine wpAny_bind (wpAny_setField ho hd (by simp) ?_)
 have st':(s.heap.update j (Obj.mapFields (·.setIfInBounds 1 (rawInt ((i:Int) +1))))).IsKeyIter j d (i+1) ks.length ep:=by
  refine ⟨_,Heap.get?_update_self _ ho (Obj.isFreed_of_fields (Obj.data_mapFields hd _)),(Obj.cls_mapFields ..).trans hc,?_⟩
  rw [Obj.data_mapFields hd];simp [rawInt]
 refine wpAny_bind (wpAny_holding (wpAny_bind (wpAny_isOneOf_keyiter (s:={s with heap:=s.heap.update j (Obj.mapFields (·.setIfInBounds 1 (rawInt ((i:Int) +1))))}) st'.typeIs ?_)))
 refine (show wpAny _ _ (pure es[i].key) _ _ _ from ?_)
 rw [hkey]
 exact wpAny_pure (wpAny_pure ⟨_,rfl,wpAny_pure (q _ st' (Heap.SameBut.update ..))⟩)
theorem end_des {Q:Option Value->Shared->Prop} (hh:A.handled=none) (st:s.heap.IsKeyIter j d i ks.length ep) (m:DEs s.heap d ks ep) (hx:ks.length<=i)
  (q: ∀ h',Heap.ExtBut j s.heap h'->Q none {s with heap:=h'}):wpAny (model prog w) A (pyNext (.ref j)) Q E s:=by
 have ty:=st.typeIs
 obtain ⟨o,ho,hc,hd⟩:=id st
 obtain ⟨od,es,hod,hcd,hdd,hk⟩:=m
 have hz:=fW hk
 unfold pyNext
 refine wpAny_bind (wpAny_attempt (wpAny_callSpecial?_slot (name:=Str.ofString "__next__") ty PySem.F.slot_dict_keyiterator_next (wpAny_call_entry PySem.F.slot_dict_keyiterator_next ty PySem.F.entry_dict_keyiterator_next ?_ (PySem.F.args_dict_keyiterator_next_1 _))))
 refine wpAny_bind (wpAny_pure (wpAny_bind (wpAny_bind ?_)))
 first | refine wpAny_bind (wpAny_typeNameOfWhole_keyiter ty (wpAny_pure (wpAny_bind (wpAny_fieldsOf ho hd ?_)))) | refine wpAny_bind (wpAny_typeNameOf_keyiter ty (wpAny_pure (wpAny_bind (wpAny_fieldsOf ho hd ?_))))
 have own:Builtin.Dict_items.ownsTuple "dict_keyiterator"=false:=by decide
 simp only [own,Bool.false_eq_true,if_false]
 refine (show wpAny _ _ (if (Value.ref d==Value.none)=true then _ else _) _ _ s from ?_)
 rw [if_neg fun b0:(Value.ref d==Value.none)=true=>Bool.false_ne_true b0]
 refine wpAny_bind (wpAny_pure (wpAny_bind (wpAny_dictEntries hod hdd ?_)))
 rw [if_neg (by rw [hz];simp)]
 refine wpAny_bind (wpAny_pure (wpAny_bind (wpAny_dictEpoch hod hdd ?_)))
 rw [if_neg (by simp)]
 refine wpAny_pure ?_
 have hge:es.size<=i:=by omega
 simp only [show ¬ ((i:Int) <0)from by omega,if_false,Int.toNat_natCast,Array.getElem?_eq_none hge]
 refine wpAny_bind ?_
 first | refine wpAny_bind (wpAny_typeNameOfWhole_keyiter ty (wpAny_pure ?_)) | refine wpAny_bind (wpAny_typeNameOf_keyiter ty (wpAny_pure ?_))
 refine (show wpAny _ _ (setField (.ref j) 0 .none >>= _) _ _ s from wpAny_bind (wpAny_setField ho hd (by simp) ?_))
 refine (show wpAny _ _ (newExc (.type "StopIteration") [] >>= _) _ _ _ from wpAny_bind ?_)
 simp only [newExc,newTuple]
 refine wpAny_bind (wpAny_newObj_type (wpAny_bind (m:=firstArgMember _ _) (wpAny_of_eq (a:=Value.none) (by first | rfl | (simp only [firstArgMember];rfl)) (wpAny_newObj_type ?_ (by size_fits)))) (by size_fits))
 simp only [raiseNew]
 refine wpAny_bind (wpAny_handled ?_)
 rw [show A.in1.handled=none from hh]
 refine (wpAny_bind (wpAny_pure (wpAny_throw (?_))))
 refine wpAny_bind (wpAny_isInstance (T:="StopIteration") (b:=true) ⟨_,Heap.get?_push_size _ rfl,rfl⟩ isSubtype_stop (wpAny_pure (q _ ?_)))
 exact ((Heap.SameBut.update ..).extBut.push _).push _
end
end HT
namespace L2
open PySem PySem.Spec PyProof.Rows
section
variable {X:Cx}
instance vK (ks:List Key) (kss:List (List Key)):Decidable (ks∈kss):=decidable_of_iff (kss.any (fun l=>decide (l=ks))=true) ⟨fun h=>by
  obtain ⟨x,hx,e⟩:=List.any_eq_true.mp h
  rw [<- of_decide_eq_true e]
  exact hx,fun h=>List.any_eq_true.mpr ⟨ks,h,decide_eq_true rfl⟩⟩
theorem gN (K:PySem.W.Frag) (t:String) (ht:t∈["NoneType","bool","int","str","list","tuple","dict"]):
  PySem.W.kitAny K (.type t) [.type "tuple",.type "list"]=some (t=="tuple"||t=="list"):=by
 simp only [List.mem_cons,List.not_mem_nil,or_false]at ht
 rcases ht with rfl | rfl | rfl | rfl | rfl | rfl | rfl <;> first | rfl | (with_unfolding_all rfl) | (with_unfolding_all decide)
inductive TL (H:Hp):V->Bool->Prop where
 | str (z:Str):TL H (.str z) false
 | int (i:Int):TL H (.int i) false
 | tup {a:Addr} {xs:List V}:H a=some (.tup xs)->TL H (.ref a) true
 | lst {a:Addr} {xs:List V}:H a=some (.lst xs)->TL H (.ref a) true
theorem ou:di X (.builtin "isinstance") (fun xs H Q=> ∃ x p b,xs=[x,.ref p]/\H p=some (.tup [.ty "tuple",.ty "list"])/\TL H x b/\Q (.bl b) H):=by
 intro pins s σ H xs us Q I r h
 obtain ⟨x,p,b,rfl,hp,ty,q⟩:=h
 obtain ⟨u,w',rfl,rx,rp⟩:=gm r
 cases (show w'=Value.ref p from rp)
 obtain ⟨_,its,rv,o,h1,h2,n,h3⟩:=(show ObjOk X.prog X.w H s.heap p (.tup [.ty "tuple",.ty "list"])from I.hok p _ hp)
 obtain ⟨u1,u2,rfl,r1,r2⟩:=gm rv
 cases (show u1=Value.type "tuple" from r1)
 cases (show u2=Value.type "list" from r2)
 obtain ⟨c,d,dt,sl⟩:=o
 simp only at h2 h3
 subst h2 h3
 have k: ∀ tk,EP X pins σ Q (.bool b) {s with toks:=tk}:=fun tk=>⟨.bl b,H,I.tok tk,rfl,q⟩
 cases ty with
 | int i=>
  obtain ⟨t,e⟩:=(show ∃ t,u=Value.int i t from rx)
  cases e
  exact PySem.W.kia_tup PySem.W.kitx_int I.kIn True.intro h1 (gN _ "int" (by simp)) (fun z=>nomatch z) k
 | str y=>
  obtain ⟨t,e⟩:=(show ∃ t,u=Value.str y t from rx)
  cases e
  exact PySem.W.kia_tup PySem.W.kitx_str I.kIn True.intro h1 (gN _ "str" (by simp)) (fun z=>nomatch z) k
 | @lst a xs ea=>
  cases (show u=Value.ref a from rx)
  obtain ⟨_,_,_,_,h4⟩:=(show ObjOk X.prog X.w H s.heap a (.lst xs)from I.hok a _ ea)
  exact PySem.W.kia_tup PySem.W.kitx_list I.kIn ⟨_,h4,rfl⟩ h1 (gN _ "list" (by simp)) (fun z=>nomatch z) k
 | @tup a xs ea=>
  cases (show u=Value.ref a from rx)
  obtain ⟨_,_,_,o2,h4,h5,_⟩:=(show ObjOk X.prog X.w H s.heap a (.tup xs)from I.hok a _ ea)
  exact PySem.W.kia_tup PySem.W.kitx_tuple I.kIn ⟨o2,h4,h5⟩ h1 (gN _ "tuple" (by simp)) (fun z=>nomatch z) k
end
end L2
namespace HT
open PySem PyProof.Rows
section
variable {prog:Program} {w:World} {A:Around} {s:Shared} {E:Value->Shared->Prop} {j t:Addr} {i:Nat} {items:Array Value}
theorem qj {x:Value} {Q:Value->Shared->Prop} (st:s.heap.IsTupleIter j t i) (ht:s.heap.IsTuple t items) (hx:items[i]? =some x)
  (q: ∀ h',h'.IsTupleIter j t (i+1)->Heap.SameBut j s.heap h'->Q x {s with heap:=h'}):wpAny (model prog w) A (Builtin.SmallTypes.nextOf (.ref j)) Q E s:=by
 have ty:=st.typeIs
 obtain ⟨o,ho,hc,hd⟩:=id st
 obtain ⟨ol,hol,_,nl,hdl⟩:=ht
 unfold Builtin.SmallTypes.nextOf
 refine wpAny_bind (wpAny_callSpecial?_slot (name:=Str.ofString "__next__") ty PySem.F.slot_tuple_iterator_next (wpAny_call_entry PySem.F.slot_tuple_iterator_next ty PySem.F.entry_tuple_iterator_next ?_ (PySem.F.args_tuple_iterator_next_1 _)))
 refine (show wpAny _ _ (field (.ref j) 0 >>= _) _ _ s from wpAny_bind (wpAny_field ho hd (x:=.ref t) rfl ?_))
 refine (show wpAny _ _ (if (Value.ref t==Value.none)=true then _ else _) _ _ s from ?_)
 rw [if_neg fun b0:(Value.ref t==Value.none)=true=>Bool.false_ne_true b0]
 refine (show wpAny _ _ (field (.ref j) 1 >>= _) _ _ s from wpAny_bind (wpAny_field ho hd (x:=.int i 0) rfl ?_))
 refine (show wpAny _ _ (seqItems? (.ref t) >>= _) _ _ s from wpAny_bind (wpAny_seqItems hol hdl ?_))
 simp only [Int.toNat_natCast,hx]
 refine wpAny_bind (wpAny_setField ho hd (by simp) (wpAny_pure ⟨x,rfl,wpAny_pure (q _ ⟨_,Heap.get?_update_self _ ho (Obj.isFreed_of_fields (Obj.data_mapFields hd _)),(Obj.cls_mapFields ..).trans hc,?_⟩ (Heap.SameBut.update ..))⟩))
 rw [Obj.data_mapFields hd];simp [rawInt]
theorem kw {Q:Value->Shared->Prop} (hh:A.handled=none) (st:s.heap.IsTupleIter j t i) (ht:s.heap.IsTuple t items) (hx:items[i]? =none)
  (q: ∀ h' e,Heap.ExtBut j s.heap h'->(∃ o,h'.get? e=some o/\o.cls=.type "StopIteration")->E (.ref e) {s with heap:=h'}):wpAny (model prog w) A (Builtin.SmallTypes.nextOf (.ref j)) Q E s:=by
 have ty:=st.typeIs
 obtain ⟨o,ho,hc,hd⟩:=id st
 obtain ⟨ol,hol,_,nl,hdl⟩:=ht
 unfold Builtin.SmallTypes.nextOf
 refine wpAny_bind (wpAny_callSpecial?_slot (name:=Str.ofString "__next__") ty PySem.F.slot_tuple_iterator_next (wpAny_call_entry PySem.F.slot_tuple_iterator_next ty PySem.F.entry_tuple_iterator_next ?_ (PySem.F.args_tuple_iterator_next_1 _)))
 refine (show wpAny _ _ (field (.ref j) 0 >>= _) _ _ s from wpAny_bind (wpAny_field ho hd (x:=.ref t) rfl ?_))
 refine (show wpAny _ _ (if (Value.ref t==Value.none)=true then _ else _) _ _ s from ?_)
 rw [if_neg fun b0:(Value.ref t==Value.none)=true=>Bool.false_ne_true b0]
 refine (show wpAny _ _ (field (.ref j) 1 >>= _) _ _ s from wpAny_bind (wpAny_field ho hd (x:=.int i 0) rfl ?_))
 refine (show wpAny _ _ (seqItems? (.ref t) >>= _) _ _ s from wpAny_bind (wpAny_seqItems hol hdl ?_))
 simp only [Int.toNat_natCast,hx]
 refine wpAny_bind (wpAny_rule (wpAny_bind (wpAny_setField ho hd (by simp) (show wpAny _ _ (newExc (.type "StopIteration") [] >>= _) _ _ _ from wpAny_bind ?_))))
 simp only [newExc,newTuple]
 refine wpAny_bind (wpAny_newObj_type (wpAny_bind (m:=firstArgMember _ _) (wpAny_of_eq (a:=Value.none) (by first | rfl | (simp only [firstArgMember];rfl)) (wpAny_newObj_type ?_ (by size_fits)))) (by size_fits))
 simp only [raiseNew]
 refine wpAny_bind (wpAny_handled ?_)
 rw [show A.in1.handled=none from hh]
 exact wpAny_bind (wpAny_pure (wpAny_throw (q _ _ (((Heap.SameBut.update ..).extBut.push _).push _) ⟨_,Heap.get?_push_size _ rfl,rfl⟩)))
noncomputable def SIter (c:Bool) (h:Heap) (j l:Addr) (i:Nat):Prop:=if c=true then h.IsTupleIter j l i else h.IsListIter j l i
noncomputable def SSeq (c:Bool) (h:Heap) (l:Addr) (items:Array Value):Prop:=if c=true then h.IsTuple l items else h.IsList l items
theorem SIter.obj {c:Bool} {h:Heap} {l:Addr} (x:SIter c h j l i): ∃ o,h.get? j=some o/\ ∀ v,o.data≠ .cell v:=by
 cases c with
 | true=>obtain ⟨o,e,_,d⟩:=(show h.IsTupleIter j l i from x);exact ⟨o,e,fun v z=>by rw [d]at z;cases z⟩
 | false=>obtain ⟨o,e,_,d⟩:=(show h.IsListIter j l i from x);exact ⟨o,e,fun v z=>by rw [d]at z;cases z⟩
theorem SIter.at {c:Bool} {h h':Heap} {l:Addr} (x:SIter c h j l i) (k: ∀ o,h.get? j=some o->h'.get? j=some o):SIter c h' j l i:=by
 cases c with
 | true=>obtain ⟨o,e,r⟩:=(show h.IsTupleIter j l i from x);exact (show h'.IsTupleIter j l i from ⟨o,k o e,r⟩)
 | false=>obtain ⟨o,e,r⟩:=(show h.IsListIter j l i from x);exact (show h'.IsListIter j l i from ⟨o,k o e,r⟩)
theorem SSeq.at {c:Bool} {h h':Heap} {l:Addr} (x:SSeq c h l items) (k: ∀ o,h.get? l=some o->h'.get? l=some o):SSeq c h' l items:=by
 cases c with
 | true=>obtain ⟨o,e,r⟩:=(show h.IsTuple l items from x);exact (show h'.IsTuple l items from ⟨o,k o e,r⟩)
 | false=>obtain ⟨o,e,r⟩:=(show h.IsList l items from x);exact (show h'.IsList l items from ⟨o,k o e,r⟩)
theorem draws_seq (c:Bool) (hh:A.handled=none) (j l:Addr) (hne:l≠j) (items:Array Value):
  Draws prog w A j [j,l] items.size (fun i v=>items[i]? =some v) (fun i h=>SIter c h j l i/\SSeq c h l items) where
 live:=fun _ _ st=>let ⟨o,e,_⟩:=st.1.obj;⟨o,e⟩
 frame:=fun _ _ _ st k=>⟨st.1.at fun o e=>k j (by simp) o e,st.2.at fun o e=>k l (by simp) o e⟩
 item:=fun i s Q E hi st hQ=>by
  have hx:items[i]? =some items[i]:=Array.getElem?_eq_getElem hi
  cases c with
  | true=>exact qj st.1 st.2 hx fun h' st' sb=>hQ _ h' s.toks hx ⟨st',st.2.at fun o e=>sb.extBut l o hne e⟩ sb
  | false=>exact wpAny_nextOf_list_item st.1 st.2 hx fun h' st' sb=>hQ _ h' s.toks hx ⟨st',st.2.at fun o e=>sb.extBut l o hne e⟩ sb
 done:=fun s Q E st hE=>by
  cases c with
  | true=>exact kw hh st.1 st.2 (by simp) hE
  | false=>exact wpAny_nextOf_list_end hh st.1 st.2 (by simp) hE
end
structure ZAp (z TI TO i1 i2:Addr) (f1 f2:List Addr):Prop where
 tz:TI≠z
 oz:TO≠z
 a1z:i1≠z
 a2z:i2≠z
 to:TI≠TO
 t1:TI≠i1
 t2:TI≠i2
 o1:TO≠i1
 o2:TO≠i2
 ii:i1≠i2
 z1:z∉f1
 z2:z∉f2
 p1:TO∉f1
 p2:TO∉f2
 q1:i2∉f1
 q2:i1∉f2
section
variable {prog:Program} {w:World} {A:Around} {s:Shared} {E:Value->Shared->Prop} {z TI TO i1 i2:Addr} {f1 f2:List Addr} {n1 n2 k:Nat} {P1 P2:Nat->Value->Prop} {S1 S2:Nat->Heap->Prop} {a b:Value}
theorem oy {Q:Value->Shared->Prop} (D1:Draws prog w A i1 f1 n1 P1 S1) (D2:Draws prog w A i2 f2 n2 P2 S2) (D:ZAp z TI TO i1 i2 f1 f2)
  (hz:IsZip s.heap z TI TO .none) (hTI:IsPair s.heap TI (.ref i1) (.ref i2)) (hTO:IsPair s.heap TO a b) (st1:S1 k s.heap) (st2:S2 k s.heap) (k1:k<n1) (k2:k<n2)
  (q: ∀ x y h' tk,P1 k x->P2 k y->IsZip h' z TI TO (rawInt s.heap.objs.size)->IsPair h' TO x y->S1 (k+1) h'->S2 (k+1) h'->IsPair h' s.heap.objs.size x y->
   (∀ c o,c≠z->c≠TO->c≠i1->c≠i2->s.heap.get? c=some o->h'.get? c=some o)->Q (.ref s.heap.objs.size) {s with heap:=h',toks:=tk}):
  wpAny (model prog w) A (Builtin.«zip.__next__» ⟨[.ref z],[]⟩) (fun fin s'=> ∃ v,fin=.done (.ret v)/\Q v s') E s:=by
 refine (show wpAny _ _ (field (.ref z) 2 >>= _) _ _ _ from wpAny_bind (wpAny_field hz rfl (x:=.bool false) rfl ?_))
 refine (show wpAny _ _ (field (.ref z) 3 >>= _) _ _ _ from wpAny_bind (wpAny_field hz rfl (x:=.ref TI) rfl (wpAny_bind (wpAny_seqItems hTI rfl ?_))))
 refine (show wpAny _ _ (Builtin.SmallTypes.ownedTupleIsFree (.ref z) >>= _) _ _ _ from wpAny_bind ?_)
 unfold Builtin.SmallTypes.ownedTupleIsFree
 refine wpAny_bind (wpAny_field hz rfl (x:=.none) rfl (wpAny_pure ?_))
 simp only [if_true]
 refine wpAny_bind (wpAny_rule (wpAny_bind (wpAny_field hz rfl (x:=.ref TO) rfl (wpAny_bind (wpAny_setField_rec hz (by simp) fun g1 zz1 sb1=>?_)))))
 replace zz1:IsZip g1 z TI TO .ellipsis:=zz1
 refine wpAny_bind ?_
 simp only [List.zipIdx_cons,List.zipIdx_nil,List.forIn_cons,List.forIn_nil]
 refine wpAny_bind (wpAny_bind (wpAny_onRaise (show wpAny _ _ (Builtin.SmallTypes.nextOf (.ref i1) >>= _) _ _ _ from ?_)))
 refine wpAny_bind (D1.item k _ _ _ k1 (D1.frame k s.heap g1 st1 fun c hc o e=>sb1.extBut c o (fun x=>D.z1 (x▸hc)) e) fun x g2 tk2 hx s1' sb2=>wpAny_pure ?_)
 have to2:IsPair g2 TO a b:=sb2.extBut _ _ D.o1 (sb1.extBut _ _ D.oz hTO)
 refine wpAny_bind (wpAny_seqItems to2 rfl (wpAny_bind (wpAny_updateSeq_pair to2 fun g3 to3 sb3=>?_)))
 replace to3:IsPair g3 TO x b:=to3
 refine wpAny_bind (wpAny_letGo (wpAny_pure ?_))
 refine wpAny_bind (wpAny_bind (wpAny_onRaise (show wpAny _ _ (Builtin.SmallTypes.nextOf (.ref i2) >>= _) _ _ _ from ?_)))
 refine wpAny_bind (D2.item k _ _ _ k2 (D2.frame k s.heap g3 st2 fun c hc o e=>?_) fun y g4 tk4 hy s2' sb4=>wpAny_pure ?_)
 ·exact sb3.extBut c o (fun x=>D.p2 (x▸hc)) (sb2.extBut c o (fun x=>D.q2 (x▸hc)) (sb1.extBut c o (fun x=>D.z2 (x▸hc)) e))
 have to4:IsPair g4 TO x b:=sb4.extBut _ _ D.o2 to3
 refine wpAny_bind (wpAny_seqItems to4 rfl (wpAny_bind (wpAny_updateSeq_pair to4 fun g5 to5 sb5=>?_)))
 replace to5:IsPair g5 TO x y:=to5
 refine wpAny_bind (wpAny_letGo (wpAny_pure (wpAny_pure ?_)))
 refine wpAny_bind (wpAny_seqItems to5 rfl (wpAny_bind (wpAny_newTuple ?_)))
 have sz:g5.objs.size=s.heap.objs.size:=by rw [sb5.1,sb4.1,sb3.1,sb2.1,sb1.1]
 have zz5:IsZip g5 z TI TO .ellipsis:=sb5.extBut _ _ D.oz.symm (sb4.extBut _ _ D.a2z.symm (sb3.extBut _ _ D.oz.symm (sb2.extBut _ _ D.a1z.symm zz1)))
 have kk5: ∀ c o,c≠z->c≠TO->c≠i1->c≠i2->s.heap.get? c=some o->g5.get? c=some o:=fun c o c1 c2 c3 c4 e=>
  sb5.extBut c o c2 (sb4.extBut c o c4 (sb3.extBut c o c2 (sb2.extBut c o c3 (sb1.extBut c o c1 e))))
 have zlt:z<g5.objs.size:=Heap.lt_size zz5
 refine (show wpAny _ _ (Builtin.SmallTypes.ownedTupleHandOut (.ref z) (.ref g5.objs.size) >>= _) _ _ _ from wpAny_bind ?_)
 unfold Builtin.SmallTypes.ownedTupleHandOut
 have zz6:IsZip (g5.push {cls:=.type "tuple",data:=.seq #[x,y]}) z TI TO .ellipsis:=Heap.get?_push_of_some _ zz5
 refine wpAny_bind (wpAny_setField_rec zz6 (by simp) fun g7 zz7 sb7=>?_)
 replace zz7:IsZip g7 z TI TO (rawInt g5.objs.size):=zz7
 refine wpAny_setField_rec zz7 (by simp) fun g8 zz8 sb8=>?_
 replace zz8:IsZip g8 z TI TO (rawInt g5.objs.size):=zz8
 have up: ∀ c o,c≠z->g5.get? c=some o->g8.get? c=some o:=fun c o c1 e=>sb8.extBut c o c1 (sb7.extBut c o c1 (Heap.get?_push_of_some _ e))
 have tt8:IsPair g8 g5.objs.size x y:=sb8.extBut _ _ (Nat.ne_of_gt zlt) (sb7.extBut _ _ (Nat.ne_of_gt zlt) (Heap.get?_push_size _ rfl))
 rw [sz]at zz8 tt8
 refine wpAny_pure ⟨_,rfl,(show Q (.ref g5.objs.size) _ from ?_)⟩
 rw [sz]
 refine q x y g8 _ hx hy zz8 (up _ _ D.oz to5) ?_ ?_ tt8 fun c o c1 c2 c3 c4 e=>up c o c1 (kk5 c o c1 c2 c3 c4 e)
 ·refine D1.frame (k+1) g2 g8 s1' fun c hc o e=>up c o (fun x=>D.z1 (x▸hc)) (sb5.extBut c o (fun x=>D.p1 (x▸hc)) (sb4.extBut c o (fun x=>D.q1 (x▸hc)) (sb3.extBut c o (fun x=>D.p1 (x▸hc)) e)))
 ·exact D2.frame (k+1) g4 g8 s2' fun c hc o e=>up c o (fun x=>D.z2 (x▸hc)) (sb5.extBut c o (fun x=>D.p2 (x▸hc)) e)
theorem jO {Q:Fin->Shared->Prop} (D1:Draws prog w A i1 f1 n1 P1 S1) (D:ZAp z TI TO i1 i2 f1 f2)
  (hz:IsZip s.heap z TI TO .none) (hTI:IsPair s.heap TI (.ref i1) (.ref i2)) (hTO:IsPair s.heap TO a b) (st1:S1 n1 s.heap)
  (q: ∀ h' e,(∀ c o,c≠z->c≠TO->c≠i1->c≠i2->s.heap.get? c=some o->h'.get? c=some o)->(∃ o,h'.get? e=some o/\o.cls=.type "StopIteration")->E (.ref e) {s with heap:=h'}):
  wpAny (model prog w) A (Builtin.«zip.__next__» ⟨[.ref z],[]⟩) Q E s:=by
 refine (show wpAny _ _ (field (.ref z) 2 >>= _) _ _ _ from wpAny_bind (wpAny_field hz rfl (x:=.bool false) rfl ?_))
 refine (show wpAny _ _ (field (.ref z) 3 >>= _) _ _ _ from wpAny_bind (wpAny_field hz rfl (x:=.ref TI) rfl (wpAny_bind (wpAny_seqItems hTI rfl ?_))))
 refine (show wpAny _ _ (Builtin.SmallTypes.ownedTupleIsFree (.ref z) >>= _) _ _ _ from wpAny_bind ?_)
 unfold Builtin.SmallTypes.ownedTupleIsFree
 refine wpAny_bind (wpAny_field hz rfl (x:=.none) rfl (wpAny_pure ?_))
 simp only [if_true]
 refine wpAny_bind (wpAny_rule (wpAny_bind (wpAny_field hz rfl (x:=.ref TO) rfl (wpAny_bind (wpAny_setField_rec hz (by simp) fun g1 zz1 sb1=>?_)))))
 replace zz1:IsZip g1 z TI TO .ellipsis:=zz1
 refine wpAny_bind ?_
 simp only [List.zipIdx_cons,List.zipIdx_nil,List.forIn_cons,List.forIn_nil]
 refine wpAny_bind (wpAny_bind (wpAny_onRaise (show wpAny _ _ (Builtin.SmallTypes.nextOf (.ref i1) >>= _) _ _ _ from ?_)))
 refine wpAny_bind (D1.done _ _ _ (D1.frame n1 s.heap g1 st1 fun c hc o e=>sb1.extBut c o (fun x=>D.z1 (x▸hc)) e) fun g2 e eb2 he=>?_)
 obtain ⟨oe,hoe,hce⟩:=he
 have zz2:IsZip g2 z TI TO .ellipsis:=eb2 _ _ D.a1z.symm zz1
 have ez:e≠z:=fun x=>by subst x;rw [zz2]at hoe;cases hoe;simp at hce
 exact wpAny_setField_rec zz2 (by simp) fun g3 _ sb3=>q g3 e (fun c o c1 _ c3 _ x=>sb3.extBut c o c1 (eb2 c o c3 (sb1.extBut c o c1 x))) ⟨oe,sb3.extBut _ _ ez hoe,hce⟩
theorem next_zip {Q:Option Value->Shared->Prop} (D1:Draws prog w A.in1 i1 f1 n1 P1 S1) (D2:Draws prog w A.in1 i2 f2 n2 P2 S2) (D:ZAp z TI TO i1 i2 f1 f2)
  (hz:IsZip s.heap z TI TO .none) (hTI:IsPair s.heap TI (.ref i1) (.ref i2)) (hTO:IsPair s.heap TO a b) (st1:S1 k s.heap) (st2:S2 k s.heap) (k1:k<n1) (k2:k<n2)
  (q: ∀ x y h' tk,P1 k x->P2 k y->IsZip h' z TI TO (rawInt s.heap.objs.size)->IsPair h' TO x y->S1 (k+1) h'->S2 (k+1) h'->IsPair h' s.heap.objs.size x y->
   (∀ c o,c≠z->c≠TO->c≠i1->c≠i2->s.heap.get? c=some o->h'.get? c=some o)->Q (some (.ref s.heap.objs.size)) {s with heap:=h',toks:=tk}):
  wpAny (model prog w) A (pyNext (.ref z)) Q E s:=by
 have ty:s.TypeIs (.ref z) "zip":=⟨_,hz,rfl⟩
 unfold pyNext
 exact wpAny_bind (wpAny_attempt (wpAny_callSpecial?_slot (name:=Str.ofString "__next__") ty PySem.F.slot_zip_next (wpAny_call_entry PySem.F.slot_zip_next ty PySem.F.entry_zip_next
  (oy D1 D2 D hz hTI hTO st1 st2 k1 k2 fun x y h' tk a0 b0 a1 a2 a3 a4 a5 a6=>wpAny_pure (q x y h' tk a0 b0 a1 a2 a3 a4 a5 a6)) (PySem.F.args_zip_next_1 _))))
theorem end_zip {Q:Option Value->Shared->Prop} (D1:Draws prog w A.in1 i1 f1 n1 P1 S1) (D:ZAp z TI TO i1 i2 f1 f2)
  (hz:IsZip s.heap z TI TO .none) (hTI:IsPair s.heap TI (.ref i1) (.ref i2)) (hTO:IsPair s.heap TO a b) (st1:S1 n1 s.heap)
  (q: ∀ h',(∀ c o,c≠z->c≠TO->c≠i1->c≠i2->s.heap.get? c=some o->h'.get? c=some o)->Q none {s with heap:=h'}):wpAny (model prog w) A (pyNext (.ref z)) Q E s:=by
 have ty:s.TypeIs (.ref z) "zip":=⟨_,hz,rfl⟩
 unfold pyNext
 refine wpAny_bind (wpAny_attempt (wpAny_callSpecial?_slot (name:=Str.ofString "__next__") ty PySem.F.slot_zip_next (wpAny_call_entry PySem.F.slot_zip_next ty PySem.F.entry_zip_next
  (jO D1 D hz hTI hTO st1 fun h' e kk he=>?_) (PySem.F.args_zip_next_1 _))))
 obtain ⟨o,ho,hc⟩:=he
 exact wpAny_bind (wpAny_isInstance (T:="StopIteration") (b:=true) ⟨o,ho,hc⟩ isSubtype_stop (wpAny_pure (q _ kk)))
end
section
variable {prog:Program} {w:World} {A:Around} {s:Shared} {E:Value->Shared->Prop}
noncomputable def tIt (l:Addr):Obj:={cls:=.type "tuple_iterator",data:=.fields #[.ref l,.int 0 0]}
noncomputable def zG2 (h:Heap) (l1 l2:Addr):Heap:=(h.push (tIt l1)).push (tIt l2)
noncomputable def zG3 (h:Heap) (l1 l2:Addr):Heap:=(zG2 h l1 l2).push {cls:=.type "tuple",data:=.seq #[.ref h.objs.size,.ref (h.push (tIt l1)).objs.size]}
noncomputable def zG4 (h:Heap) (l1 l2:Addr):Heap:=(zG3 h l1 l2).push {cls:=.type "tuple",data:=.seq #[.none,.none]}
noncomputable def zG5 (h:Heap) (l1 l2:Addr):Heap:=(zG4 h l1 l2).push {cls:=.type "zip",data:=.fields #[.none,.bool false,.bool false,.ref (zG2 h l1 l2).objs.size,.ref (zG3 h l1 l2).objs.size]}
theorem ow (l1 l2:Addr) (xs ys:Array Value):Meets (Builtin.«zip.__new__» ⟨[.type "zip",.ref l1,.ref l2],[]⟩)
  (fun _ R s=>s.heap.IsTuple l1 xs/\s.heap.IsTuple l2 ys/\R (.ok (.ret (.ref (zG4 s.heap l1 l2).objs.size))) {s with heap:=zG5 s.heap l1 l2}):=
 .of_wp fun prog w A R s h=>by
  obtain ⟨hp,g,d,tk,os⟩:=s
  obtain ⟨a1,a2,h⟩:=h
  have sub:=sub_zip
  have b1:Heap.IsTuple (Shared.heap ⟨hp,g,d,tk,os⟩) l1 xs:=a1
  have b2:Heap.IsTuple (Shared.heap ⟨hp.push {cls:=.type "tuple_iterator",data:=.fields #[.ref l1,.int 0 0]},g,d,tk,os⟩) l2 ys:=Heap.IsTuple.push a2 _
  wp_walk using wpAny_pyIter_tuple b1,wpAny_pyIter_tuple b2
  exact ⟨_,rfl,h⟩
theorem call_zipS {c:Bool} {l1 l2:Addr} {xs ys:Array Value} {Q:Value->Shared->Prop} (a1:SSeq c s.heap l1 xs) (a2:SSeq c s.heap l2 ys)
  (q: ∀ h',IsZip h' (s.heap.objs.size+4) (s.heap.objs.size+2) (s.heap.objs.size+3) .none->IsPair h' (s.heap.objs.size+2) (.ref s.heap.objs.size) (.ref (s.heap.objs.size+1))->
   IsPair h' (s.heap.objs.size+3) .none .none->SIter c h' s.heap.objs.size l1 0->SIter c h' (s.heap.objs.size+1) l2 0->
   (∀ b o,s.heap.get? b=some o->h'.get? b=some o)->Q (.ref (s.heap.objs.size+4)) {s with heap:=h'}):wpAny (model prog w) A (call (.type "zip") [.ref l1,.ref l2]) Q E s:=by
 cases c with
 | false=>exact call_zip_2 a1 a2 fun h' b1 b2 b3 b4 b5 _ b7=>q h' b1 b2 b3 b4 b5 b7
 | true=>
  refine callType_new PySem.F.called_zip (by decide) (PySem.F.typeCall_zip_2 _ _) (PySem.F.newCall_zip_2 _ _) (fun obj=>PySem.F.args_object_init_3 obj _ _) PySem.F.entry_zip_new (ow l1 l2 xs ys) ⟨a1,a2,?_⟩
  have z1:(s.heap.push (tIt l1)).objs.size=s.heap.objs.size+1:=Heap.size_push ..
  have z2:(zG2 s.heap l1 l2).objs.size=s.heap.objs.size+2:=by unfold zG2;rw [Heap.size_push,z1]
  have z3:(zG3 s.heap l1 l2).objs.size=s.heap.objs.size+3:=by unfold zG3;rw [Heap.size_push,z2]
  have z4:(zG4 s.heap l1 l2).objs.size=s.heap.objs.size+4:=by unfold zG4;rw [Heap.size_push,z3]
  have g5:(zG5 s.heap l1 l2).get? (zG4 s.heap l1 l2).objs.size=some {cls:=.type "zip",data:=.fields #[.none,.bool false,.bool false,.ref (zG2 s.heap l1 l2).objs.size,.ref (zG3 s.heap l1 l2).objs.size]}:=Heap.get?_push_size _ rfl
  have g4:(zG5 s.heap l1 l2).get? (zG3 s.heap l1 l2).objs.size=some {cls:=.type "tuple",data:=.seq #[.none,.none]}:=Heap.get?_push_of_some _ (Heap.get?_push_size _ rfl)
  have g3:(zG5 s.heap l1 l2).get? (zG2 s.heap l1 l2).objs.size=some {cls:=.type "tuple",data:=.seq #[.ref s.heap.objs.size,.ref (s.heap.push (tIt l1)).objs.size]}:=Heap.get?_push_of_some _ (Heap.get?_push_of_some _ (Heap.get?_push_size _ rfl))
  have g2:(zG5 s.heap l1 l2).get? (s.heap.push (tIt l1)).objs.size=some (tIt l2):=Heap.get?_push_of_some _ (Heap.get?_push_of_some _ (Heap.get?_push_of_some _ (Heap.get?_push_size _ rfl)))
  have g1:(zG5 s.heap l1 l2).get? s.heap.objs.size=some (tIt l1):=Heap.get?_push_of_some _ (Heap.get?_push_of_some _ (Heap.get?_push_of_some _ (Heap.get?_push_of_some _ (Heap.get?_push_size _ rfl))))
  show _/\_
  rw [z2,z3,z4]at g5
  rw [z1,z2]at g3
  rw [z3]at g4
  rw [z1]at g2
  rw [z4]
  exact ⟨⟨_,g5,rfl⟩,q _ g5 g3 g4 (show Heap.IsTupleIter _ _ _ _ from ⟨_,g1,rfl,rfl⟩) (show Heap.IsTupleIter _ _ _ _ from ⟨_,g2,rfl,rfl⟩) fun b o x=>
   Heap.get?_push_of_some _ (Heap.get?_push_of_some _ (Heap.get?_push_of_some _ (Heap.get?_push_of_some _ (Heap.get?_push_of_some _ x))))⟩
end
end HT
namespace L2
open PySem PySem.Spec PyProof.Rows
noncomputable def du (c:Bool) (xs:List V):HO:=if c=true then .tup xs else .lst xs
theorem jW {c:Bool} {xs ys:List V} (h:du c xs=du c ys):xs=ys:=by
 cases c with
 | true=>exact HO.tup.inj h
 | false=>exact HO.lst.inj h
theorem Inv.seqS {X:Cx} {pins:List (Addr×Obj)} {σ:St} {H:Hp} {s:Shared} {c:Bool} {a:Addr} {xs:List V} (I:Inv X pins σ H s) (h:H a=some (du c xs)): ∃ its:List Value,Vals xs its/\HT.SSeq c s.heap a its.toArray/\xs.length<=sizeLine:=by
 cases c with
 | true=>obtain ⟨its,r,p,z⟩:=I.tuple (SqT.of (K:=X.K) h);exact ⟨its,r,p,z⟩
 | false=>obtain ⟨its,r,p,z⟩:=I.list (SqL.of (K:=X.K) h);exact ⟨its,r,p.isList,z⟩
noncomputable def Itz (c:Bool) (l1 l2:Addr):It:=
 ⟨fun i H=> ∃ xs ys x y,H l1=some (du c xs)/\H l2=some (du c ys)/\xs[i]? =some x/\ys[i]? =some y,
  fun i H v H'=> ∃ T x y,H T=none/\v=.ref T/\H'=upd H T (.tup [x,y])/\ ∀ xs ys,H l1=some (du c xs)->H l2=some (du c ys)->xs[i]? =some x/\ys[i]? =some y,
  fun i H=> ∃ xs ys,H l1=some (du c xs)/\H l2=some (du c ys)/\xs.length=i/\ys.length=i⟩
noncomputable def ZAt (c:Bool) (z TI TO i1 i2 l1 l2:Addr) (i:Nat) (h:Heap):Prop:=IsZip h z TI TO .none/\IsPair h TI (.ref i1) (.ref i2)/\(∃ a b,IsPair h TO a b)/\HT.SIter c h i1 l1 i/\HT.SIter c h i2 l2 i
theorem fp5 {z TI TO i1 i2 b:Addr} (h:b∈[z,TI,TO,i1,i2]):b=z\/b=TI\/b=TO\/b=i1\/b=i2:=by simpa using h
theorem oE {P:Program} {w:World} {K:PySem.W.Frag} {es:List Expr} {kk:Nat} {tpos:Pos} (c:Bool) (z TI TO i1 i2 l1 l2:Addr) (nd:[z,TI,TO,i1,i2].Nodup):
  l3 P w K (.Tuple es kk tpos) (Itz c l1 l2) [z,TI,TO,i1,i2] z (ZAt c z TI TO i1 i2 l1 l2):=by
 simp only [List.nodup_cons,List.mem_cons,List.not_mem_nil,or_false,not_or,List.nodup_nil,and_true]at nd
 obtain ⟨⟨n1,n2,n3,n4⟩,⟨n5,n6,n7⟩,⟨n8,n9⟩,n10,_⟩:=nd
 have ap: ∀ {X:Cx} {pins:List (Addr×Obj)} {H:Hp} {xs ys:List V},(∀ b∈[z,TI,TO,i1,i2],fP X pins H b)->H l1=some (du c xs)->H l2=some (du c ys)->
   HT.ZAp z TI TO i1 i2 [i1,l1] [i2,l2]/\l1≠i1/\l2≠i2:=by
  intro X pins H xs ys hf h1 h2
  have a: ∀ b∈[z,TI,TO,i1,i2],b≠l1/\b≠l2:=fun b hb=>⟨(ak h1 (hf b hb).1).symm,(ak h2 (hf b hb).1).symm⟩
  have az:=a z (by simp)
  have aO:=a TO (by simp)
  have a1:=a i1 (by simp)
  have a2:=a i2 (by simp)
  refine ⟨⟨Ne.symm n1,Ne.symm n2,Ne.symm n3,Ne.symm n4,n5,n6,n7,n8,n9,n10,?_,?_,?_,?_,?_,?_⟩,Ne.symm a1.1,Ne.symm a2.2⟩ <;> simp only [List.mem_cons,List.not_mem_nil,or_false,not_or]
  ·exact ⟨n3,az.1⟩
  ·exact ⟨n4,az.2⟩
  ·exact ⟨n8,aO.1⟩
  ·exact ⟨n9,aO.2⟩
  ·exact ⟨Ne.symm n10,a2.1⟩
  ·exact ⟨n10,a1.2⟩
 refine ⟨by simp,fun i h st b hb=>?_,fun i h h' st k=>?_,?_,?_,fun _ _ _ _ _ st h=>wpAny_pyIter_zip st.1 h⟩
 ·obtain ⟨h1,h2,⟨a,b',h3⟩,h4,h5⟩:=st
  rcases fp5 hb with rfl | rfl | rfl | rfl | rfl
  ·exact ⟨_,h1,fun v e=>nomatch e⟩
  ·exact ⟨_,h2,fun v e=>nomatch e⟩
  ·exact ⟨_,h3,fun v e=>nomatch e⟩
  ·exact h4.obj
  ·exact h5.obj
 ·obtain ⟨h1,h2,⟨a,b',h3⟩,h4,h5⟩:=st
  exact ⟨k z (by simp) _ h1,k TI (by simp) _ h2,⟨a,b',k TO (by simp) _ h3⟩,h4.at fun o e=>k i1 (by simp) o e,h5.at fun o e=>k i2 (by simp) o e⟩
 ·intro X hP hw hK hc i pins s σ H E I hf st hg
  subst hP hw hK
  obtain ⟨xs,ys,x,y,hx,hy,ex,ey⟩:=hg
  obtain ⟨its1,r1,q1,_⟩:=I.seqS hx
  obtain ⟨its2,r2,q2,_⟩:=I.seqS hy
  obtain ⟨u,hu,ru⟩:=r1.get ex
  obtain ⟨v,hv,rv⟩:=r2.get ey
  obtain ⟨z0,t0,⟨a,b,o0⟩,s1,s2⟩:=st
  obtain ⟨D,e1,e2⟩:=ap hf hx hy
  refine HT.next_zip (HT.draws_seq (A:=X.A.in1) c (I.ok.hd hc) i1 l1 e1 its1.toArray) (HT.draws_seq (A:=X.A.in1) c (I.ok.hd hc) i2 l2 e2 its2.toArray) D z0 t0 o0 ⟨s1,q1⟩ ⟨s2,q2⟩
   (by rw [List.size_toArray];exact (List.getElem?_eq_some_iff.mp hu).1) (by rw [List.size_toArray];exact (List.getElem?_eq_some_iff.mp hv).1) fun x' y' h' tk px py z1 o1 t1 t2 pr kk=>?_
  have ex':x'=u:=by
   have p1:its1[i]? =some x':=by simpa using px
   rw [hu]at p1;exact (Option.some.inj p1).symm
  have ey':y'=v:=by
   have p1:its2[i]? =some y':=by simpa using py
   rw [hv]at p1;exact (Option.some.inj p1).symm
  subst ex' ey'
  refine ⟨_,rfl,wpAny_letOwnedTupleGo_zip z1 fun h'' z2 sb=>?_⟩
  have lt: ∀ {b:Addr} {ob:Obj},s.heap.get? b=some ob->b≠s.heap.objs.size:=fun e=>Nat.ne_of_lt (Heap.lt_size e)
  have fT:H s.heap.objs.size=none:=I.hok.fresh (Nat.le_refl _)
  have keep: ∀ b ob,b∉[z,TO,i1,i2]->s.heap.get? b=some ob->h''.get? b=some ob:=fun b ob hb e=>by
   simp only [List.mem_cons,List.not_mem_nil,or_false,not_or]at hb
   exact sb.extBut b ob hb.1 (kk b ob hb.1 hb.2.1 hb.2.2.1 hb.2.2.2 e)
  have sub: ∀ b,b∈[z,TO,i1,i2]->b∈[z,TI,TO,i1,i2]:=fun b hb=>by
   simp only [List.mem_cons,List.not_mem_nil,or_false]at hb ⊢
   rcases hb with h | h | h | h
   ·exact .inl h
   ·exact .inr (.inr (.inl h))
   ·exact .inr (.inr (.inr (.inl h)))
   ·exact .inr (.inr (.inr (.inr h)))
  have trk: ∀ b uo,H b=some uo->b∉[z,TO,i1,i2]:=fun b uo e hb=>by rw [(hf b (sub b hb)).1]at e;cases e
  have ptT:IsPair h'' s.heap.objs.size x' y':=sb.extBut _ _ (Ne.symm (lt z0)) pr
  have I2:Inv X pins σ (upd H s.heap.objs.size (.tup [x,y])) {s with heap:=h'',toks:=tk}:=by
   refine I.step (g':=s.gens) (d':=s.drawn) (ch:=[z,TO,i1,i2]) (fun b hb=>?_) (fun b ob _ _ hb e _=>keep b ob hb e) (fun b ob _ _ hb e _=>⟨ob.slots,keep b ob hb e⟩) (fun b ob hb e n=>by rw [ah (lt e)];exact n)
    (fun b ob hb e=>⟨ob,keep b ob hb e⟩) (fun b zs e=>by rw [ah (ak e fT)];exact e) (fun b ob uo e=>by rw [ah (ak e fT)];exact e) (fun b ps e=>⟨#[],by rw [ah (ak e fT),e];simp⟩) (fun m hm=>?_) (fun b uo e=>?_) I.bare
   ·obtain ⟨_,f1,_,f3,f4,f5⟩:=hf b (sub b hb)
    exact ⟨f3,f1,f4,f5⟩
   ·obtain ⟨ob,es',ep,ho,r⟩:=hm
    exact ⟨ob,es',ep,keep _ ob (fun hb=>(hf _ (sub _ hb)).2.1 rfl) ho,r⟩
   ·by_cases hb:b=s.heap.objs.size
    ·subst hb
     rw [ad]at e
     cases e
     exact ⟨by show 2<=sizeLine;decide,[x',y'],.cons ru (.cons rv .nil),_,ptT,rfl,_,rfl⟩
    ·rw [ah hb]at e
     refine (I.hok b uo e).stay (fun c' v' hc' q=>keep c' v' ?_ q) (fun c' q=>by rw [ah (ak q fT)];exact q) fun c' zs q=>by rw [ah (ak q fT)];exact q
     rcases hc' with h | h
     ·rw [h];exact trk b uo e
     ·exact trk c' _ h
  refine ⟨.ref s.heap.objs.size,_,I2,rfl,⟨_,x,y,fT,rfl,rfl,fun xs' ys' h1 h2=>?_⟩,⟨z2,sb.extBut _ _ (Ne.symm n1) (kk _ _ (Ne.symm n1) n5 n6 n7 t0),⟨_,_,sb.extBut _ _ (Ne.symm n2) o1⟩,t1.1.at fun o e=>sb.extBut _ o (Ne.symm n3) e,t2.1.at fun o e=>sb.extBut _ o (Ne.symm n4) e⟩,fun b hb=>?_⟩
  ·rw [hx]at h1
   rw [hy]at h2
   rw [<- jW (Option.some.inj h1),<- jW (Option.some.inj h2)]
   exact ⟨ex,ey⟩
  ·have hb': ∃ ob,s.heap.get? b=some ob:=by
    rcases fp5 hb with rfl | rfl | rfl | rfl | rfl
    ·exact ⟨_,z0⟩
    ·exact ⟨_,t0⟩
    ·exact ⟨_,o0⟩
    ·obtain ⟨ob,e,_⟩:=s1.obj;exact ⟨ob,e⟩
    ·obtain ⟨ob,e,_⟩:=s2.obj;exact ⟨ob,e⟩
   obtain ⟨ob,e⟩:=hb'
   rw [ah (lt e)]
   exact (hf b hb).1
 ·intro X hP hw hK hc i pins s σ H E I hf st hg
  subst hP hw hK
  obtain ⟨xs,ys,hx,hy,l,l'⟩:=hg
  obtain ⟨its1,r1,q1,_⟩:=I.seqS hx
  obtain ⟨z0,t0,⟨a,b,o0⟩,s1,s2⟩:=st
  obtain ⟨D,e1,e2⟩:=ap hf hx hy
  have hi:i=its1.toArray.size:=by rw [List.size_toArray,<- l];exact r1.length
  rw [hi]at s1
  refine HT.end_zip (HT.draws_seq (A:=X.A.in1) c (I.ok.hd hc) i1 l1 e1 its1.toArray) D z0 t0 o0 ⟨s1,q1⟩ fun h' kk=>⟨rfl,?_⟩
  have keep: ∀ b ob,b∉[z,TO,i1,i2]->s.heap.get? b=some ob->h'.get? b=some ob:=fun b ob hb e=>by
   simp only [List.mem_cons,List.not_mem_nil,or_false,not_or]at hb
   exact kk b ob hb.1 hb.2.1 hb.2.2.1 hb.2.2.2 e
  have sub: ∀ b,b∈[z,TO,i1,i2]->b∈[z,TI,TO,i1,i2]:=fun b hb=>by
   simp only [List.mem_cons,List.not_mem_nil,or_false]at hb ⊢
   rcases hb with h | h | h | h
   ·exact .inl h
   ·exact .inr (.inr (.inl h))
   ·exact .inr (.inr (.inr (.inl h)))
   ·exact .inr (.inr (.inr (.inr h)))
  have trk: ∀ b uo,H b=some uo->b∉[z,TO,i1,i2]:=fun b uo e hb=>by rw [(hf b (sub b hb)).1]at e;cases e
  refine I.step (g':=s.gens) (d':=s.drawn) (t':=s.toks) (ch:=[z,TO,i1,i2]) (fun b hb=>?_) (fun b ob _ _ hb e _=>keep b ob hb e) (fun b ob _ _ hb e _=>⟨ob.slots,keep b ob hb e⟩) (fun b ob hb e n=>n)
   (fun b ob hb e=>⟨ob,keep b ob hb e⟩) (fun b zs e=>e) (fun b ob uo e=>e) (fun b ps e=>⟨#[],by rw [e];simp⟩) (fun m hm=>?_) (fun b uo e=>?_) I.bare
  ·obtain ⟨_,f1,_,f3,f4,f5⟩:=hf b (sub b hb)
   exact ⟨f3,f1,f4,f5⟩
  ·obtain ⟨ob,es',ep,ho,r⟩:=hm
   exact ⟨ob,es',ep,keep _ ob (fun hb=>(hf _ (sub _ hb)).2.1 rfl) ho,r⟩
  ·refine (I.hok b uo e).stay (fun c' v' hc' q=>keep c' v' ?_ q) (fun _ q=>q) fun _ _ q=>q
   rcases hc' with h | h
   ·rw [h];exact trk b uo e
   ·exact trk c' _ h
noncomputable def vn (ta:TA):TI:=fun σ H R=>ta σ H fun vs H1=> ∃ c l1 l2 xs ys,vs=[.ref l1,.ref l2]/\H1 l1=some (du c xs)/\H1 l2=some (du c ys)/\R (Itz c l1 l2) H1
theorem pz {X:Cx} {es:List Expr} {kk:Nat} {tpos:Pos} {a b:Expr} {ta:TA} {p pos:Pos} (hg:Gl X "zip") (hm:X.mg "zip"=none) (ha:PA X [a,b] ta) (hs:starEach [a,b] X.env=[(false,eval a X.env),(false,eval b X.env)]:=by rfl) (hs2:starEach [b] X.env=[(false,eval b X.env)]:=by rfl):
  PI X (.Tuple es kk tpos) (.Call (.Name "zip" p) [a,b] [] pos) (vn ta):=by
 intro pins s σ H R I h
 refine Call_ (dN I hg hm (show bootBuiltins "zip"=some (.type "zip") by decide +kernel) (PyProof.Rows.callWith_type1 (thn (ha pos pins s σ H _ I h) fun us s1 ⟨vs,H1,I1,r1,q1⟩=>?_) (by rw [hs,hs2]) (by rw [hs2];rfl)))
 obtain ⟨c,l1,l2,xs,ys,rfl,hx,hy,q⟩:=q1
 obtain ⟨u,v,rfl,ru,rv⟩:=gm r1
 cases (show u=Value.ref l1 from ru)
 cases (show v=Value.ref l2 from rv)
 obtain ⟨its1,_,e1,_⟩:=I1.seqS hx
 obtain ⟨its2,_,e2,_⟩:=I1.seqS hy
 refine HT.call_zipS e1 e2 fun h' a1 a2 a3 a4 a5 kp=>?_
 have I2:Inv X pins σ H1 {s1 with heap:=h'}:=I1.kept (t':=s1.toks) kp
 refine wpAny_pyIter_zip a1 ?_
 refine ⟨s1.heap.objs.size+4,[s1.heap.objs.size+4,s1.heap.objs.size+2,s1.heap.objs.size+3,s1.heap.objs.size,s1.heap.objs.size+1],_,_,H1,rfl,I2,oE c _ _ _ _ _ l1 l2 (by simp),⟨a1,a2,⟨_,_,a3⟩,a4,a5⟩,fun b hb=>?_,q⟩
 have hb':s1.heap.objs.size<=b:=by rcases fp5 hb with rfl | rfl | rfl | rfl | rfl <;> omega
 exact I1.fpOk hb' (I1.hok.fresh hb')
structure mH (sc0:Scope) (N0:List Str) (scope:Scope) (x x2:Str) (ys:List Str) (fr:List Nat):Prop where
 kind:scope.kind=.function
 nocell: ∀ y∈scope.names,y.2≠ .cell
 loc: ∀ y∈scope.names,y.2=.local->scope.names.lookup y.1=some .local
 xl:(aV sc0 scope).lookup x=some .local
 xl2:(aV sc0 scope).lookup x2=some .local
 free: ∀ y∈scope.names,y.2=.free->sc0.names.lookup y.1=some .cell
 nd:(x::x2::ys).Nodup
 len:ys.length=fr.length
 sl: ∀ q∈ys.zip fr,N0[q.2]? =some q.1/\sc0.names.lookup q.1=some .cell/\(aV sc0 scope).lookup q.1=some .cell
noncomputable def cG (X:Cx) (x x2:Str) (ys:List Str) (scope:Scope) (C:Addr) (s:Shared) (H:Hp) (ex:List Addr):Cx:=
 {X with N:=x::x2::ys,s₀:=s,H₀:=H,env:=compEnvC scope (br X.env.cells scope.names) C X.env,outer:=X.stack,stack:=X.stack,ex:=ex,fn:=fun _=>false,pn:=[],xe:=fun _ _=>False}
noncomputable def qG (fr:List Nat) (te:TE) (σ:St) (J:It) (H1:Hp) (Q:VK):Prop:=
 ∀ p,H1 p=none-> ∃ W:Nat->Nat->List V->Hp->Prop,(∃ m,W 0 m [] (upd H1 p (.lst [])))/\ ∀ i m ys H,W i m ys H->H p=some (.lst ys)/\
  ((J.stop i H/\Q (.ref p) H)\/(J.go i H/\ys.length<sizeLine/\ ∀ x H',J.yld i H x H'-> ∃ T v1 v2,x=.ref T/\H' T=some (.tup [v1,v2])/\te (some v1::some v2::bH fr σ) H' fun v H2=>
   H2 p=some (.lst ys)/\ ∃ m',m'<m/\W (i+1) m' (ys++[v]) (upd H2 p (.lst (ys++[v])))))
noncomputable def oK (wi:TI) (fr:List Nat) (te:TE):TE:=fun σ H Q=>wi σ H fun J H1=>qG fr te σ J H1 Q
section
variable {X:Cx} {x x2:Str} {px px2 tpos pos fpos:Pos} {kk:Nat} {iter elt:Expr} {scope sc0:Scope} {N0 ys:List Str} {fr:List Nat} {wi:TI} {te:TE} {pins:List (Addr×Obj)} {σ:St} {H:Hp} {s:Shared}
theorem lX {use:Option (Value->Sem Unit)} {Qv:Value->Shared->Prop} {Q:VK} (hcalm:X.calm=true) (hi:PI X (.Tuple [.Name x px,.Name x2 px2] kk tpos) iter wi) (hsc:X.env.scope=sc0) (hN:X.N=N0) (ok:mH sc0 N0 scope x x2 ys fr)
  (hE: ∀ C s H ex,PE (cG X x x2 ys scope C s H ex) elt te) (I:Inv X pins σ H s) (h:oK wi fr te σ H Q) (hs: ∀ v,foldedSetIterable iter X.env v=pure v)
  (fin: ∀ (p C:Addr) (H':Hp) (s':Shared) (m:Str->Option Value),Inv X pins σ H' s'->s'.heap.Ns C m->H' C=none->C≠X.env.locals->X.s₀.heap.objs.size<=C->(∀ y c,X.env.cells.lookup y=some c->c≠C)->(∀ q∈X.pn++pins,q.1≠C)->Q (.ref p) H'->
   compPost (model X.prog X.w) X.A X.xe use Qv (.ref p) C (.ok .next) s'):
  wpAny (model X.prog X.w) X.A (comprehension (.ListComp elt [⟨.Tuple [.Name x px,.Name x2 px2] kk tpos,iter,[],0⟩] scope pos) scope X.env fpos (newList []) false (eval iter X.env) use) Qv X.xe s:=by
 subst hsc hN
 have hkof: ∀ y,X.env.kindOf y=X.env.scope.names.lookup y:=fun y=>rfl
 have hfree: ∀ y∈scope.names,y.2=.free-> ∃ c,X.env.cells.lookup y.1=some c:=fun y hy e=>I.ok.has y.1 (.inl (ok.free y hy e))
 refine wpAny_comprehension_free (gs:=[]) rfl hs (cL hfree) ok.kind ok.loc (thn (hi pins s σ H _ I h) fun v s1 h1=>thn h1 fun itv s2 h2=>?_)
 obtain ⟨it,fp,tn,J,H2,e,I2,T,st2,f2,hp⟩:=h2
 subst e
 refine wpAny_newObj_type (wpAny_newFunctionEnv ok.nocell (by intro y hy;simp at hy) (fun h₁ hns₁ hsb₁=>?_) ok.kind)
 dsimp only at hns₁ hsb₁ ⊢
 have I3:Inv X pins σ (upd H2 s2.heap.objs.size (.lst [])) {s2 with heap:=s2.heap.push {cls:=.type "list",data:=.seq ([]:List Value).toArray}}:=
  I2.lnew (its:=[]) (ys:=[]) (t':=s2.toks) .nil (Nat.zero_le _)
 have hf2: ∀ b∈fp,b<s2.heap.objs.size:=fun b hb=>by
  obtain ⟨o,e,_⟩:=T.obj _ _ st2 b hb
  exact Heap.lt_size e
 have hps:s2.heap.objs.size< (s2.heap.push {cls:=.type "list",data:=.seq ([]:List Value).toArray}).objs.size:=by rw [Heap.size_push];exact Nat.lt_succ_self _
 have W0:=hp s2.heap.objs.size I2.fresh
 have st3:tn 0 (s2.heap.push {cls:=.type "list",data:=.seq ([]:List Value).toArray}):=T.keep _ _ _ st2 fun b hb o e=>Heap.get?_push_of_some _ e
 generalize hpp:s2.heap.objs.size=p at I3 W0 hf2 hps ⊢
 generalize hh3:(s2.heap.push {cls:=.type "list",data:=.seq ([]:List Value).toArray})=h3 at I3 hns₁ hsb₁ hps st3 ⊢
 generalize hH3:upd H2 p (.lst [])=H3 at I3 W0
 have hold: ∀ b o,h3.get? b=some o->h₁.get? b=some o:=fun b o e=>hsb₁.extBut b o (Nat.ne_of_lt (Heap.lt_size e)) (Heap.get?_push_of_some _ e)
 have fH3: ∀ b∈fp,H3 b=none:=fun b hb=>by
  rw [<- hH3,ah (Nat.ne_of_lt (hf2 b hb))]
  exact (f2 b hb).1
 have hclos: ∀ y c,(br X.env.cells scope.names).lookup y=some c->X.env.cells.lookup y=some c:=fun y c e=>bE e
 have hcell3: ∀ y c,X.env.cells.lookup y=some c->c<h3.objs.size:=fun y c e=>by
  obtain ⟨v,o,ho,_⟩:=I3.cell y c e
  exact Heap.lt_size ho
 have hlt3:X.env.locals<h3.objs.size:=I3.lt
 have Yok:(cG X x x2 ys scope h3.objs.size {s2 with heap:=h3} H3 fp).Ok:={
  mod:=I.ok.mod
  kind:=ok.kind
  glob:=I.ok.glob
  blt:=I.ok.blt
  above:=Nat.le_refl _
  inj:=fun y z c e1 e2=>I.ok.inj y z c (hclos _ _ e1) (hclos _ _ e2)
  has:=fun y hk=>by
   have hfr:(y,NameKind.free)∈scope.names:=by
    have hm: ∃ k,(aV X.env.scope scope).lookup y=some k/\(k=.cell\/k=.free):=by
     rcases hk with hk | hk
     ·exact ⟨_,hk,.inl rfl⟩
     ·exact ⟨_,hk,.inr rfl⟩
    obtain ⟨k,hk,hkk⟩:=hm
    have hmem:=mem_of_lookup hk
    unfold aV at hmem
    obtain ⟨⟨n,k0⟩,hn,en⟩:=List.mem_map.mp hmem
    dsimp only at en
    split at en
    ·rename_i hc
     simp only [Bool.and_eq_true]at hc
     have hk0:k0=.free:=by simpa using hc.1.1
     cases en
     rw [<- hk0]
     exact hn
    ·cases en
     rcases hkk with e | e
     ·exact absurd e (ok.nocell _ hn)
     ·rw [<- e]
      exact hn
   obtain ⟨c,hc⟩:=hfree _ hfr rfl
   exact ⟨c,ck hc hfr⟩
  cab:=fun y c hf _=>by cases hf
  hd:=I.ok.hd
  frames:=I.ok.frames
  stk:=.inl rfl
  exf:=fun b hb=>⟨fun e=>absurd (hf2 b hb) (by rw [e];exact Nat.not_lt.mpr (Nat.le_of_lt hps)),fun y c e=>(f2 b hb).2.2.2.2.1 y c (hclos _ _ e)⟩
  bs:=fun b o e=>⟨(I3.bs b o e).1,(I3.bs b o e).2⟩
  bsz:=Nat.le_trans I.ok.bsz I3.sz
  noex:=fun b o e hb=>by
   rcases (f2 b hb).2.2.2.1 with q | q
   ·exact I.ok.noex b o e q
   ·have h1:b<X.base.objs.size:=Heap.lt_size e
    exact absurd h1 (Nat.not_lt.mpr (Nat.le_trans I.ok.bsz q))
  exfs:=fun b hb hm=>by
   rcases List.mem_cons.mp (I3.stkSub b hm)with q | q
   ·exact (f2 b hb).2.1 q
   ·exact (f2 b hb).2.2.1 q
  funs:=I3.stack
  frf:=I3.stkFree}
 have IY:Inv (cG X x x2 ys scope h3.objs.size {s2 with heap:=h3} H3 fp) [] (none::none::bH fr σ) H3 {s2 with heap:=h₁,toks:=s2.toks+ ([]:List (Str×Value)).length}:={
  ok:=Yok
  os:=rfl
  bare:=I2.bare
  base:=Un.kept hold
  loc:=by
   refine ⟨_,hns₁,fun i y v hy hv hvis=>?_⟩
   match i,hy,hv with
   | 0,_,hv=>cases hv
   | 1,_,hv=>cases hv
   | j+2,hy,hv=>
    have hy':ys[j]? =some y:=hy
    have hv':(bH fr σ)[j]? =some (some v):=hv
    unfold bH at hv'
    rw [List.getElem?_map]at hv'
    obtain ⟨i0,hi0,hv0⟩:=Option.map_eq_some_iff.mp hv'
    have hz:(y,i0)∈ys.zip fr:=by
     refine List.mem_iff_getElem?.mpr ⟨j,?_⟩
     rw [List.getElem?_zip_eq_some]
     exact ⟨hy',hi0⟩
    obtain ⟨hn,hk,hk2⟩:=ok.sl _ hz
    have hσ:σ[i0]? =some (some v):=by
     cases e:σ[i0]? with
     | none=>rw [e]at hv0;cases hv0
     | some o=>
      rw [e]at hv0
      rw [show o=some v from hv0]
    obtain ⟨m,hm,hl⟩:=I3.loc
    obtain ⟨u,ru,lk⟩:=hl i0 y v hn hσ (.inr (.inl hk))
    refine ⟨u,ru,.inr ⟨.inl hk2,?_⟩⟩
    rcases lk with ⟨a,_⟩ | ⟨_,c,hc,hcell⟩
    ·have a':X.env.scope.names.lookup y=some .local:=a
     have hk':X.env.scope.names.lookup y=some .cell:=hk
     rw [hk']at a'
     cases a'
    ·have hfr:(y,NameKind.free)∈scope.names:=by
      have hmem:=mem_of_lookup hk2
      unfold aV at hmem
      obtain ⟨⟨n,k0⟩,hn0,en⟩:=List.mem_map.mp hmem
      dsimp only at en
      split at en
      ·rename_i hc0
       simp only [Bool.and_eq_true]at hc0
       have hk0:k0=.free:=by simpa using hc0.1.1
       cases en
       rw [<- hk0]
       exact hn0
      ·cases en
       exact absurd rfl (ok.nocell _ hn0)
     exact ⟨c,ck hc hfr,hcell.keeps hold⟩
  cell:=fun y c e=>by
   obtain ⟨v,hv⟩:=I3.cell y c (hclos _ _ e)
   exact ⟨v,hv.keeps hold⟩
  free:=I3.fresh
  freeC:=fun y c e=>I3.freeC y c (hclos _ _ e)
  pin:=fun q hq=>by cases hq
  hok:=I3.hok.kept hold
  len:=by
   show (none::none::bH fr σ).length=(x::x2::ys).length
   rw [List.length_cons,List.length_cons,List.length_cons,List.length_cons,ok.len]
   unfold bH
   rw [List.length_map]}
 have hxl:(cG X x x2 ys scope h3.objs.size {s2 with heap:=h3} H3 fp).env.scope.names.lookup x=some .local:=ok.xl
 have hxl2:(cG X x x2 ys scope h3.objs.size {s2 with heap:=h3} H3 fp).env.scope.names.lookup x2=some .local:=ok.xl2
 have pgx:PG (cG X x x2 ys scope h3.objs.size {s2 with heap:=h3} H3 fp) (.Tuple [.Name x px,.Name x2 px2] kk tpos) (uK X.K 2 (qd (fH 0) (qd (fH 1) uL))):=
  eW hcalm (aT (aL (i:=0) ok.nd rfl (.inl hxl) (.inr hxl)) (aT (aL (i:=1) ok.nd rfl (.inl hxl2) (.inr hxl2)) dL))
 have pel:=hE h3.objs.size {s2 with heap:=h3} H3 fp
 obtain ⟨W,⟨m0,w0⟩,turn⟩:=W0
 have stat: ∀ {H':Hp},(∀ b∈fp,H' b=none)-> ∀ b∈fp,fP (cG X x x2 ys scope h3.objs.size {s2 with heap:=h3} H3 fp) [] H' b:=fun hn b hb=>
  ⟨hn b hb,(Yok.exf b hb).1,Yok.exfs b hb,.inl hb,(Yok.exf b hb).2,fun q hq=>by cases hq⟩
 have loop:codeAny (model X.prog X.w) X.A (.compLoop (.ListComp elt [⟨.Tuple [.Name x px,.Name x2 px2] kk tpos,iter,[],0⟩] scope pos) 0 (.ref it) (.ref p) (compEnvC scope (br X.env.cells scope.names) h3.objs.size X.env))
   (compPost (model X.prog X.w) X.A X.xe use Qv (.ref p) h3.objs.size) {s2 with heap:=h₁,toks:=s2.toks+ ([]:List (Str×Value)).length}:=by
  refine eS (fun n s'=> ∃ i zs v0 w0 H',Inv (cG X x x2 ys scope h3.objs.size {s2 with heap:=h3} H3 fp) [] (v0::w0::bH fr σ) H' s'/\tn i s'.heap/\(∀ b∈fp,H' b=none)/\W i n zs H') ?_ m0
   ⟨0,[],none,none,H3,IY,T.keep _ _ _ st3 fun b hb o e=>hold b o e,fH3,w0⟩
  rintro n s5 ⟨i,zs,v0,wv0,H5,I5,st5,fr5,w5⟩
  obtain ⟨hacc,turn5⟩:=turn i n zs H5 w5
  rcases turn5 with ⟨stop,qn⟩ | ⟨go,hlen,step⟩
  ·refine thn (T.done (cG X x x2 ys scope h3.objs.size {s2 with heap:=h3} H3 fp) rfl rfl rfl hcalm i [] s5 _ H5 _ I5 (stat fr5) st5 stop) fun r s6 ⟨hr,I6⟩=>?_
   subst hr
   obtain ⟨m6,n6,_⟩:=I6.loc
   refine fin p h3.objs.size H5 s6 m6 (I3.call' I6.os I6.base I6.hok I6.bare fun b hb=>⟨(f2 b hb).2.2.2.1,(f2 b hb).2.1,(f2 b hb).2.2.2.2.1,(f2 b hb).2.2.2.2.2⟩) n6 I6.free (Nat.ne_of_gt hlt3) I3.sz (fun y c e=>Nat.ne_of_lt (hcell3 y c e)) (fun q hq=>?_) qn
   exact Nat.ne_of_lt (Heap.lt_size (I3.pin q hq).1)
  ·refine thn (T.item (cG X x x2 ys scope h3.objs.size {s2 with heap:=h3} H3 fp) rfl rfl rfl hcalm i [] s5 _ H5 _ I5 (stat fr5) st5 go) fun r s6 ⟨u,hr,h6⟩=>?_
   subst hr
   refine thn h6 fun _ s7 ⟨xv,H7,I7,r7,y7,st7,fr7⟩=>?_
   have I7':=I7.pinned (stat fr7) (T.obj _ _ st7)
   obtain ⟨T7,v1,v2,eT,hT7,step7⟩:=step xv H7 y7
   refine thn (pgx _ s7 _ H7 xv u (fun σ' H'=>σ'=some v1::some v2::bH fr σ/\H'=H7) I7' r7 ⟨T7,[v1,v2],eT,SqT.of hT7,rfl,v1,[v2],rfl,v2,[],rfl,rfl,rfl,rfl⟩) fun _ s8 ⟨σ8,H8,I8,e8,e8'⟩=>?_
   subst e8 e8'
   refine thn (pel _ s8 _ H8 _ I8 step7) fun yv s9 ⟨v9,H9,I9,r9,hp9,m',hm',w9⟩=>?_
   refine thn (cv _ s9 _ H9 (.ref p) [v9] (.ref p) [yv] (fun _ H'=>H'=upd H9 p (.lst (zs++[v9]))) I9 rfl (.cons r9 .nil) ⟨p,zs,v9,rfl,rfl,hp9,hlen,rfl⟩) fun _ s10 ⟨_,H10,I10,_,e10⟩=>?_
   subst e10
   refine ⟨m',hm',i+1,zs++[v9],some v1,some v2,_,I10.unpinned,T.keep _ _ _ st7 fun b hb o e=>(I10.pin (b,o) (List.mem_append_right _ (List.mem_append_right _ (bq hb e)))).1,fun b hb=>?_,w9⟩
   obtain ⟨o,e,d⟩:=T.obj _ _ st7 b hb
   exact (I10.pin (b,o) (List.mem_append_right _ (List.mem_append_right _ (bq hb e)))).2.1
 exact codeAny_compStart_list loop (T.self X.A 0 _ _ _ (T.keep _ _ _ st3 fun b hb o e=>hold b o e) loop)
theorem pE (hcalm:X.calm=true) (hi:PI X (.Tuple [.Name x px,.Name x2 px2] kk tpos) iter wi) (hsc:X.env.scope=sc0) (hN:X.N=N0) (ok:mH sc0 N0 scope x x2 ys fr)
  (hE: ∀ C s H ex,PE (cG X x x2 ys scope C s H ex) elt te) (hs: ∀ v,foldedSetIterable iter X.env v=pure v:=by intro _;rfl):
  PE X (.ListComp elt [⟨.Tuple [.Name x px,.Name x2 px2] kk tpos,iter,[],0⟩] scope pos) (oK wi fr te):=by
 intro pins s σ H Q I h
 rw [eval_ListComp]
 refine lX (use:=none) (Qv:=EP X pins σ Q) (Q:=Q) hcalm hi hsc hN ok hE I h hs fun p C H' s' m I' hn h0 h1 h2 h3 h4 q=>?_
 refine ⟨m,hn,fun h' sb=>⟨.ref p,H',I'.turned (t':=s'.toks) (fun b o hb e=>sb.extBut b o hb e) h0 (Ne.symm (Ne.symm h1)) (.inr h2) h3 h4,rfl,q⟩⟩
end
structure iK (ps ys:List Str) (sc:Scope):Prop where
 kind:sc.kind=.function
 co:sc.isCoroutine=false
 gen:sc.isGenerator=false
 nd:(ps++ys).Nodup
 par: ∀ x∈ps,sc.names.lookup x=some .local
 fre: ∀ y∈ys,sc.names.lookup y=some .free
 has: ∀ y∈sc.names,y.2=.free->y.1∈ys
 nocell: ∀ y∈sc.names,y.2≠ .cell
noncomputable def rY (P:Program) (w:World) (K:PySem.W.Frag) (mg:Str->Option Value) (base:Heap) (N:List Str) (qual:Str) (scope:Scope) (fl:Addr) (cd:Value) (cl:List (Str×Addr)) (A:Around) (outer:List Env) (s:Shared) (H:Hp):Cx where
 prog:=P
 w:=w
 K:=K
 mg:=mg
 base:=base
 A:=A.deeper (PySem.W.envX qual scope s.heap.objs.size fl cd cl)
 N:=N
 s₀:=s
 H₀:=H
 env:=PySem.W.envX qual scope s.heap.objs.size fl cd cl
 outer:=outer
 stack:=PySem.W.envX qual scope s.heap.objs.size fl cd cl::outer
 ex:=[]
 calm:=true
 fn:=fun _=>false
 pn:=[]
 xe:=fun _ _=>False
theorem fE {α β:Type} [BEq α] [LawfulBEq α] {k:α} {v:β}: ∀ {l:List (α×β)},(l.map (·.1)).Nodup->(k,v)∈l->l.lookup k=some v
 | [],_,h=>by cases h
 | (a,b)::r,nd,h=>by
  rw [List.map_cons,List.nodup_cons]at nd
  rw [List.lookup_cons]
  rcases List.mem_cons.mp h with e | e
  ·cases e
   simp
  ·have ne:(k==a)=false:=beq_eq_false_iff_ne.mpr fun z=>nd.1 (by rw [<- z];exact List.mem_map.mpr ⟨(k,v),e,rfl⟩)
   rw [ne]
   exact fE nd.2 e
theorem gT {ps:List Str} {us:List Value} {i:Nat} {x:Str} {u:Value} (nd:ps.Nodup) (h1:ps[i]? =some x) (h2:us[i]? =some u):(ps.zip us).reverse.lookup x=some u:=by
 refine fE ?_ (List.mem_reverse.mpr (List.mem_iff_getElem?.mpr ⟨i,by rw [List.getElem?_zip_eq_some];exact ⟨h1,h2⟩⟩))
 rw [List.map_reverse]
 refine List.pairwise_reverse.mpr (List.Pairwise.imp (fun h=>Ne.symm h) (show List.Pairwise (· ≠ ·) _ from ?_))
 have:(ps.zip us).map (·.1)=ps.take us.length:=by
  clear nd h1 h2
  induction ps generalizing us with
  | nil=>simp
  | cons p r ih=>
   cases us with
   | nil=>simp
   | cons w t=>simp [ih]
 rw [this]
 exact nd.sublist (List.take_sublist _ _)
section
variable {X:Cx} {pins:List (Addr×Obj)} {σ:St} {H:Hp} {s:Shared}
noncomputable def dw (X:Cx) (H:Hp) (s:Shared):Heap:=PySem.W.hideAll s.heap (trk s.heap H++frs X.stack)
theorem dg {b:Addr} {o:Obj} (e:s.heap.get? b=some o) (n:H b=none) (nf:b∉frs X.stack):(dw X H s).get? b=some o:=
 PySem.W.hideAll_get _ e fun hm=>by
  rcases List.mem_append.mp hm with z | z
  ·have q:(H b).isSome=true:=(List.mem_filter.mp z).2
   rw [n]at q;simp at q
  ·exact nf z
theorem nJ {b:Addr} {o:Obj} (e:(dw X H s).get? b=some o):s.heap.get? b=some o/\H b=none:=by
 have e1:=PySem.W.of_hideAll _ e
 refine ⟨e1,?_⟩
 cases q:H b with
 | none=>rfl
 | some u=>
  have hm:b∈trk s.heap H++frs X.stack:=List.mem_append_left _ (List.mem_filter.mpr ⟨List.mem_range.mpr (Heap.lt_size e1),by rw [q];rfl⟩)
  rw [show (dw X H s).get? b=none from PySem.W.hideAll_none _ hm]at e
  cases e
theorem mr {h b1 b2:Heap}: ∀ {l:List Env},h.FunFrames b1 l->(∀ b∈frs l,b2.get? b=none)->h.FunFrames b2 l
 | [],_,_=>trivial
 | env::r,⟨hk,⟨L,o,hf,_,ho,hd⟩,hr⟩,hn=>by
  have hL:L∈frs (env::r):=by unfold frs;rw [List.filterMap_cons,hf];exact List.mem_cons_self
  exact ⟨hk,⟨L,o,hf,hn L hL,ho,hd⟩,mr hr fun b hb=>hn b (by unfold frs;rw [List.filterMap_cons,hf];exact List.mem_cons_of_mem _ hb)⟩
theorem Inv.nostk (I:Inv X pins σ H s) {b:Addr} {o:Obj} (e:X.base.get? b=some o):b∉frs X.stack:=fun hb=>by
 have:=(I.stack.mem hb).1
 rw [e]at this
 cases this
theorem Inv.inB (I:Inv X pins σ H s): ∀ b o,X.base.get? b=some o->(dw X H s).get? b=some o:=fun b o e=>dg (I.bs b o e).1 (I.bs b o e).2 (I.nostk e)
theorem Inv.envB (I:Inv X pins σ H s):qC X.prog X.w X.K X.mg (dw X H s) X.A X.stack s H:=
 ⟨I.ok.frames,⟨I.mod.kin.keeps I.inB,I.mod.glob.keeps I.inB,let ⟨mb,h1,h2⟩:=I.mod.blt;⟨mb,h1.keeps I.inB,h2⟩,I.mod.nolimit.keeps I.inB⟩,fun b o e=>nJ e,Nat.le_of_eq (PySem.W.hideAll_size _ _),
  mr I.stack fun b hb=>PySem.W.hideAll_none _ (List.mem_append_right _ hb),I.stkFree,I.hok,I.bare⟩
theorem mh {k:Nat} {f:Addr} {fd:FuncData} {ps:List Str} {sp:Sp} {Q:VK} {us:List Value} {vs:List V} (F:ay X.prog X.w X.K X.mg (dw X H s) CX0 k f fd ps sp) (hr:Room k X.A) (hb:Binds X.K fd ps [])
  (I:Inv X pins σ H s) (r:Vals vs us) (h:sp vs H Q E0):wpAny (model X.prog X.w) X.A (call (.ref f) us) (EP X pins σ Q) X.xe s:=by
 have hl:(us++[]).length=ps.length:=by rw [List.append_nil,<- r.length];exact F.len _ _ _ _ h
 have hbd:=hb s us I.kIn hl
 rw [List.append_nil]at hbd
 refine wpAny_call (codeAny_mono (F.run X.A X.stack s H ⟨us,[]⟩ us vs Q E0 hr I.envB hbd r h) fun rr s' hq=>?_)
 cases rr with
 | error e=>exact hq.elim
 | ok f0=>
  cases f0 with
  | ret u=>exact I.after hq
  | next=>exact False.elim hq
  | brk=>exact False.elim hq
  | cont=>exact False.elim hq
end
noncomputable def rZ (base:Heap) (cl:List (Str×Addr)) (ys:List Str) (cs:List V) (fl c':Addr) (nm qual:Str) (params:Arguments) (body:Expr) (scope:Scope):Prop:=
 (∃ pm ctv,base.get? fl=some (PySem.W.kla_obj nm qual params body scope cl pm c' ctv))/\(∀ x c,cl.lookup x=some c-> ∃ v,base.IsCell c v)/\(∀ x y c,cl.lookup x=some c->cl.lookup y=some c->x=y)/\
 (∀ (j:Nat) (y:Str),ys[j]? =some y-> ∃ c v u,cs[j]? =some v/\cl.lookup y=some c/\base.IsCell c (some u)/\RelV v u)/\cs.length=ys.length
structure eC (sc0:Scope) (N:List Str) (scope:Scope) (ys:List Str) (fr:List Nat):Prop where
 free: ∀ y∈scope.names,y.2=.free->sc0.names.lookup y.1=some .cell
 len:ys.length=fr.length
 sl: ∀ q∈ys.zip fr,N[q.2]? =some q.1/\sc0.names.lookup q.1=some .cell/\(q.1,NameKind.free)∈scope.names
noncomputable def dh (c':Addr) (oc:Obj):HO:=.ext fun h=>h.get? c'=some oc
noncomputable def cj (oc:Obj) (qual:Str):Prop:= ∃ vc tq,oc.data=.fields vc/\vc[1]? =some (.str qual tq)
section
variable {X:Cx} {pins:List (Addr×Obj)} {σ:St} {H:Hp} {s:Shared}
theorem pW {ys:List Str} {fr:List Nat} {cs:List V} {scope:Scope} {fl c':Addr} {nm qual:Str} {params:Arguments} {body:Expr} {pm ctv:Value} (I:Inv X pins σ H s) (ok:eC X.env.scope X.N scope ys fr) (hcs:bH fr σ=cs.map some)
  (hfl:s.heap.get? fl=some (PySem.W.kla_obj nm qual params body scope (br X.env.cells scope.names) pm c' ctv)) (nfl:H fl=none) (nof1:fl∉frs X.stack) (hfn: ∀ x,X.fn x=true):
  rZ (dw X H s) (br X.env.cells scope.names) ys cs fl c' nm qual params body scope:=by
 have nocell: ∀ {x:Str} {c:Addr},X.env.cells.lookup x=some c->c∉frs X.stack:=fun {x c} e hm=>by
  rcases List.mem_cons.mp (I.stkSub c hm)with z | z
  ·exact I.cne x c e z
  ·obtain ⟨_,o,ho,_⟩:=I.ok.funs.mem z
   exact absurd (Nat.lt_of_lt_of_le (Heap.lt_size ho) (I.ok.cab x c (hfn x) e)) (Nat.lt_irrefl _)
 have cellB: ∀ x c v,X.env.cells.lookup x=some c->s.heap.IsCell c v->(dw X H s).IsCell c v:=fun x c v e hc=>by
  have nf:=nocell e
  obtain ⟨o,ho,hd⟩:=hc
  exact ⟨o,dg ho (I.freeC x c e) nf,hd⟩
 refine ⟨⟨pm,ctv,dg hfl nfl nof1⟩,fun x c e=>?_,fun x y c e1 e2=>I.ok.inj x y c (bE e1) (bE e2),fun j y hj=>?_,?_⟩
 ·have e':=bE e
  obtain ⟨v,hv⟩:=I.cell x c e'
  exact ⟨v,cellB x c v e' hv⟩
 ·have hjl:j<fr.length:=by rw [<- ok.len];exact (List.getElem?_eq_some_iff.mp hj).1
  have hi0:fr[j]? =some fr[j]:=List.getElem?_eq_getElem hjl
  have hz:(y,fr[j])∈ys.zip fr:=List.mem_iff_getElem?.mpr ⟨j,by rw [List.getElem?_zip_eq_some];exact ⟨hj,hi0⟩⟩
  obtain ⟨hn,hk,hm⟩:=ok.sl _ hz
  have hc0:(bH fr σ)[j]? =some ((σ[fr[j]]?).join):=by unfold bH;rw [List.getElem?_map,hi0];rfl
  rw [hcs,List.getElem?_map]at hc0
  cases hcj:cs[j]? with
  | none=>rw [hcj]at hc0;cases hc0
  | some v=>
   rw [hcj]at hc0
   have hσ:σ[fr[j]]? =some (some v):=by
    cases e:σ[fr[j]]? with
    | none=>rw [e]at hc0;cases hc0
    | some o=>rw [e]at hc0;rw [show o=some v from (Option.some.inj hc0).symm]
   obtain ⟨m,_,hl⟩:=I.loc
   obtain ⟨u,ru,lk⟩:=hl _ y v hn hσ (.inr (.inl hk))
   rcases lk with ⟨a,_⟩ | ⟨_,c,hc,hcell⟩
   ·have a':X.env.scope.names.lookup y=some .local:=a
    rw [show X.env.scope.names.lookup y=some .cell from hk]at a'
    cases a'
   ·exact ⟨c,v,u,rfl,ck hc hm,cellB y c _ hc hcell,ru⟩
 ·have:=congrArg List.length hcs
  unfold bH at this
  rw [List.length_map,List.length_map]at this
  rw [ok.len]
  exact this.symm
end
noncomputable def qw (h:Heap) (mg:Str->Option Value) (nm:Str) (c Pt:Addr):Prop:=(∃ a o fd,mg nm=some (.ref a)/\h.get? a=some o/\o.data=.func fd/\fd.code=.ref c)/\PySem.W.CodeHd h c Pt
theorem nR {P:Program} {w:World} {K:PySem.W.Frag} {mg mb:Str->Option Value} {k:Nat} {fa a c Pt:Addr} {fd:FuncData} {x nm:Str} {sp:Sp} {s₁:Shared} {vs:List Value} {ns:List Int}
  (KX:K.In s₁.heap) (hns:s₁.heap.Ns mainGlobals mg) (hb:s₁.heap.Ns builtinsNs mb) (hbb: ∀ x:Str,x≠"__name__"->mb x=bootBuiltins x) (hlim:s₁.heap.NoLimit) (hg:s₁.gens= #[])
  (ha:s₁.heap.get? a=some {cls:=.type "list",data:=.seq vs.toArray}) (hi:IntsAre vs ns) (hl:ns.length<=sizeLine) (hr:Room k callerA)
  (hC:PySem.W.CodeHd s₁.heap c Pt) (hP:s₁.heap.get? Pt=some (PySem.W.tabObj #[])) (hB:s₁.heap.BuiltinsAt mg Pt) (hKt:K.lookup Pt=none)
  (F: ∀ base:Heap,K.In base->base.Ns mainGlobals mg->PySem.W.CodeHd base c Pt->base.BuiltinsAt mg Pt->ay P w K mg base CX0 k fa fd [x] sp) (hbind: ∀ (s:Shared) (u:Value),BindsTo s fd ⟨[u],[]⟩ [(x,u)])
  (hsp: ∀ H:Hp,H Pt=some (.tbl #[])->SqL K H a (ns.map V.int)->sp [.ref a] H (fun v _=>v=.bl true) E0):
  codeAny (model P w) callerA (.call (.ref fa) ⟨[.ref a],[]⟩) (fun r s'=>r=.ok (.ret (.bool true))/\OldK s₁.heap s'.heap/\s'.os=s₁.os/\AllBare s'.gens) s₁:=by
 have rv:=iR hi
 have lenV:=hi.length
 have haP:a≠Pt:=fun z=>by rw [z,hP]at ha;cases ha
 have core: ∀ H:Hp,H Pt=some (.tbl #[])->SqL K H a (ns.map V.int)->HOk P w H s₁.heap->(∀ b,H b≠none->b=a\/b=Pt)->(H a≠none->K.lookup a=none)->(∀ u,H a=some u-> ∃ xs,u=.frz {cls:=.type "list",data:=.seq vs.toArray} (.lst xs))->
   codeAny (model P w) callerA (.call (.ref fa) ⟨[.ref a],[]⟩) (fun r s'=>r=.ok (.ret (.bool true))/\OldK s₁.heap s'.heap/\s'.os=s₁.os/\AllBare s'.gens) s₁:=by
  intro H hH hS hok hA hK hfr
  have un0: ∀ {b:Addr} {o:Obj},s₁.heap.get? b=some o->o≠{cls:=.type "list",data:=.seq vs.toArray}->o≠PySem.W.tabObj #[]->H b=none:=fun {b o} e n1 n2=>by
   cases q:H b with
   | none=>rfl
   | some u=>
    rcases hA b (by rw [q];simp)with z | z
    ·subst z;rw [ha]at e;exact absurd (Option.some.inj e).symm n1
    ·subst z;rw [hP]at e;exact absurd (Option.some.inj e).symm n2
  have inB: ∀ {b:Addr} {o:Obj},s₁.heap.get? b=some o->H b=none->(iy s₁.heap H).get? b=some o:=fun e n=>qa e n
  have dictB: ∀ {b:Addr} {m:Str->Option Value},s₁.heap.Ns b m->(iy s₁.heap H).Ns b m:=fun {b m} ⟨o,es,ep,e,d,r⟩=>⟨o,es,ep,inB e (un0 e (fun z=>by rw [z]at d;cases d) (fun z=>by rw [z]at d;cases d)),d,r⟩
  have hKb:K.In (iy s₁.heap H):=fun b o e=>inB (KX b o e) (by
   cases q:H b with
   | none=>rfl
   | some u=>
    rcases hA b (by rw [q];simp)with z | z
    ·subst z;rw [hK (by rw [q];simp)]at e;cases e
    ·subst z;rw [hKt]at e;cases e)
  have hCb:PySem.W.CodeHd (iy s₁.heap H) c Pt:=by
   obtain ⟨o,vs',file,tf,flags,tg,inF,text,tt,e1,e2,r⟩:=hC
   exact ⟨o,vs',file,tf,flags,tg,inF,text,tt,inB e1 (un0 e1 (fun z=>by rw [z]at e2;exact absurd e2 (by simp)) (fun z=>by rw [z]at e2;exact absurd e2 (by simp))),e2,r⟩
  have hBb:(iy s₁.heap H).BuiltinsAt mg Pt:=by
   obtain ⟨bm,o,b1,b2,b3,b4,b5,b6,r⟩:=hB
   exact ⟨bm,o,b1,b2,b3,b4,inB b5 (un0 b5 (fun z=>by rw [z]at b6;exact absurd b6 (by simp)) (fun z=>by rw [z]at b6;exact absurd b6 (by simp))),b6,r⟩
  have hM:Mod K mg (iy s₁.heap H):=⟨hKb,dictB hns,⟨mb,dictB hb,hbb⟩,let ⟨mc,h1,h2⟩:=hlim;⟨mc,dictB h1,h2⟩⟩
  have e0:qC P w K mg (iy s₁.heap H) callerA [] s₁ H:=⟨rfl,hM,fun b o e=>q8 e,Nat.le_of_eq (nZ _ _),trivial,fun b hb=>absurd (show b∈([]:List Addr)from hb) (by simp),hok,.of_eq hg⟩
  refine codeAny_mono ((F _ hKb (dictB hns) hCb hBb).run callerA [] s₁ H ⟨[.ref a],[]⟩ [.ref a] [.ref a] _ _ hr e0 (hbind s₁ (.ref a)) (.cons rfl .nil) (hsp H hH hS)) fun r s' h=>?_
  cases r with
  | error e=>exact h.elim
  | ok fl=>
   cases fl with
   | next=>exact False.elim h
   | brk=>exact False.elim h
   | cont=>exact False.elim h
   | ret u=>
    obtain ⟨v,H',os,bare,un,hok',r',q⟩:=h
    have q':v=.bl true:=q
    subst q'
    obtain rfl:u=Value.bool true:=r'
    have tab: ∃ more:Array Value,s'.heap.get? Pt=some (PySem.W.tabObj (#[]++more)):=by
     obtain ⟨more,e⟩:=un.tbls Pt _ hH
     exact ⟨more,(show ObjOk P w H' s'.heap Pt (.tbl (#[]++more))from hok' Pt _ e)⟩
    have old: ∀ b o,b≠Pt->s₁.heap.get? b=some o->s'.heap.get? b=some o:=fun b o hbP e=>by
     cases q:H b with
     | none=>exact un.keep b o e q (by intro z;exact absurd (show b∈([]:List Addr)from z) (by simp)) (by simp)
     | some u=>
      rcases hA b (by rw [q];simp)with z | z
      ·subst z
       obtain ⟨xs,rfl⟩:=hfr u q
       obtain ⟨e1,_⟩:=hok' b _ (un.frzs b _ _ q)
       rw [ha]at e
       rw [<- Option.some.inj e]
       exact e1
      ·exact absurd z hbP
    obtain ⟨more,ht⟩:=tab
    refine ⟨rfl,⟨fun b o e=>?_,fun b o e=>?_⟩,os,bare⟩
    ·by_cases hbP:b=Pt
     ·subst hbP
      rw [hP]at e
      cases e
      obtain ⟨oc,vs',file,tf,flags,tg,inF,text,tt,e1,e2,e3,e4,_⟩:=hC
      exact .inr (.inl ⟨⟨c,oc,vs',e1,e2,e3,e4⟩,rfl,#[],more,rfl,ht⟩)
     ·exact .inl (old b o hbP e)
    ·by_cases hbP:b=Pt
     ·subst hbP;exact ⟨_,ht⟩
     ·exact ⟨o,old b o hbP e⟩
 cases hk:K.lookup a with
 | some o=>
  have e:=KX a o hk
  rw [ha]at e
  cases e
  refine core (fun b=>if b=Pt then some (.tbl #[])else none) (if_pos rfl) (.inr ⟨_,vs.toArray,_,hk,rfl,rfl,rfl,by rw [List.size_toArray,lenV];exact hl,by simpa using rv⟩) (fun b u z=>?_) (fun b z=>?_) (fun z=>absurd (if_neg haP) z) fun u z=>?_
  ·by_cases hb:b=Pt
   ·have z':=(if_pos hb).symm.trans z
    cases z'
    subst hb
    exact hP
   ·have z':=(if_neg hb).symm.trans z
    cases z'
  ·by_cases hb:b=Pt
   ·exact .inr hb
   ·exact absurd (if_neg hb) z
  ·have z':=(if_neg haP).symm.trans z
   cases z'
 | none=>
  have hPa: ¬ Pt=a:=fun z=>haP z.symm
  refine core (fun b=>if b=a then some (.frz {cls:=.type "list",data:=.seq vs.toArray} (.lst (ns.map V.int)))else if b=Pt then some (.tbl #[])else none) (by rw [if_neg hPa,if_pos rfl]) (.inl (.inr ⟨{cls:=.type "list",data:=.seq vs.toArray},if_pos rfl⟩)) (fun b u z=>?_) (fun b z=>?_) (fun _=>hk) fun u z=>?_
  ·by_cases hb:b=a
   ·have z':=(if_pos hb).symm.trans z
    cases z'
    subst hb
    exact ⟨ha,by rw [List.length_map];exact hl,vs,_,rv,ha⟩
   ·have z':=(if_neg hb).symm.trans z
    by_cases hb2:b=Pt
    ·have z2:=(if_pos hb2).symm.trans z'
     cases z2
     subst hb2
     exact hP
    ·have z2:=(if_neg hb2).symm.trans z'
     cases z2
  ·by_cases hb:b=a
   ·exact .inl hb
   ·by_cases hb2:b=Pt
    ·exact .inr hb2
    ·exact absurd (by rw [if_neg hb,if_neg hb2]) z
  ·have z':=(if_pos rfl).symm.trans z
   cases z'
   exact ⟨_,rfl⟩
theorem walk_ofT {l:PySem.W.OpenLaw} {n k:Nat} {q:Program} {loose:List Str} {XP:(Str->Option Value)->Heap->Prop} {YP:World->Heap->Prop} {d:DefRec} {K:Params->PySem.W.Frag} {sp:World->Addr->Sp} {x nm:Str}
  (hn:l.most=some n) (hn2:n<=sizeLine) (hdf:d.params.defaults=[]) (hr:Room k callerA) (hY: ∀ (w:World) (h:Heap),YP w h->(K w.params).In h) (hrec: ∃ e∈recsOf q,e.name=nm) (hKt: ∀ w:World,PySem.W.noTabs (K w.params)=true)
  (F: ∀ (w:World) (mg:Str->Option Value) (fa c Pt:Addr) (h:Heap),(K w.params).In h->h.Ns mainGlobals mg->mg d.name=some (.ref fa)->qw h mg nm c Pt->
   ∃ fd:FuncData,(∀ (s:Shared) (u:Value),BindsTo s fd ⟨[u],[]⟩ [(x,u)])/\ ∀ base:Heap,(K w.params).In base->base.Ns mainGlobals mg->PySem.W.CodeHd base c Pt->base.BuiltinsAt mg Pt->ay l.prog w (K w.params) mg base CX0 k fa fd [x] (sp w Pt))
  (hsp: ∀ (w:World) (Pt:Addr) (H:Hp) (a:Addr) (ns:List Int),ns.length<=n->H Pt=some (.tbl #[])->SqL (K w.params) H a (ns.map V.int)->sp w Pt [.ref a] H (fun v _=>v=.bl true) E0):
  PySem.W.WalkO q loose XP YP l.row.toRowW d [] (fun f vs=>PySem.call f vs):=by
 refine Att.attach_call hn hdf fun w s₀ s₁ mg mb fa o pm cd doc a vs ns G Y ho hd hcd hmg hobj hints hlen hg=>?_
 have KX:=hY w _ Y
 obtain ⟨e,he,rfl⟩:=hrec
 obtain ⟨a1,o1,fd1,c,Pt,t1,t2,t3,t4,t5,t6⟩:=G.T.tab e he
 have hC:=PySem.W.CodeHd.of t5 t6
 obtain ⟨fd,hb,hF⟩:=F w mg fa c Pt _ KX G.T.g hmg ⟨⟨a1,o1,fd1,t1,t2,t3,t4⟩,hC⟩
 obtain ⟨bm,ob,b1,b2,b3,b4,b5,b6⟩:=G.T.bmain
 have hP:s₁.heap.get? Pt=some (PySem.W.tabObj #[]):=t6.2
 have n1:bm≠mainGlobals:=fun z=>by
  obtain ⟨og,es,ep,e1,e2,_⟩:=G.T.g
  rw [z,e1]at b3
  cases b3
  rw [e2]at b6
  cases b6
 have n2:bm≠Pt:=fun z=>by
  rw [z,hP]at b3
  cases b3
  cases b4
 have hB:s₁.heap.BuiltinsAt mg Pt:=⟨bm,ob,b1,b2,n1,n2,b3,b4,b5,b6⟩
 have hKn:(K w.params).lookup Pt=none:=by
  cases q':(K w.params).lookup Pt with
  | none=>rfl
  | some ok=>
   have e1:=KX _ _ q'
   rw [hP]at e1
   have e2:=Option.some.inj e1
   have h2:=List.all_eq_true.mp (hKt w) (Pt,ok) (PySem.W.mem_of_lookupK q')
   subst e2
   exact absurd (show false=true from h2) Bool.false_ne_true
 exact nR (nm:=e.name) KX G.T.g G.T.b G.T.builtins G.T.nolimit hg hobj hints (Nat.le_trans hlen hn2) hr hC hP hB hKn hF hb fun H h1 h2=>hsp w Pt H a ns hlen h1 h2
section
variable {prog:Program} {w:World} {A:Around} {R:Result->Shared->Prop} {s:Shared}
theorem iE {elt target iter cnd:Expr} {scope:Scope} {pos:Pos} {it acc:Value} {env:Env} (I:Nat->Shared->Prop)
  (turn: ∀ n s,I n s->wpAny (model prog w) A (pyNext it) (fun r s₁=>match r with
   | none=>R (.ok .next) s₁
   | some v=>wpAny (model prog w) A (letOwnedTupleGo target it v) (fun _ s₁'=>wpAny (model prog w) A (assign target env v) (fun _ s₂=>wpAny (model prog w) A (isTrue cnd env (eval cnd env)) (fun ok s₃=>
     if ok=true then wpAny (model prog w) A (eval elt env) (fun x s₄=>
      wpAny (model prog w) A (call (.builtin "list.append") [acc,x]) (fun _ s₅=> ∃ m,m<n/\I m s₅) (fun _ _=>False) s₄) (fun _ _=>False) s₃
     else ∃ m,m<n/\I m s₃) (fun _ _=>False) s₂) (fun _ _=>False) s₁') (fun _ _=>False) s₁) (fun _ _=>False) s)
  (n:Nat) (h:I n s):codeAny (model prog w) A (.compLoop (.ListComp elt [⟨target,iter,[cnd],0⟩] scope pos) 0 it acc env) R s:=by
 refine codeAny_loop rfl I (fun n s hI=>?_) n h
 show wpAny _ _ ((compTurn (.ListComp elt [⟨target,iter,[cnd],0⟩] scope pos) 0 it acc env).onRaise (fun x=>do noteFrame x env;theTreesLotGoes x)) _ _ s
 refine wpAny_noted ?_
 rw [compTurn_list]
 refine wpAny_noRaise ?_
 refine wpAny_bind (wpAny_standAt (wpAny_bind (wpAny_mono (turn n s hI) (fun r s₁ h₁=>?_) fun _ _ h'=>h')))
 cases r with
 | none=>exact wpAny_pure h₁
 | some v=>
  refine wpAny_bind (wpAny_mono h₁ (fun _ s₁' h₁'=>?_) fun _ _ h'=>h')
  refine wpAny_bind (wpAny_mono h₁' (fun _ s₂ h₂=>wpAny_bind (wpAny_mono (wpAny_tests_one h₂) (fun ok s₃ h₃=>?_) fun _ _ h'=>h')) fun _ _ h'=>h')
  cases ok with
  | false=>exact wpAny_pure ⟨rfl,h₃⟩
  | true=>
   exact wpAny_bind (wpAny_bind (wpAny_mono h₃ (fun x s₄ h₄=>wpAny_bind (wpAny_mono h₄ (fun _ s₅ h₅=>wpAny_pure (wpAny_pure ⟨rfl,h₅⟩)) fun _ _ h'=>h')) fun _ _ h'=>h'))
end
noncomputable def l8 (fr:List Nat) (tc:TT) (te:TE) (σ:St) (J:It) (H1:Hp) (Q:VK):Prop:=
 ∀ p,H1 p=none-> ∃ W:Nat->Nat->List V->Hp->Prop,(∃ m,W 0 m [] (upd H1 p (.lst [])))/\ ∀ i m ys H,W i m ys H->H p=some (.lst ys)/\
  ((J.stop i H/\Q (.ref p) H)\/(J.go i H/\ys.length<sizeLine/\ ∀ x H',J.yld i H x H'->tc (some x::bH fr σ) H' fun b H2=>if b=true then te (some x::bH fr σ) H2 fun v H3=>
   H3 p=some (.lst ys)/\ ∃ m',m'<m/\W (i+1) m' (ys++[v]) (upd H3 p (.lst (ys++[v])))else ∃ m',m'<m/\W (i+1) m' ys H2))
noncomputable def li (wi:TI) (fr:List Nat) (tc:TT) (te:TE):TE:=fun σ H Q=>wi σ H fun J H1=>l8 fr tc te σ J H1 Q
section
variable {X:Cx} {x:Str} {px pos fpos:Pos} {iter elt cnd:Expr} {scope sc0:Scope} {N0 ys:List Str} {fr:List Nat} {wi:TI} {tc:TT} {te:TE} {pins:List (Addr×Obj)} {σ:St} {H:Hp} {s:Shared}
theorem iD {use:Option (Value->Sem Unit)} {Qv:Value->Shared->Prop} {Q:VK} (hcalm:X.calm=true) (hi:PI X (.Name x px) iter wi) (hsc:X.env.scope=sc0) (hN:X.N=N0) (ok:fi sc0 N0 scope x ys fr)
  (hT: ∀ C s H ex,PT (aZ X x ys scope C s H ex) cnd tc) (hE: ∀ C s H ex,PE (aZ X x ys scope C s H ex) elt te) (I:Inv X pins σ H s) (h:li wi fr tc te σ H Q) (hs: ∀ v,foldedSetIterable iter X.env v=pure v)
  (fin: ∀ (p C:Addr) (H':Hp) (s':Shared) (m:Str->Option Value),Inv X pins σ H' s'->s'.heap.Ns C m->H' C=none->C≠X.env.locals->X.s₀.heap.objs.size<=C->(∀ y c,X.env.cells.lookup y=some c->c≠C)->(∀ q∈X.pn++pins,q.1≠C)->Q (.ref p) H'->
   compPost (model X.prog X.w) X.A X.xe use Qv (.ref p) C (.ok .next) s'):
  wpAny (model X.prog X.w) X.A (comprehension (.ListComp elt [⟨.Name x px,iter,[cnd],0⟩] scope pos) scope X.env fpos (newList []) false (eval iter X.env) use) Qv X.xe s:=by
 subst hsc hN
 have hkof: ∀ y,X.env.kindOf y=X.env.scope.names.lookup y:=fun y=>rfl
 have hfree: ∀ y∈scope.names,y.2=.free-> ∃ c,X.env.cells.lookup y.1=some c:=fun y hy e=>I.ok.has y.1 (.inl (ok.free y hy e))
 refine wpAny_comprehension_free (gs:=[]) rfl hs (cL hfree) ok.kind ok.loc (thn (hi pins s σ H _ I h) fun v s1 h1=>thn h1 fun itv s2 h2=>?_)
 obtain ⟨it,fp,tn,J,H2,e,I2,T,st2,f2,hp⟩:=h2
 subst e
 refine wpAny_newObj_type (wpAny_newFunctionEnv ok.nocell (by intro y hy;simp at hy) (fun h₁ hns₁ hsb₁=>?_) ok.kind)
 dsimp only at hns₁ hsb₁ ⊢
 have I3:Inv X pins σ (upd H2 s2.heap.objs.size (.lst [])) {s2 with heap:=s2.heap.push {cls:=.type "list",data:=.seq ([]:List Value).toArray}}:=
  I2.lnew (its:=[]) (ys:=[]) (t':=s2.toks) .nil (Nat.zero_le _)
 have hf2: ∀ b∈fp,b<s2.heap.objs.size:=fun b hb=>by
  obtain ⟨o,e,_⟩:=T.obj _ _ st2 b hb
  exact Heap.lt_size e
 have hps:s2.heap.objs.size< (s2.heap.push {cls:=.type "list",data:=.seq ([]:List Value).toArray}).objs.size:=by rw [Heap.size_push];exact Nat.lt_succ_self _
 have W0:=hp s2.heap.objs.size I2.fresh
 have st3:tn 0 (s2.heap.push {cls:=.type "list",data:=.seq ([]:List Value).toArray}):=T.keep _ _ _ st2 fun b hb o e=>Heap.get?_push_of_some _ e
 generalize hpp:s2.heap.objs.size=p at I3 W0 hf2 hps ⊢
 generalize hh3:(s2.heap.push {cls:=.type "list",data:=.seq ([]:List Value).toArray})=h3 at I3 hns₁ hsb₁ hps st3 ⊢
 generalize hH3:upd H2 p (.lst [])=H3 at I3 W0
 have hold: ∀ b o,h3.get? b=some o->h₁.get? b=some o:=fun b o e=>hsb₁.extBut b o (Nat.ne_of_lt (Heap.lt_size e)) (Heap.get?_push_of_some _ e)
 have fH3: ∀ b∈fp,H3 b=none:=fun b hb=>by
  rw [<- hH3,ah (Nat.ne_of_lt (hf2 b hb))]
  exact (f2 b hb).1
 have hclos: ∀ y c,(br X.env.cells scope.names).lookup y=some c->X.env.cells.lookup y=some c:=fun y c e=>bE e
 have hcell3: ∀ y c,X.env.cells.lookup y=some c->c<h3.objs.size:=fun y c e=>by
  obtain ⟨v,o,ho,_⟩:=I3.cell y c e
  exact Heap.lt_size ho
 have hlt3:X.env.locals<h3.objs.size:=I3.lt
 have Yok:(aZ X x ys scope h3.objs.size {s2 with heap:=h3} H3 fp).Ok:={
  mod:=I.ok.mod
  kind:=ok.kind
  glob:=I.ok.glob
  blt:=I.ok.blt
  above:=Nat.le_refl _
  inj:=fun y z c e1 e2=>I.ok.inj y z c (hclos _ _ e1) (hclos _ _ e2)
  has:=fun y hk=>by
   have hfr:(y,NameKind.free)∈scope.names:=by
    have hm: ∃ k,(aV X.env.scope scope).lookup y=some k/\(k=.cell\/k=.free):=by
     rcases hk with hk | hk
     ·exact ⟨_,hk,.inl rfl⟩
     ·exact ⟨_,hk,.inr rfl⟩
    obtain ⟨k,hk,hkk⟩:=hm
    have hmem:=mem_of_lookup hk
    unfold aV at hmem
    obtain ⟨⟨n,k0⟩,hn,en⟩:=List.mem_map.mp hmem
    dsimp only at en
    split at en
    ·rename_i hc
     simp only [Bool.and_eq_true]at hc
     have hk0:k0=.free:=by simpa using hc.1.1
     cases en
     rw [<- hk0]
     exact hn
    ·cases en
     rcases hkk with e | e
     ·exact absurd e (ok.nocell _ hn)
     ·rw [<- e]
      exact hn
   obtain ⟨c,hc⟩:=hfree _ hfr rfl
   exact ⟨c,ck hc hfr⟩
  cab:=fun y c hf _=>by cases hf
  hd:=I.ok.hd
  frames:=I.ok.frames
  stk:=.inl rfl
  exf:=fun b hb=>⟨fun e=>absurd (hf2 b hb) (by rw [e];exact Nat.not_lt.mpr (Nat.le_of_lt hps)),fun y c e=>(f2 b hb).2.2.2.2.1 y c (hclos _ _ e)⟩
  bs:=fun b o e=>⟨(I3.bs b o e).1,(I3.bs b o e).2⟩
  bsz:=Nat.le_trans I.ok.bsz I3.sz
  noex:=fun b o e hb=>by
   rcases (f2 b hb).2.2.2.1 with q | q
   ·exact I.ok.noex b o e q
   ·have h1:b<X.base.objs.size:=Heap.lt_size e
    exact absurd h1 (Nat.not_lt.mpr (Nat.le_trans I.ok.bsz q))
  exfs:=fun b hb hm=>by
   rcases List.mem_cons.mp (I3.stkSub b hm)with q | q
   ·exact (f2 b hb).2.1 q
   ·exact (f2 b hb).2.2.1 q
  funs:=I3.stack
  frf:=I3.stkFree}
 have IY:Inv (aZ X x ys scope h3.objs.size {s2 with heap:=h3} H3 fp) [] (none::bH fr σ) H3 {s2 with heap:=h₁,toks:=s2.toks+ ([]:List (Str×Value)).length}:={
  ok:=Yok
  os:=rfl
  bare:=I2.bare
  base:=Un.kept hold
  loc:=by
   refine ⟨_,hns₁,fun i y v hy hv hvis=>?_⟩
   cases i with
   | zero=>cases hv
   | succ j=>
    have hy':ys[j]? =some y:=hy
    have hv':(bH fr σ)[j]? =some (some v):=hv
    unfold bH at hv'
    rw [List.getElem?_map]at hv'
    obtain ⟨i0,hi0,hv0⟩:=Option.map_eq_some_iff.mp hv'
    have hz:(y,i0)∈ys.zip fr:=by
     refine List.mem_iff_getElem?.mpr ⟨j,?_⟩
     rw [List.getElem?_zip_eq_some]
     exact ⟨hy',hi0⟩
    obtain ⟨hn,hk,hk2⟩:=ok.sl _ hz
    have hσ:σ[i0]? =some (some v):=by
     cases e:σ[i0]? with
     | none=>rw [e]at hv0;cases hv0
     | some o=>
      rw [e]at hv0
      rw [show o=some v from hv0]
    obtain ⟨m,hm,hl⟩:=I3.loc
    obtain ⟨u,ru,lk⟩:=hl i0 y v hn hσ (.inr (.inl hk))
    refine ⟨u,ru,.inr ⟨.inl hk2,?_⟩⟩
    rcases lk with ⟨a,_⟩ | ⟨_,c,hc,hcell⟩
    ·have a':X.env.scope.names.lookup y=some .local:=a
     have hk':X.env.scope.names.lookup y=some .cell:=hk
     rw [hk']at a'
     cases a'
    ·have hfr:(y,NameKind.free)∈scope.names:=by
      have hmem:=mem_of_lookup hk2
      unfold aV at hmem
      obtain ⟨⟨n,k0⟩,hn0,en⟩:=List.mem_map.mp hmem
      dsimp only at en
      split at en
      ·rename_i hc0
       simp only [Bool.and_eq_true]at hc0
       have hk0:k0=.free:=by simpa using hc0.1.1
       cases en
       rw [<- hk0]
       exact hn0
      ·cases en
       exact absurd rfl (ok.nocell _ hn0)
     exact ⟨c,ck hc hfr,hcell.keeps hold⟩
  cell:=fun y c e=>by
   obtain ⟨v,hv⟩:=I3.cell y c (hclos _ _ e)
   exact ⟨v,hv.keeps hold⟩
  free:=I3.fresh
  freeC:=fun y c e=>I3.freeC y c (hclos _ _ e)
  pin:=fun q hq=>by cases hq
  hok:=I3.hok.kept hold
  len:=by
   show (none::bH fr σ).length=(x::ys).length
   rw [List.length_cons,List.length_cons,ok.len]
   unfold bH
   rw [List.length_map]}
 have hxl:(aZ X x ys scope h3.objs.size {s2 with heap:=h3} H3 fp).env.scope.names.lookup x=some .local:=ok.xl
 have pgx:PG (aZ X x ys scope h3.objs.size {s2 with heap:=h3} H3 fp) (.Name x px) (fH 0):=aL (i:=0) ok.nd rfl (.inl hxl) (.inr hxl)
 have pel:=hE h3.objs.size {s2 with heap:=h3} H3 fp
 have ptl:=hT h3.objs.size {s2 with heap:=h3} H3 fp
 obtain ⟨W,⟨m0,w0⟩,turn⟩:=W0
 have stat: ∀ {H':Hp},(∀ b∈fp,H' b=none)-> ∀ b∈fp,fP (aZ X x ys scope h3.objs.size {s2 with heap:=h3} H3 fp) [] H' b:=fun hn b hb=>
  ⟨hn b hb,(Yok.exf b hb).1,Yok.exfs b hb,.inl hb,(Yok.exf b hb).2,fun q hq=>by cases hq⟩
 have loop:codeAny (model X.prog X.w) X.A (.compLoop (.ListComp elt [⟨.Name x px,iter,[cnd],0⟩] scope pos) 0 (.ref it) (.ref p) (compEnvC scope (br X.env.cells scope.names) h3.objs.size X.env))
   (compPost (model X.prog X.w) X.A X.xe use Qv (.ref p) h3.objs.size) {s2 with heap:=h₁,toks:=s2.toks+ ([]:List (Str×Value)).length}:=by
  refine iE (fun n s'=> ∃ i zs v0 H',Inv (aZ X x ys scope h3.objs.size {s2 with heap:=h3} H3 fp) [] (v0::bH fr σ) H' s'/\tn i s'.heap/\(∀ b∈fp,H' b=none)/\W i n zs H') ?_ m0
   ⟨0,[],none,H3,IY,T.keep _ _ _ st3 fun b hb o e=>hold b o e,fH3,w0⟩
  rintro n s5 ⟨i,zs,v0,H5,I5,st5,fr5,w5⟩
  obtain ⟨hacc,turn5⟩:=turn i n zs H5 w5
  rcases turn5 with ⟨stop,qn⟩ | ⟨go,hlen,step⟩
  ·refine thn (T.done (aZ X x ys scope h3.objs.size {s2 with heap:=h3} H3 fp) rfl rfl rfl hcalm i [] s5 _ H5 _ I5 (stat fr5) st5 stop) fun r s6 ⟨hr,I6⟩=>?_
   subst hr
   obtain ⟨m6,n6,_⟩:=I6.loc
   refine fin p h3.objs.size H5 s6 m6 (I3.call' I6.os I6.base I6.hok I6.bare fun b hb=>⟨(f2 b hb).2.2.2.1,(f2 b hb).2.1,(f2 b hb).2.2.2.2.1,(f2 b hb).2.2.2.2.2⟩) n6 I6.free (Nat.ne_of_gt hlt3) I3.sz (fun y c e=>Nat.ne_of_lt (hcell3 y c e)) (fun q hq=>?_) qn
   exact Nat.ne_of_lt (Heap.lt_size (I3.pin q hq).1)
  ·refine thn (T.item (aZ X x ys scope h3.objs.size {s2 with heap:=h3} H3 fp) rfl rfl rfl hcalm i [] s5 _ H5 _ I5 (stat fr5) st5 go) fun r s6 ⟨u,hr,h6⟩=>?_
   subst hr
   refine thn h6 fun _ s7 ⟨xv,H7,I7,r7,y7,st7,fr7⟩=>?_
   have I7':=I7.pinned (stat fr7) (T.obj _ _ st7)
   refine thn (pgx _ s7 _ H7 xv u (fun σ' H'=>σ'=some xv::bH fr σ/\H'=H7) I7' r7 ⟨rfl,rfl⟩) fun _ s8 ⟨σ8,H8,I8,e8,e8'⟩=>?_
   subst e8 e8'
   refine thn (ptl _ s8 _ H8 _ I8 (step xv H8 y7)) fun bb s8' ⟨H8',I8',hb⟩=>?_
   cases bb with
   | false=>
    obtain ⟨m',hm',w9⟩:=hb
    refine ⟨m',hm',i+1,zs,some xv,_,I8'.unpinned,T.keep _ _ _ st7 fun b hb o e=>(I8'.pin (b,o) (List.mem_append_right _ (List.mem_append_right _ (bq hb e)))).1,fun b hb=>?_,w9⟩
    obtain ⟨o,e,d⟩:=T.obj _ _ st7 b hb
    exact (I8'.pin (b,o) (List.mem_append_right _ (List.mem_append_right _ (bq hb e)))).2.1
   | true=>
   refine thn (pel _ s8' _ H8' _ I8' hb) fun yv s9 ⟨v9,H9,I9,r9,hp9,m',hm',w9⟩=>?_
   refine thn (cv _ s9 _ H9 (.ref p) [v9] (.ref p) [yv] (fun _ H'=>H'=upd H9 p (.lst (zs++[v9]))) I9 rfl (.cons r9 .nil) ⟨p,zs,v9,rfl,rfl,hp9,hlen,rfl⟩) fun _ s10 ⟨_,H10,I10,_,e10⟩=>?_
   subst e10
   refine ⟨m',hm',i+1,zs++[v9],some xv,_,I10.unpinned,T.keep _ _ _ st7 fun b hb o e=>(I10.pin (b,o) (List.mem_append_right _ (List.mem_append_right _ (bq hb e)))).1,fun b hb=>?_,w9⟩
   obtain ⟨o,e,d⟩:=T.obj _ _ st7 b hb
   exact (I10.pin (b,o) (List.mem_append_right _ (List.mem_append_right _ (bq hb e)))).2.1
 exact codeAny_compStart_list loop (T.self X.A 0 _ _ _ (T.keep _ _ _ st3 fun b hb o e=>hold b o e) loop)
theorem ie (hcalm:X.calm=true) (hi:PI X (.Name x px) iter wi) (hsc:X.env.scope=sc0) (hN:X.N=N0) (ok:fi sc0 N0 scope x ys fr)
  (hT: ∀ C s H ex,PT (aZ X x ys scope C s H ex) cnd tc) (hE: ∀ C s H ex,PE (aZ X x ys scope C s H ex) elt te) (hs: ∀ v,foldedSetIterable iter X.env v=pure v:=by intro _;rfl):
  PE X (.ListComp elt [⟨.Name x px,iter,[cnd],0⟩] scope pos) (li wi fr tc te):=by
 intro pins s σ H Q I h
 rw [eval_ListComp]
 refine iD (use:=none) (Qv:=EP X pins σ Q) (Q:=Q) hcalm hi hsc hN ok hT hE I h hs fun p C H' s' m I' hn h0 h1 h2 h3 h4 q=>?_
 refine ⟨m,hn,fun h' sb=>⟨.ref p,H',I'.turned (t':=s'.toks) (fun b o hb e=>sb.extBut b o hb e) h0 (Ne.symm (Ne.symm h1)) (.inr h2) h3 h4,rfl,q⟩⟩
theorem ic {i:Nat} {y:Str} {py spos:Pos} (hcalm:X.calm=true) (hnd:X.N.Nodup) (hiN:X.N[i]? =some y) (hy:Loc X.env.scope y) (hi:PI X (.Name x px) iter wi) (hsc:X.env.scope=sc0) (hN:X.N=N0) (ok:fi sc0 N0 scope x ys fr)
  (hT: ∀ C s H ex,PT (aZ X x ys scope C s H ex) cnd tc) (hE: ∀ C s H ex,PE (aZ X x ys scope C s H ex) elt te) (hsw:swapsWith (.ListComp elt [⟨.Name x px,iter,[cnd],0⟩] scope pos) (some (.Name y py)) spos.line X.env=pure true:=by rfl)
  (hs: ∀ v,foldedSetIterable iter X.env v=pure v:=by intro _;rfl) (hf:X.fn y=true\/X.env.scope.names.lookup y=some .local:=by first | exact .inl rfl | exact .inr rfl | assumption):
  PS X (.Assign [.Name y py] (.ListComp elt [⟨.Name x px,iter,[cnd],0⟩] scope pos) spos) (oN (li wi fr tc te) (fH i)):=by
 intro pins s σ H D I h
 rw [exec_Assign_Name_used _ _ _ _ hsw]
 refine wpAny_bind (wpAny_standAt (wpAny_bind ?_))
 show wpAny _ X.A (do let _ <- comprehension (.ListComp elt [⟨.Name x px,iter,[cnd],0⟩] scope pos) scope X.env _ (newList []) false (eval iter X.env) (some (assign (.Name y py) X.env))) _ _ s
 refine wpAny_bind (thn (iD (use:=some (assign (.Name y py) X.env)) (Qv:=fun _ s'=>SP X pins D .next s') (Q:=fun v H'=>D.nx (σ.set i (some v)) H') hcalm hi hsc hN ok hT hE I h hs fun p C H' s' m I' hn h0 h1 h2 h3 h4 q=>?_) fun _ s' hq=>wpAny_pure (wpAny_pure hq))
 show wpAny _ X.A (assign (.Name y py) X.env (.ref p)) _ _ s'
 refine wpAny_assign_Name (fQ (v:=.ref p) I' hnd hiN hy rfl (fun s'' I'' ⟨a,sb,ha⟩=>?_) hf)
 have hCa:C≠a:=by
  rcases ha with e | e
  ·rw [e];exact h1
  ·exact (h3 y a e).symm
 refine ⟨m,hn.sameBut sb hCa,fun h' sb'=>⟨_,H',I''.turned (t':=s''.toks) (fun b o hb e=>sb'.extBut b o hb e) h0 h1 (.inr h2) h3 h4,q⟩⟩
end
section
variable {X:Cx}
theorem pH:OpR X (binaryOp .Add) (fun x y H Q=> ∃ a b xs ys,x=.ref a/\y=.ref b/\SqT X.K H a xs/\SqT X.K H b ys/\xs.length+ys.length<=sizeLine/\(xs=[]->Q (.ref b) H)/\(xs≠[]->ys=[]->Q (.ref a) H)/\
  (xs≠[]->ys≠[]-> ∀ p,H p=none->Q (.ref p) (upd H p (.tup (xs++ys))))):=by
 intro pins s σ H x y v u Q I rx ry h
 obtain ⟨a,b,xs,ys,rfl,rfl,ha,hb,hz,q0,q1,q2⟩:=h
 by_cases hx:xs=[]
 ·subst hx
  cases rx
  cases ry
  obtain ⟨its,r1,p1,_⟩:=I.tuple ha
  obtain ⟨its2,r2,p2,_⟩:=I.tuple hb
  cases r1
  obtain ⟨⟨cls,dd,data,sl⟩,ho,hc,n,hd⟩:=id p1
  obtain ⟨⟨cls2,dd2,data2,sl2⟩,ho2,hc2,n2,hd2⟩:=id p2
  simp only at hc hd hc2 hd2
  subst hc hd hc2 hd2
  exact concat_meets ⟨_,ho,rfl⟩ ⟨_,ho2,rfl⟩ noFill_tuple_add seq_tuple_add PySem.F.slot_tuple_add PySem.F.entry_tuple_add (PySem.F.args_tuple_add_2 _ _)
   (tuple_addW0 a b #[] its2.toArray n n2 dd dd2 sl sl2 rfl) ⟨ho,ho2,⟨.ref b,H,I,rfl,q0 rfl⟩⟩
 ·exact qV pins s σ H _ _ v u Q I rx ry ⟨a,b,xs,ys,rfl,rfl,ha,hb,hx,hz,q1 hx,q2 hx⟩
end
section
variable {base G h h':Heap}
theorem jz {env:Env} {r:List Env} {L:Addr} (hf:env.frame=some L):L∈frs (env::r):=by
 unfold frs;rw [List.filterMap_cons,hf];exact List.mem_cons_self
theorem fD {env:Env} {r:List Env} {b:Addr} (hb:b∈frs r):b∈frs (env::r):=by
 unfold frs;rw [List.filterMap_cons]
 cases env.frame with
 | none=>exact hb
 | some L=>exact List.mem_cons_of_mem _ hb
theorem cT: ∀ {l:List Env},h.FunFrames base l->(∀ b∈frs l,G.get? b=none)->h.FunFrames G l
 | [],_,_=>trivial
 | _::_,⟨hk,⟨L,o,hf,_,ho,hd⟩,hr⟩,hg=>⟨hk,⟨L,o,hf,hg L (jz hf),ho,hd⟩,cT hr fun b hb=>hg b (fD hb)⟩
end
inductive Rec (h:Heap) (x C T:Addr):Prop
 | mk (oe:Obj) (vs:Array Value) (oT:Obj) (ts:Array Value) (he:h.get? x=some oe) (hc:oe.cls=.ref C) (hd:oe.data=.fields vs) (h1:vs[1]? =some (.ref T)) (ne:T≠x)
   (hT:h.get? T=some oT) (hdT:oT.data=.fields ts) (h3:ts[3]? =some .none):Rec h x C T
structure LeftF (l:List Env) (x C:Addr) (hs:List Addr) (h h':Heap):Prop where
 keep: ∀ b o,b≠x->b∉hs->b∉frs l->h.get? b=some o->h'.get? b=some o
 slot: ∀ b o,b∈frs l->h.get? b=some o-> ∃ sl,h'.get? b=some {o with slots:=sl}
 rc: ∃ T,Rec h' x C T/\(T∈hs\/h.get? T=none)
section
variable {base h h':Heap} {l:List Env} {x C:Addr} {hs:List Addr}
theorem LeftF.of (hl:h.FunFrames base l) (hL:(PySem.W.hideAll h (x::(hs++frs l))).Left l x (.ref C) h h'):LeftF l x C hs h h':=by
 obtain ⟨a1,_,⟨oe,vs,T,oT,ts,he,hc,hd,h1,hn,hTe,hT,hdT,h3⟩,a4⟩:=hL
 have slot: ∀ b o,b∈frs l->h.get? b=some o-> ∃ sl,h'.get? b=some {o with slots:=sl}:=fun b o hb e=>by
  obtain ⟨_,o',ho',hnf⟩:=hl.mem hb
  rw [e]at ho';cases ho'
  exact a4 b o e hnf
 refine ⟨fun b o n1 n2 n3 e=>a1 b o (PySem.W.hideAll_get _ e fun z=>?_),slot,T,.mk oe vs oT ts he hc hd h1 hTe hT hdT h3,?_⟩
 ·rcases List.mem_cons.mp z with z | z
  ·exact n1 z
  ·rcases List.mem_append.mp z with z | z
   ·exact n2 z
   ·exact n3 z
 ·cases q:h.get? T with
  | none=>exact .inr rfl
  | some o=>
   refine .inl ?_
   by_cases z:T∈x::(hs++frs l)
   ·rcases List.mem_cons.mp z with z | z
    ·exact absurd z hTe
    ·rcases List.mem_append.mp z with z | z
     ·exact z
     ·obtain ⟨_,o',ho',hnf⟩:=hl.mem z
      obtain ⟨sl,e2⟩:=slot T o' z ho'
      rw [hT]at e2
      cases e2
      exact absurd hdT (hnf ts)
   ·rw [PySem.W.hideAll_get _ q z]at hn;cases hn
end
section
variable {M:Model} {A:Around} {E:Value->Shared->Prop} {s:Shared} {base:Heap} {env:Env} {outer:List Env} {L x C T:Addr} {Q:Unit->Shared->Prop}
theorem ki {oe:Obj} {vs:Array Value} (hfr:A.frames=some (env::outer)) (hl:s.heap.FunFrames base (env::outer)) (hf:env.frame=some L) (he:s.heap.get? x=some oe) (hc:oe.cls=.ref C)
  (hd:oe.data=.fields vs) (h1:vs[1]? =some .none) (k: ∀ h',LeftF (env::outer) x C [] s.heap h'->Q () {s with heap:=h'}):wpAny M A (leaving env (.ref x)) Q E s:=
 wpAny_leaving_first (base:=PySem.W.hideAll s.heap (x::([]++frs (env::outer)))) hfr (cT hl fun b hb=>PySem.W.hideAll_none _ (List.mem_cons_of_mem _ hb)) hf he (fun _ _ e=>PySem.W.of_hideAll _ e)
  (PySem.W.hideAll_none _ List.mem_cons_self) hd h1 fun h' z=>k h' (.of hl (hc▸z))
end
theorem ObjOk.there {P:Program} {w:World} {H:Hp} {h:Heap} {a:Addr} {o:HO} (x:ObjOk P w H h a o): ∃ ob,h.get? a=some ob:=by
 cases o with
 | lst xs=>obtain ⟨_,_,_,_,e⟩:=x;exact ⟨_,e⟩
 | tup xs=>obtain ⟨_,_,_,ob,e,_⟩:=x;exact ⟨_,e⟩
 | dK kvs=>obtain ⟨_,_,_,_,o,_,_,e,_⟩:=x;exact ⟨_,e⟩
 | set S n=>obtain ⟨o,_,_,_,e,_⟩:=x;exact ⟨_,e⟩
 | ins C dx fs=>obtain ⟨_,_,_,e,_⟩:=x;exact ⟨_,e⟩
 | own y=>exact x
 | xd fs=>obtain ⟨_,⟨_,_,_,e,_⟩,_⟩:=x;exact ⟨_,e⟩
 | rng lo hi=>obtain ⟨_,_,_,e⟩:=x;exact ⟨_,e⟩
 | frz ob u=>obtain ⟨e,_⟩:=x;exact ⟨_,e⟩
 | tbl ps=>exact ⟨_,show h.get? a=some _ from x⟩
 | met f y=>exact ⟨_,show h.get? a=some _ from x⟩
 | ext φ=>obtain ⟨_,e,_⟩:=x;exact e
 | _=>obtain ⟨_,_,_,_,o,_,_,e,_⟩:=x;exact ⟨_,e⟩
theorem HOk.none_of {P:Program} {w:World} {H:Hp} {h:Heap} {a:Addr} (x:HOk P w H h) (e:h.get? a=none):H a=none:=by
 cases q:H a with
 | none=>rfl
 | some u=>obtain ⟨ob,z⟩:=(x a u q).there;rw [e]at z;cases z
inductive CX1 (P:Program) (w:World) (C:Addr) (outer:List Env) (H:Hp) (s:Shared) (E:XK) (e:Value) (s':Shared):Prop
 | mk (x T:Addr) (H':Hp) (he:e=.ref x) (os:s'.os=s.os) (bare:AllBare s'.gens) (un:Un (frs outer) [] H H' s.heap s'.heap) (hok:HOk P w H' s'.heap)
   (rc:Rec s'.heap x C T) (nx:s.heap.get? x=none) (nT:s.heap.get? T=none) (fx:H' x=none) (fT:H' T=none) (q:E (.ref C) none H'):CX1 P w C outer H s E e s'
section
variable {P:Program} {w:World} {K:PySem.W.Frag} {mg:Str->Option Value} {base:Heap} {N:List Str} {qual:Str} {scope:Scope} {f:Addr} {cd:Value} {A:Around} {outer:List Env} {s:Shared} {H:Hp} {E:XK} {C:Addr}
theorem rE {CX:CXT} {pins:List (Addr×Obj)} {σ:St} {H1:Hp} {s1:Shared} {x:Addr} {hs:List Addr} {h':Heap} (J:Inv (dv CX P w K mg base N qual scope f cd A outer s H E) pins σ H1 s1)
  (fx:H1 x=none) (nx:s.heap.get? x=none) (hh: ∀ T∈hs,H1 T=none/\s.heap.get? T=none) (L:LeftF (envOfC qual scope s.heap.objs.size f cd::outer) x C hs s1.heap h') (q:E (.ref C) none H1):
  CX1 P w C outer H s E (.ref x) {s1 with heap:=h'}:=by
 obtain ⟨T,rc,hT⟩:=L.rc
 have B:Un (frs outer) [] H H1 s.heap s1.heap:=J.base
 have nx': ∀ b o,s.heap.get? b=some o->b≠x:=fun b o e z=>by rw [z,nx]at e;cases e
 have nh': ∀ b o,s.heap.get? b=some o->b∉hs:=fun b o e z=>by rw [(hh b z).2]at e;cases e
 have nfr: ∀ b o,s.heap.get? b=some o->b∉frs outer->b∉frs (envOfC qual scope s.heap.objs.size f cd::outer):=fun b o e nb z=>by
  rcases List.mem_cons.mp (J.stkSub b z)with z | z
  ·have:b<s.heap.objs.size:=Heap.lt_size e
   rw [show b=s.heap.objs.size from z]at this
   exact Nat.lt_irrefl _ this
  ·exact nb z
 refine .mk x T H1 rfl J.os J.bare ⟨fun b o e n hb hx=>?_,fun b o e n hb hx=>?_,B.free,fun b o e hx=>?_,B.tups,B.frzs,B.tbls⟩ (fun a o e=>?_) rc nx ?_ fx ?_ q
 ·exact L.keep b o (nx' b o e) (nh' b o e) (nfr b o e hb) (B.keep b o e n hb hx)
 ·obtain ⟨sl,e1⟩:=B.slot b o e n hb hx
  obtain ⟨sl',e2⟩:=L.slot b _ (fD hb) e1
  exact ⟨sl',e2⟩
 ·obtain ⟨o1,e1⟩:=B.there b o e hx
  by_cases hb:b∈frs (envOfC qual scope s.heap.objs.size f cd::outer)
  ·obtain ⟨sl',e2⟩:=L.slot b _ hb e1
   exact ⟨_,e2⟩
  ·exact ⟨o1,L.keep b o1 (nx' b o e) (nh' b o e) hb e1⟩
 ·have tr: ∀ b u,H1 b=some u-> ∀ v,s1.heap.get? b=some v->h'.get? b=some v:=fun b u e1 v e2=>
   L.keep b v (fun z=>by rw [z,fx]at e1;cases e1) (fun z=>by rw [(hh b z).1]at e1;cases e1) (fun z=>by rw [J.stkFree b z]at e1;cases e1) e2
  refine (J.hok a o e).stay (fun b u hb e2=>?_) (fun _ z=>z) fun _ _ z=>z
  rcases hb with z | z
  ·rw [z]at e2 ⊢;exact tr a o e u e2
  ·exact tr b _ z u e2
 ·rcases hT with z | z
  ·exact (hh T z).2
  ·cases r:s.heap.get? T with
   | none=>rfl
   | some o=>obtain ⟨o1,e1⟩:=B.there T o r (by simp);rw [z]at e1;cases e1
 ·rcases hT with z | z
  ·exact (hh T z).1
  ·exact J.hok.none_of z
theorem oh {CX:CXT} {pins:List (Addr×Obj)} {σ:St} {H1:Hp} {s1:Shared} {x:Addr} {vs:List Value} {h':Heap} (I:Inv (dv CX P w K mg base N qual scope f cd A outer s H E) pins σ H1 s1)
  (m:s1.heap.MadeExcOf h' x (.ref C) vs) (q:E (.ref C) none H1) (hi: ∀ e s',CX1 P w C outer H s E e s'->CX outer H s E e s':=by exact fun _ _ z=>z):(dv CX P w K mg base N qual scope f cd A outer s H E).xe (.ref x) {s1 with heap:=h'}:=by
 have J:Inv (dv CX P w K mg base N qual scope f cd A outer s H E) pins σ H1 {s1 with heap:=h'}:=I.kept (t':=s1.toks) m.keeps
 obtain ⟨t,e,_,_⟩:=m.there
 have nx:s.heap.get? x=none:=by
  cases r:s.heap.get? x with
  | none=>rfl
  | some o=>obtain ⟨o1,e1⟩:=I.base.there x o r (by intro z;cases z);rw [m.new]at e1;cases e1
 exact ki (base:=base) J.ok.frames J.stack rfl e rfl rfl rfl fun h2 L=>hi _ _ (rE J (I.hok.none_of m.new) nx (fun _ z=>absurd z (by simp)) L q)
end
section
open PySem.W (excIn tailIn nsOkIn nsIn)
theorem rG {K:PySem.W.Frag} {h:Heap} {C:Addr} {bmB:List Value} {newId:String} (X:K.In h) (q:excIn K C bmB newId=true): ∃ bm N nm qn bs hd sn sub ab col dd k0 k1 k2 k3 k5 mN,
  h.get? C=some (excClassObj nm qn C N bs bm hd sn sub ab col dd k0 k1 k2 k3 k5 newId)/\(h.Ns N mN/\mN "__init__"=none)/\OwnTail h bmB bm:=by
 unfold excIn at q
 split at q
 case h_2=>cases q
 case h_1 dd c sl ho=>
  split at q
  case h_2=>cases q
  case h_1 C' bm k0 k1 k2 k3 n k5 hm hs=>
   rw [Bool.and_eq_true,Bool.and_eq_true,Bool.and_eq_true,Bool.and_eq_true,Bool.and_eq_true]at q
   obtain ⟨⟨⟨⟨⟨q1,q2⟩,q3⟩,q4⟩,q5⟩,q6⟩:=q
   have e1:C'=C:=beq_iff_eq.mp q1
   have e2:n=newId:=beq_iff_eq.mp q2
   have e3:c.hasDel=false:=by rw [Bool.not_eq_true']at q3;exact q3
   have hob:=X _ _ ho
   have hsl:sl= #[k0,k1,k2,k3,some (.builtin n),k5]:=Array.toList_inj.mp hs
   have hcd:c={name:=c.name,bases:=c.bases,mro:=.ref C::bm,ns:=c.ns,qualname:=c.qualname,hasDict:=c.hasDict,slotNames:=c.slotNames,subclasses:=c.subclasses,abstract:=c.abstract,collection:=c.collection,hasDel:=false}:=by
    rw [<- e3,<- e1,<- hm]
   rw [hsl,hcd,e2]at hob
   exact ⟨bm,_,_,_,_,_,_,_,_,_,_,_,_,_,_,_,_,hob,⟨Heap.Ns.of_isNs (PySem.W.isNs_of_in X q5),PySem.W.nsMap_none_of_in X q5 (beq_iff_eq.mp q6)⟩,PySem.W.tail_of_in X q4⟩
variable {X:Cx} {C:Addr} {x:Str} {np cpos pos:Pos} {e:Expr} {es:List Expr} {t:TA} {E:XK} {bmB:List Value} {newId initId:String}
noncomputable def sk (C:Addr) (E:XK) (t:TA):TS:=fun _ σ H=>t σ H fun vs H1=>vs.length<=sizeLine/\E (.ref C) none H1
theorem ni {B:String} (hc:X.calm=true) (hg:Gl X x) (hm:X.mg x=some (.ref C)) (q:excIn X.K C bmB newId=true) (FB:ExcBaseFacts B newId initId bmB)
  (hx: ∀ (pins:List (Addr×Obj)) (σ:St) (H:Hp) (s:Shared) (h':Heap) (y:Addr) (vs:List Value),Inv X pins σ H s->s.heap.MadeExcOf h' y (.ref C) vs->E (.ref C) none H->X.xe (.ref y) {s with heap:=h'})
  (ha:PA X (e::es) t) (hdb:(x==("__debug__":Str))=false:=by decide) (he:starEach (e::es) X.env=(false,eval e X.env)::starEach es X.env:=by rfl) (hpl:(backTo cpos (starEach es X.env)).any (·.1)=false:=by rfl):
  PS X (.Raise (some (.Call (.Name x np) (e::es) [] cpos)) none pos) (sk C E t):=by
 intro pins s σ H D I h
 obtain ⟨bm,N,nm,qn,bs,hd,sn,sub,ab,col,dd,k0,k1,k2,k3,k5,mN,hC,⟨hN,hni⟩,T⟩:=rG I.ok.mod.kin q
 refine wpAny_Raise_call_subT (nm:=nm) (q:=qn) (N:=N) (bs:=bs) (bm:=bm) (hdct:=hd) (sn:=sn) (sub:=sub) (ab:=ab) (col:=col) (dd:=dd) (k0:=k0) (k1:=k1) (k2:=k2) (k3:=k3) (k5:=k5) FB (mN:=mN)
  (T.hasType FB.hasBase) (I.ok.hd hc) ?_ hni (fF I hg hm ⟨rfl,?_⟩ hdb)
 ·rw [he];exact hpl
 have hp:=ha cpos pins s σ H _ I h
 rw [he]at hp ⊢
 refine Calls.evalArgs_plain (thn hp fun us s1 ⟨vs,H1,I1,r,z,w⟩=>?_)
 exact ⟨rfl,by rw [<- r.length];exact z,I1.bk _ _ hC,hN.keeps I1.bk,T.keeps I1.bk,fun h' y m=>hx pins σ H1 s1 h' y us I1 m w⟩
end
open PySem.W (findIn specialIn takesIn mroIn clsIn Looks)
noncomputable def ExAt (x C:Addr) (h:Heap):Prop:= ∃ oe vs,h.get? x=some oe/\oe.cls=.ref C/\oe.data=.fields vs
noncomputable def ExO (x C:Addr):HO:=.ext (ExAt x C)
theorem ExAt.type {M:Model} {h:Heap} {x C:Addr} (p:ExAt x C h):Looks M h (typeOf (.ref x)) (.ref C):=by
 obtain ⟨oe,_,e,c,_⟩:=p
 exact c▸(Looks.ld e).andThen .now
structure ExC (K:PySem.W.Frag) (C:Addr):Prop where
 ga:findIn K (.ref C) "__getattribute__"=some (some (.builtin "BaseException.__getattribute__"))
 gno:findIn K (.ref C) "__getattr__"=some none
 cls:findIn K (.ref C) "__class__"=some (some (.builtin "object.__class__"))
 get:specialIn K (.builtin "object.__class__") "__get__"=some (some (.builtin "getset_descriptor.__get__"))
 tk:takesIn K (.builtin "object.__class__")=some true
 ob:mroIn K C (.type "object")=some true
 ba:mroIn K C (.type "BaseException")=some true
 is:(clsIn K C).isSome=true
section
variable {prog:Program} {w:World} {A:Around} {E:Value->Shared->Prop} {K:PySem.W.Frag} {x C:Addr}
open PySem.Builtin PySem.Builtin.ObjectAttr PySem.Builtin.Getset_descriptor PySem.W
theorem rH {M:Model} {h:Heap} (X:K.In h) (Z:ExC K C):Looks M h (find (.ref x) (.ref C) "__class__") (.bind (.builtin "getset_descriptor.__get__") (.builtin "object.__class__")):=
 (looks_findIn X Z.cls).andThen ((show Looks M h (getOf (some (.builtin "object.__class__"))) (some (.builtin "getset_descriptor.__get__"))from looks_specialIn X Z.get).andThen
  ((show Looks M h (dataDescriptor? (some (.builtin "object.__class__")) (some (.builtin "getset_descriptor.__get__"))) (some (.builtin "getset_descriptor.__get__",.builtin "object.__class__"))from (looks_takesIn X Z.tk).andThen .now).andThen (Looks.tag .now)))
theorem jH {s:Shared} {tp:Value} {R:Result->Shared->Prop} (X:K.In s.heap) (Z:ExC K C) (p:ExAt x C s.heap) (h:R (.ok (.ret (.ref C))) s):
  codeAny (model prog w) A (.call (.builtin "getset_descriptor.__get__") ⟨[.builtin "object.__class__",.ref x,tp],[]⟩) R s:=by
 obtain ⟨hh,g,dr,t,os⟩:=s
 have L0:=p.type (M:=model prog w)
 have L1:=looks_mroIn (M:=model prog w) X Z.ob
 refine codeAny_call_builtin KF.slot_gs.plain KF.entry_gs (KF.slot_gs.check _ _ _ _ _ _ _ _ KF.type_class (KF.args_gs _ _ _) ?_)
 unfold Builtin.«getset_descriptor.__get__» descrGet
 rw [dga_obj]
 refine wpAny_bind (wpAny_pure ?_)
 unfold descrGetter descrCheckInstance descrNameAndClass isInstance
 simp only [KF.owner_class]
 repeat lk
 refine ⟨Code.quiet_builtin _ (by decide +kernel),codeAny_builtin KF.entry_class ?_⟩
 unfold Builtin.«object.__class__» shownTypeOf
 repeat lk
 exact h
theorem qg {s:Shared} {tk:Tok} {Q:Fin->Shared->Prop} (X:K.In s.heap) (Z:ExC K C) (p:ExAt x C s.heap) (h:Q (.done (.ret (.ref C))) s):
  wpAny (model prog w) A (Builtin.«object.__getattribute__» ⟨[.ref x,.str "__class__" tk],[]⟩) Q E s:=by
 obtain ⟨hh,g,dr,t,os⟩:=s
 have L0:=p.type (M:=model prog w)
 have L1:=rH (M:=model prog w) (x:=x) X Z
 unfold Builtin.«object.__getattribute__»
 refine wpAny_bind (wpAny_pure ?_)
 refine wpAny_bind (wpAny_pure ?_)
 refine wpAny_bind (L0.at ?_)
 refine wpAny_bind (L1.at ?_)
 show wpAny _ _ (bindTo _ _ _ _) _ _ _
 unfold bindTo
 refine wpAny_bind (wpAny_holding (wpAny_call (jH X Z p (wpAny_pure h))))
theorem uM {s:Shared} {tk:Tok} {R:Result->Shared->Prop} (X:K.In s.heap) (Z:ExC K C) (p:ExAt x C s.heap) (h:R (.ok (.ret (.ref C))) s):
  codeAny (model prog w) A (.call (.builtin "BaseException.__getattribute__") ⟨[.ref x,.str "__class__" tk],[]⟩) R s:=by
 refine codeAny_call_builtin PySem.F.attr_ValueError.ga.plain PySem.F.entry_bexc_ga ?_
 have L0:=p.type (M:=model prog w)
 have L2:Looks (model prog w) s.heap (isInstance (.ref x) (.type "BaseException")) true:=L0.andThen (looks_mroIn X Z.ba)
 have hk:builtinKind "BaseException.__getattribute__"=some .slot:=by decide +kernel
 have hsp:splitId "BaseException.__getattribute__"=some ("BaseException","__getattribute__"):=by decide +kernel
 have ha:=PySem.F.args_bexc_ga (.ref x) (.str "__class__" tk)
 simp only [checkBuiltinCall,hk,hsp]
 refine wpAny_bind (L2.at ?_)
 rw [if_neg (by decide)]
 repeat (first | exact qg X Z p h | wp_step)
theorem lV {s:Shared} {Q:Option Value->Shared->Prop} (X:K.In s.heap) (Z:ExC K C) (p:ExAt x C s.heap) (h:Q (some (.ref C)) {s with toks:=s.toks+1}):wpAny (model prog w) A (getAttr? (.ref x) "__class__") Q E s:=by
 obtain ⟨hh,g,d,t,os⟩:=s
 have L0:=p.type (M:=model prog w)
 have L1:=looks_findIn (M:=model prog w) X Z.ga
 have L2:Looks (model prog w) hh (typeLookup (.ref C) "__getattr__") none:=looks_findIn X Z.gno
 unfold getAttr? getAttrBy? getAttrBy
 refine wpAny_bind (wpAny_mkText (wpAny_bind (wpAny_attempt (wpAny_holding (wpAny_bind (L0.at (wpAny_bind (L1.at ?_))))))))
 have hn0:(Value.builtin "BaseException.__getattribute__"==Value.builtin "object.__getattribute__")=false:=by decide +kernel
 have hne:(onTheHeap (Value.ref C)&&Value.builtin "BaseException.__getattribute__"==Value.builtin "object.__getattribute__")=false:=by rw [hn0];rfl
 simp only [hne]
 rw [if_neg (by decide)]
 unfold getAttrByItsOwn hookBefore callGetattribute boundAndCalled
 rw [if_pos (show onTheHeap (Value.ref C)=true from rfl)]
 refine wpAny_bind (Looks.at (h:=hh) L2 (wpAny_bind (wpAny_attempt (wpAny_holding ?_))))
 rw [if_neg (by decide),PySem.F.attr_ValueError.ga.bind (.ref x)]
 exact wpAny_bind (wpAny_pure (wpAny_call (uM (s:=⟨hh,g,d,t+1,os⟩) X Z p (wpAny_pure (wpAny_pure h)))))
theorem iF {M:Model} {h:Heap} (X:K.In h) (e:(clsIn K C).isSome=true):Looks M h (isType (.ref C)) true:=by
 unfold clsIn at e
 split at e
 case h_1 c' d' cd' sl' ho=>
  intro A' Q' E' s' k q
  unfold isType loadHead
  exact wpAny_bind (wpAny_loadPart (k _ _ (X _ _ ho)) (wpAny_pure q))
 case h_2=>cases e
theorem kl (Z:ExC K C):KitX K (.ref x) (.ref C) (ExAt x C) where
 ty:=fun _ _ _ p=>p.type
 it:=fun _ _ X _=>iF X Z.is
 ne:=fun h tp dd its n sl X htp=>by
  have e:=Z.is
  refine Bool.eq_false_iff.mpr fun q=>?_
  have e2:C=tp:=Value.ref.inj (beq_iff_eq.mp q)
  subst e2
  unfold clsIn at e
  split at e
  case h_1 ho=>cases (X _ _ ho).symm.trans htp
  case h_2=>cases e
 ca:=fun X p k=>lV X Z p k
theorem oi {M:Model} {s:Shared} {CB:Addr} {Q:Bool->Shared->Prop} (X:K.In s.heap) (p:ExAt x C s.heap) (m1:mroIn K C (.ref CB)=some true) (m2:mroIn K CB (.type "BaseException")=some true)
  (ty:typeIn K (.ref CB)=some (.type "type")) (is:(clsIn K CB).isSome=true) (hq:Q true s):wpAny M A (excMatches (.ref x) (.ref CB)) Q E s:=by
 obtain ⟨h,g,d,t,os⟩:=s
 have L0:=p.type (M:=M)
 have L1:Looks M h (isInstance (.ref CB) (.type "tuple")) false:=(looks_typeIn X ty).andThen (Looks.of_pure tc_notTuple)
 have L2:Looks M h (isExcClass (.ref CB)) true:=(iF X is).andThen (looks_mroIn X m2)
 have L3:=looks_mroIn (M:=M) X m1
 unfold excMatches
 refine wpAny_bind (L1.at ?_)
 simp only [Bool.false_eq_true,if_false]
 refine wpAny_bind (wpAny_pure ?_)
 rw [List.forIn_cons]
 refine wpAny_bind (wpAny_bind (wpAny_bind (L2.at ?_)))
 simp only [Bool.not_true,Bool.false_eq_true,if_false]
 refine wpAny_pure ?_
 show wpAny _ _ (forIn [] _ _) _ _ _
 rw [List.forIn_nil]
 refine wpAny_pure (wpAny_bind (L0.at ?_))
 rw [List.forIn_cons]
 refine wpAny_bind (wpAny_bind (wpAny_bind (L3.at ?_)))
 simp only [if_true]
 exact wpAny_pure (wpAny_pure (wpAny_pure hq))
end
section
variable {X:Cx}
theorem kJ:di X (.builtin "isinstance") (fun xs H Q=> ∃ x C y c b,xs=[.ref x,y]/\H x=some (ExO x C)/\ExC X.K C/\(∀ u,RelV y u->u=c)/\PySem.W.kitOne X.K (.ref C) c=some b/\Q (.bl b) H):=by
 intro pins s σ H xs us Q I r h
 obtain ⟨x,C,y,c,b,rfl,hx,Z,rc,e,q⟩:=h
 obtain ⟨u,w',rfl,ru,rw'⟩:=gm r
 cases (show u=Value.ref x from ru)
 cases rc w' rw'
 have p:ExAt x C s.heap:=(show ObjOk X.prog X.w H s.heap x (ExO x C)from I.hok x _ hx).1
 exact PySem.W.kia_one (kl Z) I.kIn p e (fun z=>nomatch z) fun tk=>⟨.bl b,H,I.tok tk,rfl,q⟩
theorem ot:di X (.builtin "isinstance") (fun xs H Q=> ∃ (x C p:Addr) (Ds:List Addr) (b:Bool),xs=[.ref x,.ref p]/\H x=some (ExO x C)/\ExC X.K C/\H p=some (.tup (Ds.map V.ref))/\PySem.W.kitAny X.K (.ref C) (Ds.map Value.ref)=some b/\Q (.bl b) H):=by
 intro pins s σ H xs us Q I r h
 obtain ⟨x,C,p,Ds,b,rfl,hx,Z,hp,e,q⟩:=h
 obtain ⟨u,w',rfl,ru,rw'⟩:=gm r
 cases (show u=Value.ref x from ru)
 cases (show w'=Value.ref p from rw')
 have pe:ExAt x C s.heap:=(show ObjOk X.prog X.w H s.heap x (ExO x C)from I.hok x _ hx).1
 obtain ⟨_,its,rv,o,h1,h2,n,h3⟩:=(show ObjOk X.prog X.w H s.heap p (.tup (Ds.map V.ref))from I.hok p _ hp)
 have all: ∀ (l:List Addr) (us:List Value),Vals (l.map V.ref) us->us=l.map Value.ref:=by
  intro l
  induction l with
  | nil=>intro us r;cases r;rfl
  | cons a l ih=>intro us r;cases r with | cons r1 r2=>rw [show _=Value.ref a from r1,ih _ r2];rfl
 cases all Ds its rv
 obtain ⟨c,d,dt,sl⟩:=o
 simp only at h2 h3
 subst h2 h3
 exact PySem.W.kia_tup (kl Z) I.kIn pe h1 e (fun z=>nomatch z) fun tk=>⟨.bl b,H,I.tok tk,rfl,q⟩
end
open PySem.W (findIn specialIn takesIn mroIn clsIn typeIn Looks)
structure Fl (P:Program) (w:World) (C:Addr) (stack:List Env) (H:Hp) (h₀:Heap) (x T:Addr) (H':Hp) (h:Heap):Prop where
 un:Un (frs stack) [] H H' h₀ h
 hok:HOk P w H' h
 rc:Rec h x C T
 nx:h₀.get? x=none
 nT:h₀.get? T=none
 fx:H' x=none
 fT:H' T=none
section
variable {P:Program} {w:World} {C:Addr} {stack:List Env} {H H':Hp} {h₀ h h' base:Heap} {x T:Addr}
theorem Fl.left (F:Fl P w C stack H h₀ x T H' h) (fr: ∀ b∈frs stack,H' b=none) (L:LeftF stack x C [T] h h'): ∃ T',Fl P w C stack H h₀ x T' H' h':=by
 obtain ⟨T',rc,hT⟩:=L.rc
 have nx': ∀ b o,h₀.get? b=some o->b≠x:=fun b o e z=>by rw [z,F.nx]at e;cases e
 have nT': ∀ b o,h₀.get? b=some o->b∉[T]:=fun b o e z=>by rw [List.mem_singleton.mp z,F.nT]at e;cases e
 refine ⟨T',⟨fun b o e n hb hx=>?_,fun b o e n hb hx=>?_,F.un.free,fun b o e hx=>?_,F.un.tups,F.un.frzs,F.un.tbls⟩,fun a o e=>?_,rc,F.nx,?_,F.fx,?_⟩
 ·exact L.keep b o (nx' b o e) (nT' b o e) hb (F.un.keep b o e n hb hx)
 ·obtain ⟨sl,e1⟩:=F.un.slot b o e n hb hx
  obtain ⟨sl',e2⟩:=L.slot b _ hb e1
  exact ⟨sl',e2⟩
 ·obtain ⟨o1,e1⟩:=F.un.there b o e hx
  by_cases hb:b∈frs stack
  ·obtain ⟨sl',e2⟩:=L.slot b _ hb e1
   exact ⟨_,e2⟩
  ·exact ⟨o1,L.keep b o1 (nx' b o e) (nT' b o e) hb e1⟩
 ·have tr: ∀ b u,H' b=some u-> ∀ v,h.get? b=some v->h'.get? b=some v:=fun b u e1 v e2=>
   L.keep b v (fun z=>by rw [z,F.fx]at e1;cases e1) (fun z=>by rw [List.mem_singleton.mp z,F.fT]at e1;cases e1) (fun z=>by rw [fr b z]at e1;cases e1) e2
  refine (F.hok a o e).stay (fun b u hb e2=>?_) (fun _ z=>z) fun _ _ z=>z
  rcases hb with z | z
  ·rw [z]at e2 ⊢;exact tr a o e u e2
  ·exact tr b _ z u e2
 ·rcases hT with z | z
  ·rw [List.mem_singleton.mp z];exact F.nT
  ·cases r:h₀.get? T' with
   | none=>rfl
   | some o=>obtain ⟨o1,e1⟩:=F.un.there T' o r (by simp);rw [z]at e1;cases e1
 ·rcases hT with z | z
  ·rw [List.mem_singleton.mp z];exact F.fT
  ·exact F.hok.none_of z
theorem Fl.track (F:Fl P w C stack H h₀ x T H' h):Un (frs stack) [] H (upd H' x (ExO x C)) h₀ h/\HOk P w (upd H' x (ExO x C)) h:=by
 have ne: ∀ b o,h₀.get? b=some o->b≠x:=fun b o e z=>by rw [z,F.nx]at e;cases e
 have nt: ∀ b u,H' b=some u->b≠x:=fun b u e z=>by rw [z,F.fx]at e;cases e
 refine ⟨⟨F.un.keep,F.un.slot,fun b o e n hx=>?_,F.un.there,fun b xs e=>?_,fun b o u e=>?_,fun b ps e=>?_⟩,fun a o e=>?_⟩
 ·rw [ah (ne b o e)];exact F.un.free b o e n hx
 ·rw [ah (nt _ _ (F.un.tups b xs e))];exact F.un.tups b xs e
 ·rw [ah (nt _ _ (F.un.frzs b o u e))];exact F.un.frzs b o u e
 ·obtain ⟨m,e1⟩:=F.un.tbls b ps e
  exact ⟨m,by rw [ah (nt _ _ e1)];exact e1⟩
 ·by_cases z:a=x
  ·subst z
   rw [ad]at e
   cases e
   obtain ⟨oe,vs,oT,ts,he,hc,hd,_,_,_,_,_⟩:=F.rc
   exact ⟨⟨oe,vs,he,hc,hd⟩,⟨oe,he⟩,fun h1 h2 ⟨o1,v1,a1,a2,a3⟩ k=>⟨o1,v1,k o1 a1,a2,a3⟩⟩
  ·rw [ah z]at e
   exact (F.hok a o e).stay (fun b u _ q=>q) (fun b q=>by rw [ah (nt _ _ q)];exact q) fun b xs q=>by rw [ah (nt _ _ q)];exact q
end
theorem Rec.traced {h G:Heap} {x C T:Addr} (r:Rec h x C T) (hG:G.get? T=none): ∃ a0,h.TracedW G x (.ref C) a0:=by
 obtain ⟨oe,vs,oT,ts,he,hc,hd,h1,ne,hT,hdT,h3⟩:=r
 have hsz:1<vs.size:=(Array.getElem?_eq_some_iff.mp h1).1
 exact ⟨vs[0],oe,vs,T,oT,ts,he,⟨hc,by simp [Nat.lt_trans Nat.zero_lt_one hsz]⟩,hd,h1,hG,ne,hT,hdT,h3⟩
section
variable {M:Model} {A:Around} {E:Value->Shared->Prop} {s:Shared} {base:Heap} {env:Env} {outer:List Env} {L x C T:Addr}
theorem nL {Q:Unit->Shared->Prop} (hfr:A.frames=some (env::outer)) (hl:s.heap.FunFrames base (env::outer)) (hf:env.frame=some L) (r:Rec s.heap x C T)
  (k: ∀ h',LeftF (env::outer) x C [T] s.heap h'->Q () {s with heap:=h'}):
  wpAny M A (noteFrame (.ref x) env) (fun _ s₂=>wpAny M A (setFlight (.ref x) none) Q E s₂) E s:=by
 have gone: ∀ b,b∈x::([T]++frs (env::outer))->(PySem.W.hideAll s.heap (x::([T]++frs (env::outer)))).get? b=none:=fun b hb=>PySem.W.hideAll_none _ hb
 obtain ⟨a0,tr⟩:=r.traced (G:=PySem.W.hideAll s.heap (x::([T]++frs (env::outer)))) (gone T (List.mem_cons_of_mem _ (by simp)))
 refine wpAny_noteFrame_onW hfr (cT hl fun b hb=>gone b (List.mem_cons_of_mem _ (List.mem_append_right _ hb))) hf tr (fun _ _ e=>PySem.W.of_hideAll _ e) (gone x List.mem_cons_self) fun h2 N2=>?_
 obtain ⟨n1,n2,n3,n4⟩:=N2
 refine wpAny_setFlight_noneW (s:={s with heap:=h2}) n1 n2 n3 fun h3 m1 m2 m3 m4=>k h3 (.of hl ⟨m1,m2,?_,fun b o e nf=>?_⟩)
 ·obtain ⟨oe,vs,T2,oT,ts,he,⟨hc,_⟩,hd,h1,hn,hTe,hT,hdT,h3⟩:=m3
  exact ⟨oe,vs,T2,oT,ts,he,hc,hd,h1,hn,hTe,hT,hdT,h3⟩
 ·obtain ⟨sl,e2⟩:=n4 b o e nf
  exact ⟨sl,m4 b _ e2 nf⟩
theorem oV {Q:Unit->Shared->Prop} (hl:s.heap.FunFrames base (env::outer)) (r:Rec s.heap x C T) (k: ∀ h',LeftF (env::outer) x C [T] s.heap h'->Q () {s with heap:=h'}):
  wpAny M A (setFlight (.ref x) none) Q E s:=by
 have gone: ∀ b,b∈x::([T]++frs (env::outer))->(PySem.W.hideAll s.heap (x::([T]++frs (env::outer)))).get? b=none:=fun b hb=>PySem.W.hideAll_none _ hb
 obtain ⟨a0,tr⟩:=r.traced (G:=PySem.W.hideAll s.heap (x::([T]++frs (env::outer)))) (gone T (List.mem_cons_of_mem _ (by simp)))
 refine wpAny_setFlight_noneW (fun _ _ e=>PySem.W.of_hideAll _ e) (cT hl fun b hb=>gone b (List.mem_cons_of_mem _ (List.mem_append_right _ hb))) tr fun h3 m1 m2 m3 m4=>k h3 (.of hl ⟨m1,m2,?_,fun b o e nf=>⟨o.slots,m4 b _ e nf⟩⟩)
 obtain ⟨oe,vs,T2,oT,ts,he,⟨hc,_⟩,hd,h1,hn,hTe,hT,hdT,h3⟩:=m3
 exact ⟨oe,vs,T2,oT,ts,he,hc,hd,h1,hn,hTe,hT,hdT,h3⟩
end
open PySem.W (findIn specialIn takesIn mroIn clsIn typeIn Looks)
noncomputable def Cx.marked (X:Cx) (e:Value):Cx:={X with A:=X.A.mark (some e),calm:=false,xe:=fun _ _=>False}
section
variable {X:Cx} {pins:List (Addr×Obj)} {σ:St} {H:Hp} {s:Shared} {e:Value}
theorem Inv.mark (I:Inv X pins σ H s) (e:Value):Inv (X.marked e) pins σ H s:=
 ⟨⟨I.ok.mod,I.ok.kind,I.ok.glob,I.ok.blt,I.ok.above,I.ok.inj,I.ok.has,I.ok.cab,fun h=>Bool.noConfusion (show false=true from h),I.ok.frames,I.ok.stk,I.ok.exf,I.ok.bs,I.ok.bsz,I.ok.noex,I.ok.exfs,I.ok.funs,I.ok.frf⟩,
  I.os,I.bare,I.base,I.loc,I.cell,I.free,I.freeC,I.pin,I.hok,I.len⟩
theorem Inv.unmark (ok:X.Ok) (I:Inv (X.marked e) pins σ H s):Inv X pins σ H s:=⟨ok,I.os,I.bare,I.base,I.loc,I.cell,I.free,I.freeC,I.pin,I.hok,I.len⟩
theorem mI {M:Model} {A:Around} {E:Value->Shared->Prop} {i:Nat} {n:Str} {pos:Pos} {Q:Unit->Shared->Prop} (I:Inv X pins σ H s) (hN:X.N.Nodup) (hi:X.N[i]? =some n) (hk:X.env.scope.names.lookup n=some .local)
  (h: ∀ s',Inv X pins (σ.set i none) H s'->Q () s'):wpAny M A (do bindName X.env n .none;unbindBehindTheSuite X.env n pos) Q E s:=by
 have hcls:(X.env.scope.kind== .class||(X.env.scope.kind== .module&&X.env.locals !=X.env.globals))=false:=by rw [I.ok.kind];rfl
 have hiσ:i<σ.length:=by rw [I.len];exact (List.getElem?_eq_some_iff.mp hi).1
 refine wpAny_bind (wpAny_bindName (fj I hN hi (.inl hk) (v:=.non) rfl (fun s1 I1=>?_) (.inr hk)))
 unfold unbindBehindTheSuite
 refine wpAny_onRaise ?_
 obtain ⟨m,hn,hl⟩:=id I1.loc
 obtain ⟨u,_,lk⟩:=hl i n .non hi (by rw [List.getElem?_set_self hiσ]) (.inl hk)
 have hv:m n=some u:=by
  rcases lk with ⟨_,z⟩ | ⟨z,_⟩
  ·exact z
  ·have z:X.env.scope.names.lookup n=some .cell\/X.env.scope.names.lookup n=some .free:=z
   rw [hk]at z
   rcases z with z | z <;> cases z
 refine wpAny_unbindName_local hk hn hv hcls fun h' u' hn' hs=>?_
 have ne: ∀ b o,X.s₀.heap.get? b=some o->b≠X.env.locals:=fun b o e=>Nat.ne_of_lt (Nat.lt_of_lt_of_le (Heap.lt_size e) I.ok.above)
 have cne:=I1.cne
 refine h _ ⟨I.ok,I1.os,I1.bare,⟨fun b o e n hb hx=>(hs.2 b (ne b o e)).trans (I1.base.keep b o e n hb hx),fun b o e n hb hx=>?_,I1.base.free,fun b o e hx=>?_,I1.base.tups,I1.base.frzs,I1.base.tbls⟩,
  ⟨_,hn',fun j y v' e1 e2 e3=>?_⟩,fun y c e=>?_,I1.free,I1.freeC,fun p hp=>?_,fun b o e=>?_,by simpa using I.len⟩
 ·obtain ⟨sl,e1⟩:=I1.base.slot b o e n hb hx
  exact ⟨sl,(hs.2 b (ne b o e)).trans e1⟩
 ·obtain ⟨o',e1⟩:=I1.base.there b o e hx
  exact ⟨o',(hs.2 b (ne b o e)).trans e1⟩
 ·by_cases hj:j=i
  ·subst hj
   rw [List.getElem?_set_self hiσ]at e2
   cases e2
  ·have e4:(σ.set i (some V.non))[j]? =some (some v'):=by
    rw [List.getElem?_set_ne (Ne.symm hj)]at e2 ⊢;exact e2
   obtain ⟨u',r',q⟩:=hl j y v' e1 e4 e3
   refine ⟨u',r',?_⟩
   rcases q with ⟨k,e⟩ | ⟨k,c,e,z⟩
   ·refine .inl ⟨k,?_⟩
    have:y≠n:=fun e=>hj (dD hN e1 (e▸hi))
    simp [this,e]
   ·exact .inr ⟨k,c,e,z.sameBut hs (cne y c e)⟩
 ·obtain ⟨w',z⟩:=I1.cell y c e
  exact ⟨w',z.sameBut hs (cne y c e)⟩
 ·obtain ⟨e,n,ne,nf,d⟩:=I1.pin p hp
  exact ⟨(hs.2 p.1 ne).trans e,n,ne,nf,d⟩
 ·refine (I1.hok b o e).stay (fun c w' hc q=>(hs.2 c ?_).trans q) (fun _ q=>q) fun _ _ q=>q
  rintro rfl
  have fr:=I1.free
  rcases hc with rfl | hc
  ·rw [fr]at e;cases e
  ·rw [fr]at hc;cases hc
end
structure CaC (K:PySem.W.Frag) (C CB:Addr):Prop where
 m1:mroIn K C (.ref CB)=some true
 m2:mroIn K CB (.type "BaseException")=some true
 ty:typeIn K (.ref CB)=some (.type "type")
 is:(clsIn K CB).isSome=true
section
variable {X:Cx}
theorem rA {pins:List (Addr×Obj)} {σ:St} {H H':Hp} {s s1:Shared} {C CB x T:Addr} {D:eP} {cb n:Str} {np hp:Pos} {b₀:Stmt} {suite:List Stmt} {rest:List ExceptHandler} {i:Nat} {ts:TS}
  (I:Inv X pins σ H s) (F:Fl X.prog X.w C X.stack H s.heap x T H' s1.heap) (os:s1.os=s.os) (bare:AllBare s1.gens) (hst:X.stack=X.env::X.outer) (hfr:X.env.frame=some X.env.locals)
  (hN:X.N.Nodup) (hi:X.N[i]? =some n) (hk:X.env.scope.names.lookup n=some .local) (hg:Gl X cb) (hm:X.mg cb=some (.ref CB)) (Z:CaC X.K C CB)
  (hs:PSs (X.marked (.ref x)) (b₀::suite) ts) (q:ts {nx:=fun σ' H3=>D.nx (σ'.set i none) H3,rt:=fun _ _=>False} (σ.set i (some (.ref x))) (upd H' x (ExO x C))) (hd:(cb==("__debug__":Str))=false:=by decide):
  wpAny (model X.prog X.w) X.A (noteFrame (.ref x) X.env) (fun _ s₂=>wpAny (model X.prog X.w) X.A (setFlight (.ref x) none) (fun _ s₃=>
   wpAny (model X.prog X.w) X.A (handleBy (.ref x) X.env (.ExceptHandler (some (.Name cb np)) (some n) (b₀::suite) hp::rest)) (SP X pins D) X.xe s₃) X.xe s₂) X.xe s1:=by
 have fr: ∀ b∈frs X.stack,H' b=none:=fun b hb=>by
  obtain ⟨_,o,e,_⟩:=I.stack.mem hb
  exact F.un.free b o e (I.stkFree b hb) (by simp)
 have nil: ∀ b∈([]:List Addr),(b∈X.ex\/X.s₀.heap.objs.size<=b)/\b≠X.env.locals/\(∀ x c,X.env.cells.lookup x=some c->c≠b)/\ ∀ p∈X.pn++pins,p.1≠b:=fun b z=>absurd z (by simp)
 have J1:Inv X pins σ H' s1:=I.call' (ch:=[]) os F.un F.hok bare nil
 have hff:=J1.ok.frames
 have hfs:=J1.stack
 rw [hst]at hff hfs
 refine nL (base:=X.base) hff hfs hfr F.rc fun h3 L3=>?_
 rw [<- hst]at L3
 obtain ⟨T3,F3⟩:=F.left fr L3
 have J3:Inv X pins σ H' {s1 with heap:=h3}:=I.call' (ch:=[]) os F3.un F3.hok bare nil
 have p3:ExAt x C h3:=by obtain ⟨oe,vs,oT,ts,he,hc,hd,_,_,_,_,_⟩:=F3.rc;exact ⟨oe,vs,he,hc,hd⟩
 refine wpAny_handleBy_cons (codeAny_handlers_test (fF (X:=X.marked (.ref x)) (J3.mark (.ref x)) hg hm ?_ hd)) (by intro q;cases q)
 refine oi J3.kIn p3 Z.m1 Z.m2 Z.ty Z.is (codeAny_handlers_suite_as ?_)
 have hfs3:=J3.stack
 rw [hst]at hfs3
 refine oV (base:=X.base) hfs3 F3.rc fun h4 L4=>?_
 rw [<- hst]at L4
 obtain ⟨T4,F4⟩:=F3.left fr L4
 obtain ⟨un4,hok4⟩:=F4.track
 have J4:Inv X pins σ (upd H' x (ExO x C)) {s1 with heap:=h4}:=I.call' (ch:=[]) os un4 hok4 bare nil
 refine fj (v:=.ref x) J4 hN hi (.inl hk) rfl (fun s5 J5=>?_) (.inr hk)
 refine wpAny_mono (hs pins s5 _ _ _ (J5.mark (.ref x)) q) (fun f s6 z=>?_) fun _ _ z=>False.elim z
 cases f with
 | next=>
  obtain ⟨σ6,H6,I6,q6⟩:=z
  exact mI (I6.unmark J5.ok) hN hi hk fun s7 I7=>⟨_,_,I7,q6⟩
 | ret v=>obtain ⟨_,_,_,_,_,z⟩:=z;exact False.elim z
 | brk=>obtain ⟨_,_,_,z⟩:=z;exact False.elim z
 | cont=>obtain ⟨_,_,_,z⟩:=z;exact False.elim z
end
section
variable {X:Cx} {x x2:Str} {px px2 tpos pos fpos:Pos} {kk:Nat} {iter elt:Expr} {scope sc0:Scope} {N0 ys:List Str} {fr:List Nat} {wi:TI} {te:TE}
noncomputable def sJ (K:PySem.W.Frag):R2:=fun x y H Q=> ∃ a b xs ys,x=.ref a/\y=.ref b/\SqT K H a xs/\SqT K H b ys/\xs.length+ys.length<=sizeLine/\(xs=[]->Q (.ref b) H)/\(xs≠[]->ys=[]->Q (.ref a) H)/\
 (xs≠[]->ys≠[]-> ∀ p,H p=none->Q (.ref p) (upd H p (.tup (xs++ys))))
theorem il:OpR X (binaryOp .Add) (sJ X.K):=by
 intro pins s σ H x y v u Q I rx ry h
 obtain ⟨a,b,xs,ys,e1,e2,h1,h2,h3,q1,q2,q3⟩:=h
 exact pH pins s σ H x y v u Q I rx ry ⟨a,b,xs,ys,e1,e2,h1,h2,h3,q1,q2,q3⟩
end
noncomputable abbrev Cx.at (X:Cx) (A:Around):Cx:={X with A:=A}
section
variable {X:Cx} {pins:List (Addr×Obj)} {σ:St} {H:Hp} {s:Shared} {A:Around}
theorem Inv.at (I:Inv X pins σ H s) (hf:A.frames=X.A.frames) (hh:A.handled=X.A.handled):Inv (X.at A) pins σ H s:=
 ⟨⟨I.ok.mod,I.ok.kind,I.ok.glob,I.ok.blt,I.ok.above,I.ok.inj,I.ok.has,I.ok.cab,fun c=>hh.trans (I.ok.hd c),hf.trans I.ok.frames,I.ok.stk,I.ok.exf,I.ok.bs,I.ok.bsz,I.ok.noex,I.ok.exfs,I.ok.funs,I.ok.frf⟩,I.os,I.bare,I.base,I.loc,I.cell,I.free,I.freeC,I.pin,I.hok,I.len⟩
theorem Inv.unat (I:Inv (X.at A) pins σ H s) (hf:A.frames=X.A.frames) (hh:A.handled=X.A.handled):Inv X pins σ H s:=
 ⟨⟨I.ok.mod,I.ok.kind,I.ok.glob,I.ok.blt,I.ok.above,I.ok.inj,I.ok.has,I.ok.cab,fun c=>hh.symm.trans (I.ok.hd c),hf.symm.trans I.ok.frames,I.ok.stk,I.ok.exf,I.ok.bs,I.ok.bsz,I.ok.noex,I.ok.exfs,I.ok.funs,I.ok.frf⟩,I.os,I.bare,I.base,I.loc,I.cell,I.free,I.freeC,I.pin,I.hok,I.len⟩
theorem Inv.own {own own':List (Addr×Obj)} {h':Heap} {t':Nat} (I:Inv X (pins++own) σ H s) (hf: ∀ p∈own,fP X pins H p.1) (hk: ∀ b o,(∀ p∈own,p.1≠b)->s.heap.get? b=some o->h'.get? b=some o)
  (ho: ∀ p∈own',(∃ q∈own,q.1=p.1)/\h'.get? p.1=some p.2/\ ∀ v,p.2.data≠ .cell v):Inv X (pins++own') σ H {s with heap:=h',toks:=t'}:=by
 have I0:Inv X pins σ H s:=I.unpinned
 have mem: ∀ {b:Addr},b∈own.map (·.1)-> ∃ p∈own,p.1=b:=fun hb=>List.mem_map.mp hb
 have keep: ∀ b o,b∉own.map (·.1)->s.heap.get? b=some o->h'.get? b=some o:=fun b o hb e=>hk b o (fun p hp z=>hb (List.mem_map.mpr ⟨p,hp,z⟩)) e
 have trk: ∀ b uo,H b=some uo->b∉own.map (·.1):=fun b uo e hb=>by
  obtain ⟨p,hp,rfl⟩:=mem hb
  rw [(hf p hp).1]at e;cases e
 have I1:Inv X pins σ H {s with heap:=h',toks:=t'}:=by
  refine I0.step (g':=s.gens) (d':=s.drawn) (ch:=own.map (·.1)) (fun b hb=>?_) (fun b o _ _ hb e _=>keep b o hb e) (fun b o _ _ hb e _=>⟨o.slots,keep b o hb e⟩) (fun b o hb e n=>n)
   (fun b o hb e=>⟨o,keep b o hb e⟩) (fun b zs e=>e) (fun b o uo e=>e) (fun b ps e=>⟨#[],by rw [e];simp⟩) (fun m hm=>?_) (fun b uo e=>?_) I0.bare
  ·obtain ⟨p,hp,rfl⟩:=mem hb
   obtain ⟨_,f1,_,f3,f4,f5⟩:=hf p hp
   exact ⟨f3,f1,f4,f5⟩
  ·obtain ⟨o,es',ep,ho',r⟩:=hm
   refine ⟨o,es',ep,keep _ o (fun hb=>?_) ho',r⟩
   obtain ⟨p,hp,e⟩:=mem hb
   exact (hf p hp).2.1 e
  ·refine (I0.hok b uo e).stay (fun c' v' hc' q=>keep c' v' ?_ q) (fun _ q=>q) fun _ _ q=>q
   rcases hc' with h | h
   ·rw [h];exact trk b uo e
   ·exact trk c' _ h
 refine I1.pins_of fun p hp=>?_
 rcases List.mem_append.mp hp with hp | hp
 ·exact I1.pin p (List.mem_append_right _ hp)
 ·obtain ⟨⟨q,hq,e⟩,h1,h2⟩:=ho p hp
  obtain ⟨f0,f1,f2,_⟩:=hf q hq
  rw [e]at f0 f1 f2
  exact ⟨h1,f0,f1,f2,h2⟩
theorem Inv.fpPin {own:List (Addr×Obj)} (I:Inv X (pins++own) σ H s) {p:Addr×Obj} (hp:p∈own):s.heap.get? p.1=some p.2/\H p.1=none:=by
 have:=I.pin p (List.mem_append_right _ (List.mem_append_right _ hp))
 exact ⟨this.1,this.2.1⟩
theorem Inv.ownNew {own:List (Addr×Obj)} {h':Heap} {t':Nat} {n:Addr} {o:Obj} (I:Inv X (pins++own) σ H s) (hk: ∀ b ob,s.heap.get? b=some ob->h'.get? b=some ob) (hn:s.heap.objs.size<=n) (ho:h'.get? n=some o) (hd: ∀ v,o.data≠ .cell v):
  Inv X (pins++(own++[(n,o)])) σ H {s with heap:=h',toks:=t'}/\fP X pins H n:=by
 have I1:Inv X (pins++own) σ H {s with heap:=h',toks:=t'}:=I.kept hk
 have f:=(I.unpinned).fpOk hn (I.hok.fresh hn)
 refine ⟨?_,f⟩
 rw [<- List.append_assoc]
 refine I1.pins_of fun p hp=>?_
 rcases List.mem_append.mp hp with hp | hp
 ·exact I1.pin p (List.mem_append_right _ hp)
 ·rw [List.mem_singleton.mp hp]
  exact ⟨ho,f.1,f.2.1,f.2.2.1,hd⟩
end
end L2
namespace HT
open PySem PyProof.Rows
section
variable {prog:Program} {w:World} {A:Around} {E:Value->Shared->Prop} {s:Shared} {T:String} {r d:Addr} {n:Nat} {P:Nat->Value->Prop} {OK:Heap->Prop}
theorem collect_src {Q:List Value->Shared->Prop} (K:PySem.W.KdlSrc prog w T r d n P OK) (hh:A.handled=none) (hok:OK s.heap) (hn:n<=sizeLine)
  (h: ∀ h' tk (acc:Array Value),(∀ b o,s.heap.get? b=some o->h'.get? b=some o)->ItemsOf P acc n->Q acc.toList {s with heap:=h',toks:=tk}):wpAny (model prog w) A (collect (.ref r)) Q E s:=by
 unfold collect
 have hlt:=K.there _ hok
 refine wpAny_bind (wpAny_runValue (codeAny_builtin entry_proto_collect' ?_))
 show wpAny _ _ (do again (.builtin "list.__iadd__" ⟨[<- newList [],.ref r],[]⟩)) _ _ s
 refine wpAny_bind (wpAny_newList (wpAny_pure ⟨Code.quiet_builtin _ (by decide +kernel),codeAny_builtin entry_list_iadd' ?_⟩))
 show wpAny _ _ (Builtin.List.listExtendWith (.ref s.heap.objs.size) (.ref r) (.ref s.heap.objs.size)) _ _ {s with heap:=s.heap.push (seqObj "list" #[] 0)}
 rw [Around.under_plainId (show plainId "list.__iadd__"=true by decide +kernel) _]
 refine PySem.W.kdl_extend (R:=fun r s'=>match r with | .ok (.ret v)=>wpAny (model prog w) A (match v with | .ref a=>(do let o <- load a;match o.data with | .seq xs _=>pure xs.toList | _=>unsupported "internal:collect") | _=>unsupported "internal:collect") Q E s' | .ok _=>False | .error e=>E e s') (s:={s with heap:=s.heap.push (seqObj "list" #[] 0)}) K hh (K.keep _ _ hok fun b _ o e=>Heap.get?_push_of_some _ e) s.heap.objs.size (Nat.ne_of_gt hlt.1) (Nat.ne_of_gt hlt.2) (.ref s.heap.objs.size) 0 (Heap.get?_push_size _ rfl) (fun h' tk acc c' hk hS hi=>?_) hn
 show wpAny (model prog w) A (do
   let o <- load s.heap.objs.size
   match o.data with
   | .seq xs _=>pure xs.toList
   | _=>unsupported "internal:collect") Q E {s with heap:=h',toks:=tk}
 refine wpAny_bind (wpAny_load hS ?_)
 exact wpAny_pure (h h' tk acc (fun b o e=>hk b o (Nat.ne_of_lt (Heap.lt_size e)) (Heap.get?_push_of_some _ e)) hi)
end
end HT
namespace L2
open PySem PySem.Spec PyProof.Rows
noncomputable def FpS (X:Cx) (pins:List (Addr×Obj)) (b:Addr):Prop:=
 b≠X.env.locals/\b∉X.fs/\(b∈X.ex\/X.s₀.heap.objs.size<=b)/\(∀ x c,X.env.cells.lookup x=some c->c≠b)/\ ∀ p∈X.pn++pins,p.1≠b
noncomputable def qA (X:Cx) (pins own0:List (Addr×Obj)) (σ:St) (T:Hp->Prop) (A:Around) (f:Value) (vs:List Value) (kz:List Int):Prop:=
 ∀ (i:Nat) (v:Value) (k:Int),vs[i]? =some v->kz[i]? =some k-> ∀ (own:List (Addr×Obj)) (H:Hp) (s:Shared),(∀ p∈own0,p∈own)->Inv X (pins++own) σ H s->T H->
  wpAny (model X.prog X.w) A (call f [v]) (fun r s'=> ∃ t H',r=.int k t/\Inv X (pins++own) σ H' s'/\T H') (fun _ _=>False) s
section
variable {X:Cx} {pins own0:List (Addr×Obj)} {σ:St} {H:Hp} {s:Shared} {A:Around} {E:Value->Shared->Prop} {a kS:Addr} {vs:List Value} {kz:List Int} {T:Hp->Prop} {P:PySem.Fin->Shared->Prop} {keys:Array Value} {e e1:Nat}
theorem Inv.fpp {own:List (Addr×Obj)} (I:Inv X (pins++own) σ H s) {p:Addr×Obj} (hp:p∈own) (f:FpS X pins p.1):fP X pins H p.1:=⟨(I.fpPin hp).2,f⟩
theorem Inv.pno {own:List (Addr×Obj)} (I:Inv X (pins++own) σ H s) {p:Addr×Obj} (hp:p∈own): ∀ v,p.2.data≠ .cell v:=(I.pin p (List.mem_append_right _ (List.mem_append_right _ hp))).2.2.2.2
theorem cC {c:String} {xs:Array Value} {n:Nat}: ∀ v,(seqObj c xs n).data≠ .cell v:=fun v z=>by cases z
theorem mf {st:SortSt} (I:Inv X (pins++(own0++[(a,seqObj "list" #[] e1),(kS,seqObj "list" keys e)])) σ H s) (f0: ∀ p∈own0,FpS X pins p.1) (fa:FpS X pins a) (fk:FpS X pins kS) (hka:kS≠a) (h0a: ∀ p∈own0,p.1≠a/\p.1≠kS)
  (hk:IntsAre keys.toList kz) (hlen:kz.length=vs.length) (h64:vs.length<64) (hp:(arrOf st).Perm (keys.zip vs.toArray)) (hs:SortedTo (arrOf st) (arrOf st).size) (hfl:failedOf st=none)
  (h: ∀ s' out c,Inv X (pins++(own0++[(a,seqObj "list" out c)])) σ H s'->KskOut false kz vs out.toList->P (.done (.ret .none)) s'):
  wpAny (model X.prog X.w) A (ksk_tail a false e1 (.ref kS) st) P E s:=by
 have ma:(a,seqObj "list" #[] e1)∈own0++[(a,seqObj "list" #[] e1),(kS,seqObj "list" keys e)]:=List.mem_append_right _ (.head _)
 have mk:(kS,seqObj "list" keys e)∈own0++[(a,seqObj "list" #[] e1),(kS,seqObj "list" keys e)]:=List.mem_append_right _ (.tail _ (.head _))
 have na:=(I.fpPin ma).1
 have nk:=(I.fpPin mk).1
 have hsz:keys.size=vs.length:=by
  have h1:=hk.length
  rw [Array.length_toList]at h1
  omega
 have hsz2:(arrOf st).size=vs.length:=by rw [hp.size_eq,Array.size_zip,hsz,List.size_toArray,Nat.min_self]
 have hout:((arrOf st).map (·.2)).size=vs.length:=by rw [Array.size_map];exact hsz2
 have s1:=Heap.SameBut.update s.heap kS (Obj.mapSeq fun _=>(#[]:Array Value))
 have na1:(s.heap.update kS (Obj.mapSeq fun _=>(#[]:Array Value))).get? a=some (seqObj "list" #[] e1):=(s1.2 a hka.symm).trans na
 have s2:=Heap.SameBut.update (s.heap.update kS (Obj.mapSeq fun _=>(#[]:Array Value))) a (Obj.mapSeq fun _=>(arrOf st).map (·.2))
 obtain ⟨c2,hc2⟩: ∃ c2,((s.heap.update kS (Obj.mapSeq fun _=>(#[]:Array Value))).update a (Obj.mapSeq fun _=>(arrOf st).map (·.2))).get? a=some (seqObj "list" ((arrOf st).map (·.2)) c2):=
  ⟨_,get?_update_seq na1 fun _=>(arrOf st).map (·.2)⟩
 unfold ksk_tail
 try dsimp only
 refine wpAny_bind (listUpdate_at nk rfl ?_ (by rw [hsz,sizeLine_eq];omega) (Nat.zero_le _))
 refine wpAny_bind (wpAny_letGo ?_)
 refine wpAny_bind (seqEpoch_at na1 rfl ?_)
 refine wpAny_bind (listUpdate_at na1 rfl ?_ (Nat.zero_le _) (by simp only [Bool.false_eq_true,if_false];exact Nat.le_trans (Nat.le_of_eq hout) (by rw [sizeLine_eq];omega)))
 rw [hfl]
 simp only [bne_self_eq_false,Bool.false_eq_true,if_false]
 refine wpAny_pure (h _ _ c2 ?_ (ksk_out (b:=false) hk hp hs))
 refine I.own (t':=s.toks) (fun p hp=>I.fpp hp ?_) (fun b o hb ho=>?_) (fun p hp=>?_)
 ·rcases List.mem_append.mp hp with hp | hp
  ·exact f0 p hp
  ·rcases List.mem_cons.mp hp with rfl | hp
   ·exact fa
   ·rw [List.mem_singleton.mp hp];exact fk
 ·exact (s2.2 b fun z=>hb _ ma z.symm).trans ((s1.2 b fun z=>hb _ mk z.symm).trans ho)
 ·rcases List.mem_append.mp hp with hp | hp
  ·have m0:=List.mem_append_left [(a,seqObj "list" #[] e1),(kS,seqObj "list" keys e)] hp
   exact ⟨⟨p,m0,rfl⟩,(s2.2 _ (h0a p hp).1).trans ((s1.2 _ (h0a p hp).2).trans (I.fpPin m0).1),I.pno m0⟩
  ·rw [List.mem_singleton.mp hp]
   exact ⟨⟨_,ma,rfl⟩,hc2,cC⟩
theorem sB (I:Inv X (pins++(own0++[(a,seqObj "list" #[] e1),(kS,seqObj "list" keys e)])) σ H s) (f0: ∀ p∈own0,FpS X pins p.1) (fa:FpS X pins a) (fk:FpS X pins kS) (hka:kS≠a) (h0a: ∀ p∈own0,p.1≠a/\p.1≠kS)
  (hk:IntsAre keys.toList kz) (hlen:kz.length=vs.length) (h64:vs.length<64)
  (h: ∀ s' out c,Inv X (pins++(own0++[(a,seqObj "list" out c)])) σ H s'->KskOut false kz vs out.toList->P (.done (.ret .none)) s'):
  wpAny (model X.prog X.w) A (ksk_end a false vs.toArray e1 (.ref kS) keys) P E s:=by
 have hsz:keys.size=vs.length:=by
  have h1:=hk.length
  rw [Array.length_toList]at h1
  omega
 have hzs:(keys.zip vs.toArray).size=vs.length:=by rw [Array.size_zip,hsz,List.size_toArray,Nat.min_self]
 unfold ksk_end
 try dsimp only
 simp only [Bool.false_eq_true,if_false]
 by_cases h2:vs.toArray.size<2
 ·rw [if_pos h2,if_pos h2]
  refine wpAny_bind (wpAny_pure ?_)
  rw [StateT.run_pure]
  refine wpAny_bind (wpAny_pure ?_)
  try dsimp only
  refine mf (st:=SortSt.mk' general' (keys.zip vs.toArray) #[] 7 none) I f0 fa fk hka h0a hk hlen h64 (Array.Perm.refl _) ?_ rfl h
  intro i j hij hj
  have hj2:j< (keys.zip vs.toArray).size:=hj
  rw [hzs]at hj2
  rw [List.size_toArray]at h2
  have:i=j:=by omega
  subst this
  exact Int.le_refl _
 ·rw [if_neg h2,if_neg h2]
  rw [List.size_toArray]at h2
  rw [ksk_kind hk (by rw [hsz];omega)]
  refine wpAny_bind (wpAny_pure ?_)
  refine wpAny_bind (wpAny_mono (wpS_sortRuns (a₀:=keys.zip vs.toArray) (st:=SortSt.mk' oneType' (keys.zip vs.toArray) #[] 7 none)
   (Q:=fun _ st'=>(arrOf st').Perm (keys.zip vs.toArray)/\failedOf st'=none/\SortedTo (arrOf st') (keys.zip vs.toArray).size)
   (ksk_intKeys hk) ⟨Array.Perm.refl _,rfl,rfl,rfl⟩ (by rw [hzs];omega) (by rw [hzs];exact h64) fun st' a1 a2 a3=>⟨a1,a2,a3⟩) ?_ fun _ _ e=>e)
  rintro ⟨⟨⟩,st'⟩ s' ⟨rfl,hp,hf,hs⟩
  try dsimp only
  exact mf I f0 fa fk hka h0a hk hlen h64 hp (by rw [hp.size_eq];exact hs) hf h
theorem qJ {f:Value} (I:Inv X (pins++(own0++[(a,seqObj "list" #[] e1),(kS,seqObj "list" #[] 0)])) σ H s) (hT:T H) (f0: ∀ p∈own0,FpS X pins p.1) (fa:FpS X pins a) (fk:FpS X pins kS) (hka:kS≠a) (h0a: ∀ p∈own0,p.1≠a/\p.1≠kS)
  (hlen:kz.length=vs.length) (h64:vs.length<64) (turn:qA X pins own0 σ T A f vs kz)
  (h: ∀ s' H' out c,T H'->Inv X (pins++(own0++[(a,seqObj "list" out c)])) σ H' s'->KskOut false kz vs out.toList->P (.done (.ret .none)) s'):
  wpAny (model X.prog X.w) A (ksk_rest a f false vs.toArray e1 (.ref kS)) P E s:=by
 unfold ksk_rest
 refine wpAny_bind (wpAny_rule ?_)
 first
  | rw [List.forIn_toArray]
  | (rw [<- Array.forIn_toList];simp only [List.toList_toArray])
  | rw [<- Array.forIn_toList]
 refine wpAny_bind (ksk_fold (fun i s'=> ∃ H' kA e,T H'/\Inv X (pins++(own0++[(a,seqObj "list" #[] e1),(kS,seqObj "list" kA e)])) σ H' s'/\IntsAre kA.toList (kz.take i)) vs 0 s
  ⟨H,#[],0,hT,I,by simpa using IntsAre.nil⟩ ?step ?done)
 case step=>
  rintro j x s' hx ⟨H',kA,e,hT',I',hk⟩
  simp only [Nat.zero_add]at hk ⊢
  have hj:j<vs.length:=(List.getElem?_eq_some_iff.mp hx).1
  obtain ⟨k,hkj⟩: ∃ k,kz[j]? =some k:=⟨_,List.getElem?_eq_getElem (by omega)⟩
  have hz:kA.size<=vs.length:=by
   have h1:=hk.length
   rw [Array.length_toList,List.length_take]at h1
   omega
  refine wpAny_bind (wpAny_attempt (wpAny_mono (turn j x k hx hkj _ H' s' (fun p hp=>List.mem_append_left _ hp) I' hT') (fun v s'' he=>?_) fun _ _ hF=>hF.elim))
  obtain ⟨t2,H2,rfl,I2,hT2⟩:=he
  try dsimp only
  have ma:(a,seqObj "list" #[] e1)∈own0++[(a,seqObj "list" #[] e1),(kS,seqObj "list" kA e)]:=List.mem_append_right _ (.head _)
  have mk:(kS,seqObj "list" kA e)∈own0++[(a,seqObj "list" #[] e1),(kS,seqObj "list" kA e)]:=List.mem_append_right _ (.tail _ (.head _))
  have nk:=(I2.fpPin mk).1
  have s1:=Heap.SameBut.update s''.heap kS (Obj.mapSeq (·.push (.int k t2)))
  obtain ⟨c2,hc2⟩: ∃ c2,(s''.heap.update kS (Obj.mapSeq (·.push (.int k t2)))).get? kS=some (seqObj "list" (kA.push (.int k t2)) c2):=⟨_,get?_update_seq nk (·.push (.int k t2))⟩
  have ek:kz.take (j+1)=kz.take j++[k]:=by rw [List.take_add_one,hkj];simp
  have ea:(kA.push (Value.int k t2)).toList=kA.toList++[Value.int k t2]:=by simp
  refine wpAny_bind (listUpdate_at nk rfl ?_ (by rw [sizeLine_eq];omega) (Nat.le_trans (Nat.le_of_eq (Array.size_push ..)) (by rw [sizeLine_eq];omega)))
  refine wpAny_pure ⟨rfl,H2,kA.push (.int k t2),c2,hT2,?_,by rw [ea,ek];exact ksk_snoc hk⟩
  refine I2.own (t':=s''.toks) (fun p hp=>I2.fpp hp ?_) (fun b o hb ho=>?_) (fun p hp=>?_)
  ·rcases List.mem_append.mp hp with hp | hp
   ·exact f0 p hp
   ·rcases List.mem_cons.mp hp with rfl | hp
    ·exact fa
    ·rw [List.mem_singleton.mp hp];exact fk
  ·exact (s1.2 b fun z=>hb _ mk z.symm).trans ho
  ·rcases List.mem_append.mp hp with hp | hp
   ·have m0:=List.mem_append_left [(a,seqObj "list" #[] e1),(kS,seqObj "list" kA e)] hp
    exact ⟨⟨p,m0,rfl⟩,(s1.2 _ (h0a p hp).2).trans (I2.fpPin m0).1,I2.pno m0⟩
   ·rcases List.mem_cons.mp hp with rfl | hp
    ·exact ⟨⟨_,ma,rfl⟩,(s1.2 _ hka.symm).trans (I2.fpPin ma).1,cC⟩
    ·rw [List.mem_singleton.mp hp]
     exact ⟨⟨_,mk,rfl⟩,hc2,cC⟩
 case done=>
  rintro s' ⟨H',kA,e,hT',I',hk⟩
  have hk':IntsAre kA.toList kz:=by
   have e3:kz.take (0+vs.length)=kz:=List.take_of_length_le (by omega)
   rw [e3]at hk
   exact hk
  have nk:=(I'.fpPin (p:=(kS,seqObj "list" kA e)) (List.mem_append_right _ (.tail _ (.head _)))).1
  try dsimp only
  refine wpAny_bind (listItems_at nk rfl ?_)
  exact sB I' f0 fa fk hka h0a hk' hlen h64 fun s3 out c I3 k3=>h s3 H' out c hT' I3 k3
theorem qI {f:Value} {n:Nat} (I:Inv X (pins++(own0++[(a,seqObj "list" vs.toArray n)])) σ H s) (hT:T H) (f0: ∀ p∈own0,FpS X pins p.1) (fa:FpS X pins a) (h0a: ∀ p∈own0,p.1≠a)
  (hlen:kz.length=vs.length) (h64:vs.length<64) (turn:qA X pins own0 σ T A f vs kz)
  (h: ∀ s' H' out c,T H'->Inv X (pins++(own0++[(a,seqObj "list" out c)])) σ H' s'->KskOut false kz vs out.toList->P (.done (.ret .none)) s'):
  wpAny (model X.prog X.w) A (ksk_tree a f false) P E s:=by
 have ma:(a,seqObj "list" vs.toArray n)∈own0++[(a,seqObj "list" vs.toArray n)]:=List.mem_append_right _ (.head _)
 have ho:=(I.fpPin ma).1
 have ha:a<s.heap.objs.size:=Heap.lt_size ho
 have s1:=Heap.SameBut.update s.heap a (Obj.mapSeq fun _=>(#[]:Array Value))
 obtain ⟨e1,ho1⟩: ∃ e1,(s.heap.update a (Obj.mapSeq fun _=>(#[]:Array Value))).get? a=some (seqObj "list" #[] e1):=⟨_,get?_update_seq ho fun _=> #[]⟩
 have I1:Inv X (pins++(own0++[(a,seqObj "list" #[] e1)])) σ H {s with heap:=s.heap.update a (Obj.mapSeq fun _=>(#[]:Array Value))}:=by
  refine I.own (t':=s.toks) (fun p hp=>I.fpp hp ?_) (fun b o hb ho=>?_) (fun p hp=>?_)
  ·rcases List.mem_append.mp hp with hp | hp
   ·exact f0 p hp
   ·rw [List.mem_singleton.mp hp];exact fa
  ·exact (s1.2 b fun z=>hb _ ma z.symm).trans ho
  ·rcases List.mem_append.mp hp with hp | hp
   ·have m0:=List.mem_append_left [(a,seqObj "list" vs.toArray n)] hp
    exact ⟨⟨p,m0,rfl⟩,(s1.2 _ (h0a p hp)).trans (I.fpPin m0).1,I.pno m0⟩
   ·rw [List.mem_singleton.mp hp]
    exact ⟨⟨_,ma,rfl⟩,ho1,cC⟩
 have hsz:(s.heap.update a (Obj.mapSeq fun _=>(#[]:Array Value))).objs.size=s.heap.objs.size:=Heap.size_update ..
 have hkS:((s.heap.update a (Obj.mapSeq fun _=>(#[]:Array Value))).push (seqObj "tuple" vs.toArray 0)).objs.size=s.heap.objs.size+1:=by rw [size_push',Heap.size_update]
 have J:=I1.ownNew (h':=((s.heap.update a (Obj.mapSeq fun _=>(#[]:Array Value))).push (seqObj "tuple" vs.toArray 0)).push (seqObj "list" #[] 0)) (t':=s.toks) (n:=((s.heap.update a (Obj.mapSeq fun _=>(#[]:Array Value))).push (seqObj "tuple" vs.toArray 0)).objs.size) (o:=seqObj "list" #[] 0)
  (fun b ob e=>Heap.get?_push_of_some _ (Heap.get?_push_of_some _ e)) (by show (s.heap.update a _).objs.size<=_;rw [hkS,hsz];exact Nat.le_succ _) (Heap.get?_push_size _ rfl) cC
 unfold ksk_tree
 refine wpAny_bind (listItems_at ho rfl ?_)
 refine wpAny_bind (listUpdate_at ho rfl ?_ (by rw [List.size_toArray,sizeLine_eq];omega) (Nat.zero_le _))
 refine wpAny_bind (seqEpoch_at ho1 rfl ?_)
 refine wpAny_bind (wpAny_newTuple ?_ (by show vs.length<=_;rw [sizeLine_eq];omega))
 refine wpAny_bind (wpAny_newList ?_ (Nat.zero_le _))
 refine wpAny_holding ?_
 have J1:=J.1
 rw [List.append_assoc]at J1
 refine qJ (s:={s with heap:=((s.heap.update a (Obj.mapSeq fun _=>(#[]:Array Value))).push (seqObj "tuple" vs.toArray 0)).push (seqObj "list" #[] 0)}) (kS:=((s.heap.update a (Obj.mapSeq fun _=>(#[]:Array Value))).push (seqObj "tuple" vs.toArray 0)).objs.size)
  J1 hT f0 fa J.2.2 (by rw [hkS];exact Nat.ne_of_gt (Nat.lt_succ_of_lt ha)) (fun p hp=>⟨h0a p hp,by rw [hkS];exact Nat.ne_of_lt (Nat.lt_succ_of_lt (Heap.lt_size (I.fpPin (List.mem_append_left _ hp)).1))⟩) hlen h64 turn h
end
theorem pX {P:Program} {w:World} {K:PySem.W.Frag} {mg:Str->Option Value} {base:Heap} {k:Nat} {fl c':Addr} {nm qual:Str} {params:Arguments} {body:Expr} {scope:Scope} {cl:List (Str×Addr)} {pm ctv:Value} {oc:Obj} {vc:Array Value} {tq:Tok}
  {ps ys:List Str} {cs:List V} {sp:Sp}
  (hfl:base.get? fl=some (PySem.W.kla_obj nm qual params body scope cl pm c' ctv)) (hoc:oc.data=.fields vc) (hq:vc[1]? =some (.str qual tq)) (S:iK ps ys scope)
  (hcell: ∀ x c,cl.lookup x=some c-> ∃ v,base.IsCell c v) (hinj: ∀ x y c,cl.lookup x=some c->cl.lookup y=some c->x=y)
  (hcap: ∀ (j:Nat) (y:Str),ys[j]? =some y-> ∃ c v u,cs[j]? =some v/\cl.lookup y=some c/\base.IsCell c (some u)/\RelV v u) (hcs:cs.length=ys.length)
  (hE0: ∀ vs H Q E,sp vs H Q E->sp vs H Q E0) (len: ∀ vs H Q,sp vs H Q E0->vs.length=ps.length) (hH: ∀ vs H Q,sp vs H Q E0->H c'=some (.ext fun h=>h.get? c'=some oc))
  (hE: ∀ (A:Around) (outer:List Env) (s:Shared) (H:Hp) (vs:List V) (Q:VK),Room k (A.deeper (PySem.W.envX qual scope s.heap.objs.size fl (.ref c') cl))->sp vs H Q E0->
   ∃ t,PE (rY P w K mg base (ps++ys) qual scope fl (.ref c') cl A outer s H) body t/\t (vs.map some++cs.map some) H Q):ay P w K mg base CX0 (k+1) fl (PySem.W.kla_fn nm qual params body scope cl pm (.ref c') ctv) ps sp:=by
 refine ⟨fun vs H Q E h=>len vs H Q (hE0 vs H Q E h),fun A outer s H args us vs Q E hr e0 hb r h0=>?_⟩
 have h:=hE0 _ _ _ _ h0
 have hlv:=len vs H Q h
 have hlu:us.length=ps.length:=by rw [<- r.length];exact hlv
 have hc':s.heap.get? c'=some oc:=(show ObjOk P w H s.heap c' (.ext fun h=>h.get? c'=some oc)from e0.hok c' _ (hH vs H Q h)).1
 obtain ⟨t,hPE,ht⟩:=hE A outer s H vs Q (hr.deeper _) h
 refine PySem.W.kla_callFunE hr.depth (e0.bs _ _ hfl).1 rfl S.co S.gen rfl ⟨c',oc,vc,tq,rfl,hc',hoc,hq⟩ (hb _ _ _ _ ?_)
 refine wpAny_newFunctionEnv S.nocell (fun x hx=>S.par _ (List.of_mem_zip hx).1) (fun h₁ hns hsb=>?_) S.kind
 have hk: ∀ b o,s.heap.get? b=some o->h₁.get? b=some o:=fun b o e=>hsb.extBut b o (Nat.ne_of_lt (Heap.lt_size e)) (Heap.get?_push_of_some _ e)
 refine ⟨(e0.mod.nolimit.keeps fun b o e=>(e0.bs b o e).1).keeps hk,?_⟩
 show codeAny _ _ (.expr body (PySem.W.envX qual scope s.heap.objs.size fl (.ref c') cl)) _ _
 refine PySem.W.kla_codeExpr ?_
 have hcl: ∀ x c,cl.lookup x=some c->H c=none/\ ∃ v,h₁.IsCell c v:=fun x c e=>by
  obtain ⟨v,o,ho,hd⟩:=hcell x c e
  obtain ⟨e1,e2⟩:=e0.bs c o ho
  exact ⟨e2,v,o,hk _ _ e1,hd⟩
 have IY:Inv (rY P w K mg base (ps++ys) qual scope fl (.ref c') cl A outer s H) [] (vs.map some++cs.map some) H {s with heap:=h₁,toks:=s.toks+ (ps.zip us).length}:=by
  have noA: ∀ b:Addr,b∉([]:List Addr):=fun b z=>by cases z
  refine ⟨⟨e0.mod,S.kind,rfl,rfl,Nat.le_refl _,hinj,fun y hy=>?_,fun y c hf _=>(by cases hf),fun _=>hr.hd,Around.frames_deeper e0.frames,.inr ⟨rfl,rfl⟩,fun b z=>absurd z (noA b),e0.bs,e0.bsz,fun b _ _=>noA b,fun b z=>absurd z (noA b),e0.funs,e0.frf⟩,
   rfl,e0.bare,Un.kept hk,⟨_,hns,fun i y v h1 h2 h3=>?_⟩,fun y c e=>(hcl y c e).2,e0.hok.fresh (Nat.le_refl _),fun y c e=>(hcl y c e).1,fun p hp=>absurd (show p∈([]:List (Addr×Obj))from hp) (by simp),e0.hok.kept hk,?_⟩
  ·have hy': ∃ kd,scope.names.lookup y=some kd/\(kd=.cell\/kd=.free):=by
    rcases hy with z | z
    ·exact ⟨_,z,.inl rfl⟩
    ·exact ⟨_,z,.inr rfl⟩
   obtain ⟨kd,hl,hkd⟩:=hy'
   have hmem:=L2.mem_of_lookup hl
   rcases hkd with z | z
   ·exact absurd z (S.nocell _ hmem)
   ·obtain ⟨j,hj⟩:=List.mem_iff_getElem?.mp (S.has _ hmem z)
    obtain ⟨c,_,_,_,e,_⟩:=hcap j y hj
    exact ⟨c,e⟩
  ·have h1':(ps++ys)[i]? =some y:=h1
   by_cases hi:i<ps.length
   ·rw [List.getElem?_append_left hi]at h1'
    rw [List.getElem?_append_left (by rw [List.length_map,hlv];exact hi),List.getElem?_map]at h2
    cases hv:vs[i]? with
    | none=>rw [hv]at h2;cases h2
    | some v0=>
     rw [hv]at h2
     cases h2
     obtain ⟨u,hu,ru⟩:=r.get hv
     refine ⟨u,ru,.inl ⟨S.par y (List.mem_of_getElem? h1'),gT (List.nodup_append.mp S.nd).1 h1' hu⟩⟩
   ·rw [List.getElem?_append_right (by omega)]at h1'
    rw [List.getElem?_append_right (by rw [List.length_map,hlv];omega),List.getElem?_map,List.length_map,hlv]at h2
    obtain ⟨c,v0,u,e1,e2,e3,e4⟩:=hcap _ y h1'
    rw [e1]at h2
    cases h2
    obtain ⟨o,ho,hd⟩:=e3
    exact ⟨u,e4,.inr ⟨.inr (S.fre y (List.mem_of_getElem? h1')),c,e2,o,hk _ _ ((e0.bs _ _ ho).1),hd⟩⟩
  ·show (vs.map some++cs.map some).length=(ps++ys).length
   rw [List.length_append,List.length_append,List.length_map,List.length_map,hlv,hcs]
 refine wpAny_mono (hPE [] _ _ H Q IY ht) (fun u s' ⟨v,H',J,rv,q⟩=>⟨v,H',J.os,J.bare,J.base,J.hok,rv,q⟩) fun _ _ z=>z.elim
noncomputable def iJ (qual:Str) (Pt:Addr) (lpos:Pos) (R:Addr->Obj->Hp->Prop) (H1:Hp):Prop:= ∃ ps:Array Value,H1 Pt=some (.tbl ps)/\TriplesOk ps.toList/\
 ((codeAmong lpos ps.toList=none/\ ∀ c' oc,H1 c'=none->c'≠Pt->cj oc qual->R c' oc (upd (upd H1 Pt (.tbl (ps++ #[rawInt lpos.line,rawInt lpos.col,.ref c']))) c' (dh c' oc)))\/
  ∃ c' oc,codeAmong lpos ps.toList=some (.ref c')/\H1 c'=some (dh c' oc)/\cj oc qual/\R c' oc H1)
section
variable {X:Cx} {pins:List (Addr×Obj)} {σ:St} {H:Hp} {s:Shared}
noncomputable abbrev cH (X:Cx) (params:Arguments) (body:Expr) (scope:Scope) (pm:Value) (c':Addr) (ctv:Value):Obj:=PySem.W.kla_obj "<lambda>" (X.env.qual++"<lambda>") params body scope (br X.env.cells scope.names) pm c' ctv
theorem qh {c Pt:Addr} {body:Expr} {params:Arguments} {scope:Scope} {lpos:Pos} {ys:List Str} {fr:List Nat} {R:Addr->Obj->Hp->Prop} {H1:Hp} {s1:Shared}
  (hC:PySem.W.CodeHd X.base c Pt) (hcode:X.env.code=.ref c) (hB:X.base.BuiltinsAt X.mg Pt) (ok:eC X.env.scope X.N scope ys fr) (hdef:defaultsOf params X.env=([],[]))
  (I1:Inv X pins σ H1 s1) (h:iJ (X.env.qual++"<lambda>") Pt lpos R H1):
  wpAny (model X.prog X.w) X.A (eval (.Lambda params body scope lpos) X.env) (fun v s2=> ∃ fl c' oc pm ctv H2,v=.ref fl/\Inv X (pins++[(fl,cH X params body scope pm c' ctv)]) σ H2 s2/\FpS X pins fl/\cj oc (X.env.qual++"<lambda>")/\H2 c'=some (dh c' oc)/\R c' oc H2) X.xe s1:=by
 obtain ⟨ps,hP,ht,q⟩:=h
 have hcl:closureFor scope X.env=pure (br X.env.cells scope.names):=cL fun y hy z=>I1.ok.has y.1 (.inl (ok.free y hy z))
 have hPs:s1.heap.get? Pt=some (PySem.W.tabObj ps):=(show ObjOk X.prog X.w H1 s1.heap Pt (.tbl ps)from I1.hok Pt _ hP)
 have nP: ∀ {b:Addr},H1 b=none->b≠Pt:=fun hn z=>by rw [z,hP]at hn;cases hn
 have hgP:mainGlobals≠Pt:=by
  obtain ⟨o,es,ep,ho,_⟩:=I1.mod.glob
  exact nP (I1.bs _ _ ho).2
 have hB1:s1.heap.BuiltinsAt X.mg Pt:=by
  obtain ⟨bm,o,b1,b2,b3,b4,b5,b6⟩:=hB
  exact ⟨bm,o,b1,b2,b3,b4,I1.bk _ _ b5,b6⟩
 have fin: ∀ {fl c':Addr} {oc:Obj} {pm ctv:Value} {H2:Hp} {h2:Heap} {tk:Nat},Inv X pins σ H2 {s1 with heap:=h2,toks:=tk}->h2.get? fl=some (cH X params body scope pm c' ctv)->H2 fl=none->s1.heap.objs.size<=fl->cj oc (X.env.qual++"<lambda>")->H2 c'=some (dh c' oc)->R c' oc H2->
   ∃ fl' c' oc pm ctv H2,Value.ref fl=.ref fl'/\Inv X (pins++[(fl',cH X params body scope pm c' ctv)]) σ H2 {s1 with heap:=h2,toks:=tk}/\FpS X pins fl'/\cj oc (X.env.qual++"<lambda>")/\H2 c'=some (dh c' oc)/\R c' oc H2:=by
  intro fl c' oc pm ctv H2 h2 tk I2 hfl nfl hge hoc hc' hR
  have f:=I1.fpOk (H':=H2) hge nfl
  refine ⟨fl,c',oc,pm,ctv,H2,rfl,I2.pins_of fun p hp=>?_,f.2,hoc,hc',hR⟩
  rcases List.mem_append.mp hp with hp | hp
  ·exact I2.pin p (List.mem_append_right _ hp)
  ·rw [List.mem_singleton.mp hp]
   exact ⟨hfl,nfl,f.2.1,f.2.2.1,fun v z=>by cases z⟩
 refine PySem.W.kla_eval hdef ?_
 rcases q with ⟨hnf,q⟩ | ⟨c',oc,hf,hc',hoc,q⟩
 ·refine PySem.W.kla_makeFunction (mg:=X.mg) hcl I1.ok.glob (I1.mod.glob.keeps I1.bk) hcode (hC.keeps I1.bk) hPs ht hnf hgP hB1 fun c' ctv h' tk hx hge hlt hrec htb=>?_
  obtain ⟨c2,oc,vc,tq,e2,hoc,hd,hq1⟩:=hrec
  cases e2
  have nc:H1 c'=none:=I1.hok.fresh hge
  have ncP:c'≠Pt:=fun z=>by rw [z,hP]at nc;cases nc
  have old: ∀ b o,b≠Pt->s1.heap.get? b=some o->(h'.push (PySem.W.kla_obj "<lambda>" (X.env.qual++"<lambda>") params body scope (br X.env.cells scope.names) ((X.mg "__name__").getD .none) c' ctv)).get? b=some o:=fun b o hb eo=>Heap.get?_push_of_some _ (hx b o hb eo)
  have lt: ∀ {b:Addr} {o:Obj},s1.heap.get? b=some o->b≠c':=fun eo z=>absurd (Heap.lt_size eo) (by rw [z];exact Nat.not_lt.mpr hge)
  have I2:Inv X pins σ (upd (upd H1 Pt (.tbl (ps++ #[rawInt lpos.line,rawInt lpos.col,.ref c']))) c' (dh c' oc)) {s1 with heap:=h'.push (PySem.W.kla_obj "<lambda>" (X.env.qual++"<lambda>") params body scope (br X.env.cells scope.names) ((X.mg "__name__").getD .none) c' ctv),toks:=tk}:=by
   have up: ∀ {b:Addr} {oo:HO},H1 b=some oo->b≠Pt->(upd (upd H1 Pt (.tbl (ps++ #[rawInt lpos.line,rawInt lpos.col,.ref c']))) c' (dh c' oc)) b=some oo:=fun eo hb=>by rw [ah (ak eo nc),ah hb];exact eo
   have nt: ∀ {b:Addr} {oo:HO},H1 b=some oo->oo≠ .tbl ps->b≠Pt:=fun eo hne z=>by rw [z,hP]at eo;exact hne (Option.some.inj eo).symm
   refine I1.step (g':=s1.gens) (d':=s1.drawn) (ch:=[]) (fun b hb=>by cases hb) (fun b o _ _ _ eo n=>old b o (nP n) eo) (fun b o _ _ _ eo n=>⟨o.slots,old b o (nP n) eo⟩) (fun b o _ eo n=>by rw [ah (lt eo),ah (nP n)];exact n)
    (fun b o _ eo=>?_) (fun b xs eo=>up eo (nt eo (by simp))) (fun b o uo eo=>up eo (nt eo (by simp))) (fun b qs eo=>?_) (fun m hm=>?_) (fun b oo eo=>?_) I1.bare
   ·by_cases hb:b=Pt
    ·subst hb;exact ⟨_,Heap.get?_push_of_some _ htb⟩
    ·exact ⟨o,old b o hb eo⟩
   ·by_cases hb:b=Pt
    ·subst hb
     rw [hP]at eo
     cases eo
     exact ⟨_,by rw [ah (Ne.symm ncP),ad]⟩
    ·exact ⟨#[],by rw [up eo hb];simp⟩
   ·obtain ⟨o,es,ep,ho,r⟩:=hm
    exact ⟨o,es,ep,old _ o (nP I1.free) ho,r⟩
   ·by_cases hb:b=c'
    ·subst hb
     rw [ad]at eo
     cases eo
     exact ⟨Heap.get?_push_of_some _ hoc,⟨oc,Heap.get?_push_of_some _ hoc⟩,fun h1 h2 a1 a2=>a2 _ a1⟩
    ·rw [ah hb]at eo
     by_cases hbP:b=Pt
     ·subst hbP
      rw [ad]at eo
      cases eo
      exact Heap.get?_push_of_some _ htb
     ·rw [ah hbP]at eo
      refine (I1.hok b oo eo).stay (fun d' vo hd' q'=>old d' vo ?_ q') (fun d' q'=>up q' (nt q' (by simp))) fun d' xs q'=>up q' (nt q' (by simp))
      rcases hd' with z | z
      ·rw [z];exact hbP
      ·exact nt z (by simp)
  have nfl:(upd (upd H1 Pt (.tbl (ps++ #[rawInt lpos.line,rawInt lpos.col,.ref c']))) c' (dh c' oc)) h'.objs.size=none:=by
   have a1:h'.objs.size≠c':=Nat.ne_of_gt hlt
   have a2:h'.objs.size≠Pt:=Nat.ne_of_gt (Heap.lt_size htb)
   rw [ah a1,ah a2]
   exact I1.hok.fresh (Nat.le_trans hge (Nat.le_of_lt hlt))
  exact fin I2 (Heap.get?_push_size _ rfl) nfl (Nat.le_trans hge (Nat.le_of_lt hlt)) ⟨vc,tq,hd,hq1⟩ ad (q c' oc nc ncP ⟨vc,tq,hd,hq1⟩)
 ·refine PySem.W.kla_makeFunctionHit (mg:=X.mg) hcl I1.ok.glob (I1.mod.glob.keeps I1.bk) hcode (hC.keeps I1.bk) hPs ht hf hB1 fun ctv h' tk hkp hsz=>?_
  have I2:Inv X pins σ H1 {s1 with heap:=h'.push {cls:=.type "function",data:=.func (PySem.W.kla_fn "<lambda>" (X.env.qual++"<lambda>") params body scope (br X.env.cells scope.names) ((X.mg "__name__").getD .none) (.ref c') ctv)},toks:=tk}:=
   I1.kept fun b o eo=>Heap.get?_push_of_some _ (hkp b o eo)
  exact fin I2 (Heap.get?_push_size _ rfl) (I1.hok.fresh hsz) hsz hoc hc' q
end
section
variable {X:Cx} {pins own0:List (Addr×Obj)} {σ:St} {H:Hp} {s:Shared} {A:Around} {T:Hp->Prop} {vs:List Value} {kz:List Int} {xs:List V} {params:Arguments} {body:Expr} {scope:Scope} {ys:List Str} {fr:List Nat} {cs:List V} {fl c':Addr} {pm ctv:Value} {p1:Str} {sp:Sp} {k:Nat}
noncomputable def jg (X:Cx) (params:Arguments) (body:Expr) (scope:Scope) (ys:List Str) (cs:List V) (c':Addr) (k:Nat) (p1:Str) (sp:Sp):Prop:=
 ∀ (base:Heap) (fl:Addr) (pm ctv:Value),base.get? fl=some (cH X params body scope pm c' ctv)->rZ base (br X.env.cells scope.names) ys cs fl c' "<lambda>" (X.env.qual++"<lambda>") params body scope->
  ay X.prog X.w X.K X.mg base CX0 k fl (PySem.W.kla_fn "<lambda>" (X.env.qual++"<lambda>") params body scope (br X.env.cells scope.names) pm (.ref c') ctv) [p1] sp/\
  Binds X.K (PySem.W.kla_fn "<lambda>" (X.env.qual++"<lambda>") params body scope (br X.env.cells scope.names) pm (.ref c') ctv) [p1] []
theorem rn (hm:(fl,cH X params body scope pm c' ctv)∈own0) (ok:eC X.env.scope X.N scope ys fr) (hcs:bH fr σ=cs.map some) (hfn: ∀ x,X.fn x=true)
  (hA:A.frames=X.A.frames) (hh:A.handled=X.A.handled) (hr:Room k A) (hF:jg X params body scope ys cs c' k p1 sp) (hv:Vals xs vs)
  (hsp: ∀ (i:Nat) (x:V) (k:Int),xs[i]? =some x->kz[i]? =some k-> ∀ H,T H->sp [x] H (fun v H'=>v=.int k/\T H') E0):qA X pins own0 σ T A (.ref fl) vs kz:=by
 intro i v kk hvi hki own H s hown I hT
 have hp:=I.pin _ (List.mem_append_right _ (List.mem_append_right _ (hown _ hm)))
 have hfl:=I.fpPin (hown _ hm)
 have nff:fl∉frs X.stack:=fun z=>by
  rcases List.mem_cons.mp (I.stkSub fl z)with e | e
  ·exact hp.2.2.1 e
  ·exact hp.2.2.2.1 e
 have L:=pW (c':=c') I ok hcs hfl.1 hfl.2 nff hfn
 obtain ⟨F,hb⟩:=hF (dw X H s) fl pm ctv (dg hfl.1 hfl.2 nff) L
 have hl:xs.length=vs.length:=hv.length
 have hi:i<xs.length:=by rw [hl];exact (List.getElem?_eq_some_iff.mp hvi).1
 have hx:xs[i]? =some xs[i]:=List.getElem?_eq_getElem hi
 obtain ⟨u,hu,rx⟩:=hv.get hx
 rw [hvi]at hu
 cases hu
 refine wpAny_mono (mh (X:=(X.at A).nox) (f:=fl) (vs:=[xs[i]]) F hr hb ((I.at hA hh).wish _) (.cons rx .nil) (hsp i _ kk hx hki H hT)) (fun u s' h=>?_) fun e s' z=>z
 obtain ⟨y,H',J,ry,rfl,hT'⟩:=h
 obtain ⟨t,rfl⟩:=(show ∃ t,u=Value.int kk t from ry)
 exact ⟨t,H',rfl,J.unwish.unat hA hh,hT'⟩
end
theorem iX {α β:Type} (f:α->β): ∀ {ps qs:List β},ps.Perm qs-> ∀ L:List α,qs=L.map f-> ∃ L':List α,L'.Perm L/\L'.map f=ps:=by
 intro ps qs h
 induction h with
 | nil=>
  intro L e
  cases L with
  | nil=>exact ⟨[],.nil,rfl⟩
  | cons _ _=>cases e
 | cons x h ih=>
  intro L e
  cases L with
  | nil=>cases e
  | cons y r=>
   rw [List.map_cons]at e
   injection e with e1 e2
   obtain ⟨L',h1,h2⟩:=ih r e2
   exact ⟨y::L',h1.cons y,by rw [List.map_cons,h2,<- e1]⟩
 | swap x y l=>
  intro L e
  match L with
  | []=>cases e
  | [_]=>cases e
  | a::b::r=>
   rw [List.map_cons,List.map_cons]at e
   injection e with e1 e2
   injection e2 with e2 e3
   exact ⟨b::a::r,.swap ..,by rw [List.map_cons,List.map_cons,<- e1,<- e2,<- e3]⟩
 | trans h1 h2 ih1 ih2=>
  intro L e
  obtain ⟨L1,p1,e1⟩:=ih2 L e
  obtain ⟨L2,p2,e2⟩:=ih1 L1 e1.symm
  exact ⟨L2,p2.trans p1,e2⟩
theorem jP: ∀ {xs:List V} {vs:List Value},Vals xs vs-> ∀ p∈vs.zip xs,RelV p.2 p.1
 | _,_,.nil,p,h=>by cases h
 | _,_,.cons r t,p,h=>by
  rcases List.mem_cons.mp h with rfl | h
  ·exact r
  ·exact jP t p h
theorem jQ {α:Type} (f:α->V) (g:α->Value): ∀ {l:List α},(∀ p∈l,RelV (f p) (g p))->Vals (l.map f) (l.map g)
 | [],_=>.nil
 | p::r,h=>.cons (h p List.mem_cons_self) (jQ f g fun q hq=>h q (List.mem_cons_of_mem _ hq))
theorem pZ {kz:List Int} {vs out:List Value} {xs:List V} (hl:kz.length=vs.length) (hv:Vals xs vs) (h:KskOut false kz vs out): ∃ qs:List (Int×V),qs.Perm (kz.zip xs)/\qs.Pairwise (fun p q=>p.1<=q.1)/\Vals (qs.map (·.2)) out:=by
 obtain ⟨ps,hp,rfl,hs⟩:=h
 have hlx:xs.length=vs.length:=hv.length
 have e:kz.zip vs=(kz.zip (vs.zip xs)).map fun p=>(p.1,p.2.1):=by
  refine List.ext_getElem (by simp [hl,hlx]) fun i h1 h2=>?_
  simp
 obtain ⟨L,h1,h2⟩:=iX _ hp (kz.zip (vs.zip xs)) e
 refine ⟨L.map fun p=>(p.1,p.2.2),?_,?_,?_⟩
 ·have e2:kz.zip xs=(kz.zip (vs.zip xs)).map fun p=>(p.1,p.2.2):=by
   refine List.ext_getElem (by simp [hl,hlx]) fun i h1 h2=>?_
   simp
  rw [e2]
  exact h1.map _
 ·rw [<- h2]at hs
  rw [List.pairwise_map]at hs ⊢
  exact hs.imp fun {a b} h=>by simpa using h
 ·rw [<- h2,List.map_map,List.map_map]
  refine jQ _ _ fun p hp=>?_
  exact jP hv p.2 (List.of_mem_zip (h1.mem_iff.mp hp)).2
section
variable {X:Cx} {σ:St}
noncomputable def vH (X:Cx) (params:Arguments) (body:Expr) (scope:Scope) (ys:List Str) (fr:List Nat) (k:Nat) (p1:Str) (σ:St) (xs:List V) (fin:List Int->(Hp->Prop)->Prop) (c':Addr) (oc:Obj) (H:Hp):Prop:=
 ∃ (kz:List Int) (T:Hp->Prop) (sp:Sp) (cs:List V),kz.length=xs.length/\T H/\bH fr σ=cs.map some/\(∀ (i:Nat) (x:V) (k:Int),xs[i]? =some x->kz[i]? =some k-> ∀ H,T H->sp [x] H (fun v H'=>v=.int k/\T H') E0)/\
  (cj oc (X.env.qual++"<lambda>")->jg X params body scope ys cs c' k p1 sp)/\fin kz T
noncomputable def oH (X:Cx) (Pt:Addr) (params:Arguments) (body:Expr) (scope:Scope) (lpos:Pos) (ys:List Str) (fr:List Nat) (k:Nat) (p1:Str) (te:TE):TE:=fun σ H Q=>te σ H fun x H1=> ∃ a kvs,x=.ref a/\H1 a=some (.dK kvs)/\kvs.length<64/\
 iJ (X.env.qual++"<lambda>") Pt lpos (fun c' oc H2=>H2 a=some (.dK kvs)/\vH X params body scope ys fr k p1 σ (kvs.map fun q=>kV q.1)
  (fun kz T=> ∀ H3 p (qs:List (Int×V)),T H3->H3 p=none->qs.Perm (kz.zip (kvs.map fun q=>kV q.1))->qs.Pairwise (fun p q=>p.1<=q.1)->Q (.ref p) (upd H3 p (.lst (qs.map (·.2))))) c' oc H2) H1
theorem rW {P:Program} {w:World} {k:Key} {u:Value} (h:(aX P w).is k u=true):RelV (kV k) u:=by
 rw [lN]at h
 rcases a9 h with ⟨i,t,rfl,rfl⟩ | ⟨x,t,rfl,rfl⟩
 ·exact ⟨t,rfl⟩
 ·exact ⟨t,rfl⟩
theorem nU {P:Program} {w:World} {kvs:List (Key×V)} {ws:List (Key×Value)} {acc:List Value} (hkv:KV kvs ws) (hn:acc.length=ws.length) (h: ∀ (i:Nat) (v:Value),acc[i]? =some v-> ∃ k x,ws[i]? =some (k,x)/\(aX P w).is k v=true):Vals (kvs.map fun q=>kV q.1) acc:=by
 induction hkv generalizing acc with
 | nil=>cases acc with
  | nil=>exact .nil
  | cons _ _=>cases hn
 | @cons p q l m hpq _ ih=>
  cases acc with
  | nil=>cases hn
  | cons v r=>
   obtain ⟨k,x,e,hk⟩:=h 0 v rfl
   cases (Option.some.inj e:q=(k,x))
   refine .cons ?_ (ih (by simpa using hn) fun i v hv=>h (i+1) v hv)
   show RelV (kV p.1) v
   rw [hpq.1]
   exact rW hk
theorem lE {c Pt:Addr} {e body:Expr} {te:TE} {params:Arguments} {scope:Scope} {lpos kp p pos:Pos} {ys:List Str} {fr:List Nat} {k:Nat} {p1:Str}
  (hg:Gl X "sorted") (hm:X.mg "sorted"=none) (hc:X.calm=true) (he:PE X e te) (hC:PySem.W.CodeHd X.base c Pt) (hcode:X.env.code=.ref c) (hB:X.base.BuiltinsAt X.mg Pt) (ok:eC X.env.scope X.N scope ys fr) (hfn: ∀ x,X.fn x=true)
  (hdef:defaultsOf params X.env=([],[])) (hr:Room (k+2) X.A)
  (hs:starEach [e] X.env=[(false,eval e X.env)]:=by rfl):
  PE X (.Call (.Name "sorted" p) [e] [⟨some "key",.Lambda params body scope lpos,kp⟩] pos) (oH X Pt params body scope lpos ys fr k p1 te):=by
 intro pins s σ H Q I h
 refine wpAny_Call_Name_kw (dN I hg hm (show bootBuiltins "sorted"=some (.builtin "sorted") by decide +kernel) ?_)
 refine callWith_kw ?_ (by rw [hs];rfl) (by rw [hs];rfl)
 rw [hs]
 show wpAny _ _ (spliced ((false,eval e X.env)::[])) _ _ s
 refine Calls.spliced_cons (thn (he pins s σ H _ I h) fun u s1 ⟨x,H1,I1,r1,a,kvs,ex,ha,h64,q⟩=>Calls.spliced_nil ?_)
 subst ex
 cases r1
 refine kws_cons (thn (qh hC hcode hB ok hdef I1 q) fun v s2 hv=>kws_nil ?_)
 obtain ⟨fl,c',oc,pm,ctv,H2,rfl,I2,ffl,hoc,hc',ha2,kz,T,sp,cs,hlk,hT,hcs,hsp,hF,fin⟩:=hv
 show wpAny (model X.prog X.w) X.A (call (.builtin "sorted") [.ref a] [(Str.ofString "key",.ref fl)]) _ _ s2
 obtain ⟨hz,lo,ws,rel,dd⟩:=iB I2.hok ha2
 obtain ⟨od,es,ep,ho,hed,hdat,hko,hpr,hnd⟩:=dd
 have hlw:kvs.length=ws.length:=rel.length
 refine call_function_entry_kw kind_sorted plain_sorted entry_sorted (ksk_s1 _ _) ?_
 unfold Builtin.«sorted»
 refine wpAny_bind (m:=checkCount "sorted" 1 1 _) (wpAny_pure ?_)
 refine wpAny_bind (HT.collect_src (A:=X.A.in1) (PySem.W.kdl_dict (knd:=aX X.prog X.w) (d:=a) (kvs:=ws) (ep:=ep) lo) (I.ok.hd hc) ⟨od,es,ho,hed,hdat,hko,hpr,hnd⟩ (by omega) fun h' tk acc kp hi=>?_)
 obtain ⟨i1,i2⟩:=hi
 have hv:Vals (kvs.map fun q=>kV q.1) acc.toList:=nU rel (by rw [Array.length_toList];exact i1) fun i v hv=>i2 i v (by rw [<- Array.getElem?_toList];exact hv)
 have hvl:acc.toList.length=kvs.length:=by rw [Array.length_toList,i1,hlw]
 have hlk:kz.length=acc.toList.length:=by rw [hlk,List.length_map,hvl]
 have I3:Inv X (pins++[(fl,cH X params body scope pm c' ctv)]) σ H2 {s2 with heap:=h',toks:=tk}:=I2.kept kp
 refine wpAny_bind (wpAny_newList ?_ (by rw [hvl];omega))
 have J:=I3.ownNew (h':=h'.push (seqObj "list" acc.toList.toArray 0)) (t':=tk) (n:=h'.objs.size) (o:=seqObj "list" acc.toList.toArray 0) (fun b ob e=>Heap.get?_push_of_some _ e) (Nat.le_refl _) (Heap.get?_push_size _ rfl) cC
 have hnl:fl≠h'.objs.size:=Nat.ne_of_lt (Heap.lt_size (I3.fpPin (p:=(fl,cH X params body scope pm c' ctv)) (.head _)).1)
 refine wpAny_bind (wpAny_holding (wpAny_call_entry_kw slot_list_sort ⟨_,Heap.get?_push_size _ rfl,rfl⟩ entry_list_sort ?body (ksk_l1 _ _)))
 case body=>
  show wpAny (model X.prog X.w) X.A.in1.in1 (Builtin.«list.sort» ⟨[.ref h'.objs.size],[(Str.ofString "key",.ref fl)]⟩) _ _ _
  rw [ksk_t1]
  refine qI (T:=T) (kz:=kz) (vs:=acc.toList) (s:={s2 with heap:=h'.push (seqObj "list" acc.toList.toArray 0),toks:=tk}) J.1 hT (fun q hq=>by rw [List.mem_singleton.mp hq];exact ffl) J.2.2 (fun q hq=>by rw [List.mem_singleton.mp hq];exact hnl) hlk (by rw [hvl];exact h64)
   (rn (A:=X.A.in1.in1) (.head _) ok hcs hfn rfl rfl hr.in1.in1 (hF hoc) hv hsp) fun s' H' out c hT' I' k'=>⟨_,rfl,?_⟩
  refine wpAny_pure ⟨_,rfl,?_⟩
  obtain ⟨qs,q1,q2,q3⟩:=pZ hlk hv k'
  have hp:=(I'.fpPin (p:=(h'.objs.size,seqObj "list" out c)) (List.mem_append_right _ (.head _)))
  have fp:fP X pins H' h'.objs.size:=⟨hp.2,J.2.2⟩
  have I4:Inv X pins σ H' s':=I'.unpinned
  have hqn:(qs.map (·.2)).length<=sizeLine:=by
   rw [List.length_map,q1.length_eq,List.length_zip,List.length_map]
   omega
  have I5:Inv X pins σ (upd H' h'.objs.size (.lst (qs.map (·.2)))) s':=by
   have:=I4.step (H':=upd H' h'.objs.size (.lst (qs.map (·.2)))) (h':=s'.heap) (g':=s'.gens) (d':=s'.drawn) (t':=s'.toks) (ch:=[h'.objs.size]) (fun b hb=>?_) (fun b o _ _ hb e _=>e) (fun b o _ _ hb e _=>⟨o.slots,e⟩) (fun b o hb e n=>by rw [ah (by simpa using hb)];exact n)
    (fun b o hb e=>⟨o,e⟩) (fun b zs e=>by rw [ah (ak e hp.2)];exact e) (fun b o uo e=>by rw [ah (ak e hp.2)];exact e) (fun b ps e=>⟨#[],by rw [ah (ak e hp.2),e];simp⟩) (fun m hm=>hm) (fun b uo e=>?_) I4.bare
   ·exact this
   ·rw [List.mem_singleton.mp hb]
    exact ⟨fp.2.2.2.1,fp.2.1,fp.2.2.2.2.1,fp.2.2.2.2.2⟩
   ·by_cases hb:b=h'.objs.size
    ·subst hb
     rw [ad]at e
     cases e
     refine ⟨hqn,out.toList,c,q3,?_⟩
     rw [Array.toArray_toList]
     exact hp.1
    ·rw [ah hb]at e
     exact (I4.hok b uo e).stay (fun c' v' _ q=>q) (fun c' q=>by rw [ah (ak q hp.2)];exact q) fun c' zs q=>by rw [ah (ak q hp.2)];exact q
  exact ⟨.ref h'.objs.size,_,I5,rfl,fin H' h'.objs.size qs hT' hp.2 q1 q2⟩
end
noncomputable def l5 (X:Cx) (pins own0:List (Addr×Obj)) (σ:St) (T:Hp->Prop) (A:Around) (f:Value) (xs:List V) (kf:Nat->Int):Prop:=
 ∀ (i:Nat) (x:V) (v:Value),xs[i]? =some x->RelV x v-> ∀ (own:List (Addr×Obj)) (H:Hp) (s:Shared),(∀ p∈own0,p∈own)->Inv X (pins++own) σ H s->T H->
  wpAny (model X.prog X.w) A (call f [v]) (fun r s'=> ∃ t H',r=.int (kf i) t/\Inv X (pins++own) σ H' s'/\T H') (fun _ _=>False) s
section
variable {X:Cx} {pins own0:List (Addr×Obj)} {σ:St} {A:Around} {T:Hp->Prop} {kf:Nat->Int} {xs:List V} {params:Arguments} {body:Expr} {scope:Scope} {ys:List Str} {fr:List Nat} {cs:List V} {fl c':Addr} {pm ctv:Value} {p1:Str} {sp:Sp} {k:Nat}
theorem p9 (hm:(fl,cH X params body scope pm c' ctv)∈own0) (ok:eC X.env.scope X.N scope ys fr) (hcs:bH fr σ=cs.map some) (hfn: ∀ x,X.fn x=true)
  (hA:A.frames=X.A.frames) (hh:A.handled=X.A.handled) (hr:Room k A) (hF:jg X params body scope ys cs c' k p1 sp)
  (hsp: ∀ (i:Nat) (x:V),xs[i]? =some x-> ∀ H,T H->sp [x] H (fun v H'=>v=.int (kf i)/\T H') E0):l5 X pins own0 σ T A (.ref fl) xs kf:=by
 intro i x v hx rx own H s hown I hT
 have hp:=I.pin _ (List.mem_append_right _ (List.mem_append_right _ (hown _ hm)))
 have hfl:=I.fpPin (hown _ hm)
 have nff:fl∉frs X.stack:=fun z=>by
  rcases List.mem_cons.mp (I.stkSub fl z)with e | e
  ·exact hp.2.2.1 e
  ·exact hp.2.2.2.1 e
 have L:=pW (c':=c') I ok hcs hfl.1 hfl.2 nff hfn
 obtain ⟨F,hb⟩:=hF (dw X H s) fl pm ctv (dg hfl.1 hfl.2 nff) L
 refine wpAny_mono (mh (X:=(X.at A).nox) (f:=fl) (vs:=[x]) F hr hb ((I.at hA hh).wish _) (.cons rx .nil) (hsp i _ hx H hT)) (fun u s' h=>?_) fun e s' z=>z
 obtain ⟨y,H',J,ry,rfl,hT'⟩:=h
 obtain ⟨t,rfl⟩:=(show ∃ t,u=Value.int (kf i) t from ry)
 exact ⟨t,H',rfl,J.unwish.unat hA hh,hT'⟩
end
section
variable {X:Cx} {pins own0:List (Addr×Obj)} {σ:St} {A:Around} {E:Value->Shared->Prop} {T:Hp->Prop} {kf:Nat->Int} {xs:List V} {l q It S:Addr} {R:Result->Shared->Prop}
theorem dq {o:Obj} {vs:Array Value} (h:o.data=.fields vs): ∀ v,o.data≠ .cell v:=fun v z=>by rw [h]at z;cases z
theorem Inv.own2 {H:Hp} {s:Shared} {o1 o2 o1' o2':Obj} {h':Heap} {t':Nat} (I:Inv X (pins++(own0++[(S,o1),(It,o2)])) σ H s) (f0: ∀ p∈own0,FpS X pins p.1) (fS:FpS X pins S) (fI:FpS X pins It) (h0: ∀ p∈own0,p.1≠S/\p.1≠It)
  (hk: ∀ b o,b≠S->b≠It->s.heap.get? b=some o->h'.get? b=some o) (g1:h'.get? S=some o1') (g2:h'.get? It=some o2') (d1: ∀ v,o1'.data≠ .cell v) (d2: ∀ v,o2'.data≠ .cell v):
  Inv X (pins++(own0++[(S,o1'),(It,o2')])) σ H {s with heap:=h',toks:=t'}:=by
 have m1:(S,o1)∈own0++[(S,o1),(It,o2)]:=List.mem_append_right _ (.head _)
 have m2:(It,o2)∈own0++[(S,o1),(It,o2)]:=List.mem_append_right _ (.tail _ (.head _))
 refine I.own (fun p hp=>I.fpp hp ?_) (fun b o hb ho=>?_) (fun p hp=>?_)
 ·rcases List.mem_append.mp hp with hp | hp
  ·exact f0 p hp
  ·rcases List.mem_cons.mp hp with rfl | hp
   ·exact fS
   ·rw [List.mem_singleton.mp hp];exact fI
 ·exact hk b o (fun z=>hb _ m1 z.symm) (fun z=>hb _ m2 z.symm) ho
 ·rcases List.mem_append.mp hp with hp | hp
  ·have m0:=List.mem_append_left [(S,o1),(It,o2)] hp
   exact ⟨⟨p,m0,rfl⟩,hk _ _ (h0 p hp).1 (h0 p hp).2 (I.fpPin m0).1,I.pno m0⟩
  ·rcases List.mem_cons.mp hp with rfl | hp
   ·exact ⟨⟨_,m1,rfl⟩,g1,d1⟩
   ·rw [List.mem_singleton.mp hp]
    exact ⟨⟨_,m2,rfl⟩,g2,d2⟩
theorem re (hh:A.handled=none) (hl: ∀ H,T H->H l=some (.lst xs)) (f0: ∀ p∈own0,FpS X pins p.1) (fS:FpS X pins S) (fI:FpS X pins It) (hSI:S≠It) (h0: ∀ p∈own0,p.1≠S/\p.1≠It)
  (turn:l5 X pins own0 σ T A.in1 (.ref q) xs kf)
  (hR: ∀ (i:Nat) (x:V) (v:Value) (H:Hp) (s:Shared),xs[i]? =some x->RelV x v->(∀ j,j<xs.length->kf i<=kf j)->Inv X pins σ H s->T H->R (.ok (.ret v)) s):
  ∀ (r j i:Nat) (H:Hp) (s:Shared) (xb:V) (vb:Value) (tb:Tok) (c:Nat) (oI:Obj),xs.length- (j+1)=r->j+1<=xs.length->Inv X (pins++(own0++[(S,seqObj "list" #[vb,.int (kf i) tb] c),(It,oI)])) σ H s->T H->s.heap.IsListIter It l (j+1)->(∀ v,oI.data≠ .cell v)->
   xs[i]? =some xb->RelV xb vb->i<=j->(∀ j',j'<=j->kf i<=kf j')->codeAny (model X.prog X.w) A (.builtin "min.loop" ⟨[.ref It,.ref q,.ref S],[]⟩) R s:=by
 have hname:(toString "min"++toString ".loop":String)="min.loop":=by decide
 intro r
 induction r with
 | zero=>
  intro j i H s xb vb tb c oI hr hj I hT hit hdI hxb rb hij hbest
  have hin:j+1=xs.length:=by omega
  have nS:=(I.fpPin (p:=(S,seqObj "list" #[vb,.int (kf i) tb] c)) (List.mem_append_right _ (.head _))).1
  obtain ⟨its,rv,pl,_⟩:=I.list (SqL.of (K:=X.K) (hl H hT))
  have hlI:l≠It:=fun z=>by
   have:=(I.fpPin (p:=(It,oI)) (List.mem_append_right _ (.tail _ (.head _)))).2
   have h2:=hl H hT
   rw [z]at h2
   rw [this]at h2
   cases h2
  have hsz:its.toArray.size=xs.length:=by rw [List.size_toArray];exact rv.length.symm
  have W:=Walks.list (prog:=X.prog) (w:=X.w) (A:=A.in1) hh It l hlI its.toArray
  refine codeAny_builtin PySem.F.entry_min_loop ?_
  rw [Around.under_plainId PySem.F.plain_min_loop _]
  show wpAny _ A.in1 (seqItems? (.ref S) >>= _) _ _ _
  refine wpAny_bind (wpAny_seqItems nS rfl ?_)
  show wpAny _ A.in1 (tryCatch (pyNext (.ref It)) _ >>= _) _ _ _
  refine wpAny_bind (wpAny_tryCatch (W.done _ _ _ ⟨by rw [hsz,<- hin];exact hit,pl.isList⟩ fun h' tk' hk'=>?_))
  have hS':=hk' S _ (by simpa using hSI) nS
  have s1:=Heap.SameBut.update h' S (Obj.mapSeq fun _=>(#[]:Array Value))
  show wpAny _ A.in1 (updateSeq S (fun _=> #[]) >>= _) _ _ _
  refine wpAny_bind ?_
  refine wpAny_updateSeq hS' rfl (wpAny_bind (wpAny_letGo (wpAny_pure ?_)))
  refine hR i xb vb H _ hxb rb (fun j' hj'=>hbest j' (by omega)) ?_ hT
  refine Inv.unpinned (pl:=[]) (I.own (own':=[]) (t':=tk') (fun p hp=>I.fpp hp ?_) (fun b o hb ho=>?_) (fun p hp=>by cases hp))
  ·rcases List.mem_append.mp hp with hp | hp
   ·exact f0 p hp
   ·rcases List.mem_cons.mp hp with rfl | hp
    ·exact fS
    ·rw [List.mem_singleton.mp hp];exact fI
  ·refine (s1.2 b fun z=>hb (S,_) (List.mem_append_right _ (.head _)) z.symm).trans (hk' b o (fun z=>?_) ho)
   exact hb (It,oI) (List.mem_append_right _ (.tail _ (.head _))) (List.mem_singleton.mp z).symm
 | succ r ih=>
  intro j i H s xb vb tb c oI hr hj I hT hit hdI hxb rb hij hbest
  have hlt:j+1<xs.length:=by omega
  have nS:=(I.fpPin (p:=(S,seqObj "list" #[vb,.int (kf i) tb] c)) (List.mem_append_right _ (.head _))).1
  obtain ⟨its,rv,pl,_⟩:=I.list (SqL.of (K:=X.K) (hl H hT))
  have hlI:l≠It:=fun z=>by
   have:=(I.fpPin (p:=(It,oI)) (List.mem_append_right _ (.tail _ (.head _)))).2
   have h2:=hl H hT
   rw [z]at h2
   rw [this]at h2
   cases h2
  have hsz:its.toArray.size=xs.length:=by rw [List.size_toArray];exact rv.length.symm
  have W:=Walks.list (prog:=X.prog) (w:=X.w) (A:=A.in1) hh It l hlI its.toArray
  refine codeAny_builtin PySem.F.entry_min_loop ?_
  rw [Around.under_plainId PySem.F.plain_min_loop _]
  show wpAny _ A.in1 (seqItems? (.ref S) >>= _) _ _ _
  refine wpAny_bind (wpAny_seqItems nS rfl ?_)
  show wpAny _ A.in1 (tryCatch (pyNext (.ref It)) _ >>= _) _ _ _
  refine wpAny_bind (wpAny_tryCatch (W.item (j+1) _ _ _ (by rw [hsz];exact hlt) ⟨hit,pl.isList⟩ fun v h' tk' hP hst' hk'=>?_))
  have hv:its[j+1]? =some v:=by simpa using hP
  obtain ⟨x,hx,rx⟩: ∃ x,xs[j+1]? =some x/\RelV x v:=by
   have hx:xs[j+1]? =some xs[j+1]:=List.getElem?_eq_getElem hlt
   obtain ⟨u,hu,ru⟩:=rv.get hx
   rw [hv]at hu
   cases hu
   exact ⟨_,hx,ru⟩
  obtain ⟨oI',hoI',hoc,hod⟩:=id hst'.1
  have I1:=I.own2 (h':=h') (t':=tk') (o1':=seqObj "list" #[vb,.int (kf i) tb] c) (o2':=oI') f0 fS fI h0 (fun b o _ h2 e=>hk' b o (by simpa using h2) e) (hk' S _ (by simpa using hSI) nS) hoI' cC (dq hod)
  show wpAny _ A.in1 (tryCatch (holding [v] (call (.ref q) [v])) _ >>= _) _ _ _
  refine wpAny_bind (wpAny_tryCatch (wpAny_holding (wpAny_mono (turn (j+1) x v hx rx _ H _ (fun p hp=>List.mem_append_left _ hp) I1 hT) (fun x' s'' he=>?_) fun _ _ hF=>hF.elim)))
  obtain ⟨t2,H2,rfl,I2,hT2⟩:=he
  have nS2:=(I2.fpPin (p:=(S,seqObj "list" #[vb,.int (kf i) tb] c)) (List.mem_append_right _ (.head _))).1
  have nI2:=(I2.fpPin (p:=(It,oI')) (List.mem_append_right _ (.tail _ (.head _)))).1
  have hit2:s''.heap.IsListIter It l (j+1+1):=⟨oI',nI2,hoc,hod⟩
  show wpAny _ A.in1 (tryCatch (holding [v,.int (kf (j+1)) t2] (richCompare .Lt (.int (kf (j+1)) t2) (.int (kf i) tb) >>= _)) _ >>= _) _ _ _
  refine wpAny_bind (wpAny_tryCatch (wpAny_holding (wpAny_bind (CmpOf.ints_lt (prog:=X.prog) (w:=X.w) (A:=A.in1) (P:=fun i v=> ∃ t,v=.int (kf i) t) kf (fun i v h=>h) (j+1) i _ _ _ _ _ ⟨t2,rfl⟩ ⟨tb,rfl⟩ ?_))))
  refine wpAny_bind (wpAny_holding (wpAny_truthy_bool ?_))
  refine wpAny_bind (wpAny_letGo (wpAny_pure ?_))
  by_cases hb':kf (j+1) <kf i
  ·have s1:=Heap.SameBut.update s''.heap S (Obj.mapSeq fun _=> #[v,.int (kf (j+1)) t2])
   obtain ⟨c2,hc2⟩: ∃ c2,(s''.heap.update S (Obj.mapSeq fun _=> #[v,.int (kf (j+1)) t2])).get? S=some (seqObj "list" #[v,.int (kf (j+1)) t2] c2):=⟨_,get?_update_seq nS2 fun _=> #[v,.int (kf (j+1)) t2]⟩
   simp only [hb',decide_true,if_true]
   refine wpAny_bind ?_
   refine wpAny_updateSeq nS2 rfl (wpAny_bind (wpAny_letGo ?_))
   rw [hname]
   have gI3:=(s1.2 It hSI.symm).trans nI2
   have I3:=I2.own2 (h':=s''.heap.update S (Obj.mapSeq fun _=> #[v,.int (kf (j+1)) t2])) (t':=s''.toks) (o1':=seqObj "list" #[v,.int (kf (j+1)) t2] c2) (o2':=oI') f0 fS fI h0 (fun b o h1 _ e=>(s1.2 b h1).trans e) hc2 gI3 cC (dq hod)
   refine wpAny_pure ⟨plainId_quiet PySem.F.plain_min_loop _,ih (j+1) (j+1) H2 _ x v t2 c2 oI' (by omega) hlt I3 hT2 ⟨oI',gI3,hoc,hod⟩ (dq hod) hx rx (Nat.le_refl _) fun j' hj'=>?_⟩
   by_cases e:j'=j+1
   ·subst e;omega
   ·have hb1:=hbest j' (by omega)
    omega
  ·simp only [hb',decide_false,Bool.false_eq_true,if_false]
   refine wpAny_bind (wpAny_letGo ?_)
   rw [hname]
   refine wpAny_pure ⟨plainId_quiet PySem.F.plain_min_loop _,ih (j+1) i H2 s'' xb vb tb c oI' (by omega) hlt I2 hT2 hit2 (dq hod) hxb rb (by omega) fun j' hj'=>?_⟩
   by_cases e:j'=j+1
   ·subst e;omega
   ·exact hbest j' (by omega)
end
section
variable {X:Cx} {σ:St}
noncomputable def tY (X:Cx) (Pt:Addr) (params:Arguments) (body:Expr) (scope:Scope) (lpos:Pos) (ys:List Str) (fr:List Nat) (k:Nat) (p1:Str) (te:TE):TE:=fun σ H Q=>te σ H fun x H1=> ∃ a xs,x=.ref a/\H1 a=some (.lst xs)/\0<xs.length/\
 iJ (X.env.qual++"<lambda>") Pt lpos (fun c' oc H2=> ∃ (kf:Nat->Int) (T:Hp->Prop) (sp:Sp) (cs:List V),T H2/\(∀ H,T H->H a=some (.lst xs))/\bH fr σ=cs.map some/\(∀ (i:Nat) (x:V),xs[i]? =some x-> ∀ H,T H->sp [x] H (fun v H'=>v=.int (kf i)/\T H') E0)/\
  (cj oc (X.env.qual++"<lambda>")->jg X params body scope ys cs c' k p1 sp)/\ ∀ H3 i x,T H3->xs[i]? =some x->(∀ j,j<xs.length->kf i<=kf j)->Q x H3) H1
theorem qT {c Pt:Addr} {e body:Expr} {te:TE} {params:Arguments} {scope:Scope} {lpos kp p pos:Pos} {ys:List Str} {fr:List Nat} {k:Nat} {p1:Str}
  (hg:Gl X "min") (hm:X.mg "min"=none) (hc:X.calm=true) (he:PE X e te) (hC:PySem.W.CodeHd X.base c Pt) (hcode:X.env.code=.ref c) (hB:X.base.BuiltinsAt X.mg Pt) (ok:eC X.env.scope X.N scope ys fr) (hfn: ∀ x,X.fn x=true)
  (hdef:defaultsOf params X.env=([],[])) (hr:Room (k+1) X.A)
  (hs:starEach [e] X.env=[(false,eval e X.env)]:=by rfl):
  PE X (.Call (.Name "min" p) [e] [⟨some "key",.Lambda params body scope lpos,kp⟩] pos) (tY X Pt params body scope lpos ys fr k p1 te):=by
 intro pins s σ H Q I h
 refine wpAny_Call_Name_kw (dN I hg hm (show bootBuiltins "min"=some (.builtin "min") by decide +kernel) ?_)
 refine callWith_kw ?_ (by rw [hs];rfl) (by rw [hs];rfl)
 rw [hs]
 show wpAny _ _ (spliced ((false,eval e X.env)::[])) _ _ s
 refine Calls.spliced_cons (thn (he pins s σ H _ I h) fun u s1 ⟨x,H1,I1,r1,l,xs,ex,ha,hne,q⟩=>Calls.spliced_nil ?_)
 subst ex
 cases r1
 refine kws_cons (thn (qh hC hcode hB ok hdef I1 q) fun v s2 hv=>kws_nil ?_)
 obtain ⟨fl,c',oc,pm,ctv,H2,rfl,I2,ffl,hoc,hc',kf,T,sp,cs,hT,hl,hcs,hsp,hF,fin⟩:=hv
 show wpAny (model X.prog X.w) X.A (call (.builtin "min") [.ref l] [(Str.ofString "key",.ref fl)]) _ _ s2
 have hh:X.A.handled=none:=I.ok.hd hc
 have hname:(toString "min"++toString ".loop":String)="min.loop":=by decide
 have turn:l5 X pins [(fl,cH X params body scope pm c' ctv)] σ T X.A.in1 (.ref fl) xs kf:=p9 (A:=X.A.in1) (.head _) ok hcs hfn rfl rfl hr.in1 (hF hoc) hsp
 obtain ⟨its,rv,pl,_⟩:=I2.list (SqL.of (K:=X.K) (hl H2 hT))
 refine kmk_tree PySem.F.kind_min PySem.F.plain_min PySem.F.entry_min (kmk_min_key _ _) ?_
 show wpAny _ X.A.in1 (Builtin.Builtins.bindParams "min" ["key","default"] 0 ⟨[],[(Str.ofString "key",.ref fl)]⟩ >>= _) _ _ s2
 refine wpAny_bind (wpAny_of_eq (show Builtin.Builtins.bindParams "min" ["key","default"] 0 ⟨[],[(Str.ofString "key",.ref fl)]⟩=pure [some (.ref fl),none]from rfl) ?_)
 refine wpAny_bind (wpAny_pure ?_)
 refine wpAny_bind (wpAny_pyIter_list pl.isList ?_)
 refine wpAny_bind (wpAny_newList ?_ (Nat.zero_le _))
 rw [hname]
 have J1:=I2.ownNew (h':=s2.heap.push {cls:=.type "list_iterator",data:=.fields #[.ref l,.int 0 0]}) (t':=s2.toks) (n:=s2.heap.objs.size) (o:={cls:=.type "list_iterator",data:=.fields #[.ref l,.int 0 0]}) (fun b ob e=>Heap.get?_push_of_some _ e) (Nat.le_refl _) (Heap.get?_push_size _ rfl) (dq rfl)
 have J2:=J1.1.ownNew (h':=(s2.heap.push {cls:=.type "list_iterator",data:=.fields #[.ref l,.int 0 0]}).push (seqObj "list" #[] 0)) (t':=s2.toks) (n:=(s2.heap.push {cls:=.type "list_iterator",data:=.fields #[.ref l,.int 0 0]}).objs.size) (o:=seqObj "list" #[] 0) (fun b ob e=>Heap.get?_push_of_some _ e) (Nat.le_refl _) (Heap.get?_push_size _ rfl) cC
 have fI:FpS X pins s2.heap.objs.size:=J1.2.2
 have fS:FpS X pins (s2.heap.push {cls:=.type "list_iterator",data:=.fields #[.ref l,.int 0 0]}).objs.size:=J2.2.2
 have hS:(s2.heap.push {cls:=.type "list_iterator",data:=.fields #[.ref l,.int 0 0]}).objs.size=s2.heap.objs.size+1:=size_push' ..
 have hflt:fl<s2.heap.objs.size:=Heap.lt_size (I2.fpPin (p:=(fl,cH X params body scope pm c' ctv)) (.head _)).1
 have hSI:(s2.heap.push {cls:=.type "list_iterator",data:=.fields #[.ref l,.int 0 0]}).objs.size≠s2.heap.objs.size:=by rw [hS];exact Nat.ne_of_gt (Nat.lt_succ_self _)
 have h0: ∀ p∈[(fl,cH X params body scope pm c' ctv)],p.1≠(s2.heap.push {cls:=.type "list_iterator",data:=.fields #[.ref l,.int 0 0]}).objs.size/\p.1≠s2.heap.objs.size:=fun p hp=>by
  rw [List.mem_singleton.mp hp,hS]
  exact ⟨Nat.ne_of_lt (Nat.lt_succ_of_lt hflt),Nat.ne_of_lt hflt⟩
 have f0: ∀ p∈[(fl,cH X params body scope pm c' ctv)],FpS X pins p.1:=fun p hp=>by rw [List.mem_singleton.mp hp];exact ffl
 generalize (s2.heap.push {cls:=.type "list_iterator",data:=.fields #[.ref l,.int 0 0]}).objs.size=S at *
 have J3:Inv X (pins++([(fl,cH X params body scope pm c' ctv)]++[(S,seqObj "list" #[] 0),(s2.heap.objs.size,{cls:=.type "list_iterator",data:=.fields #[.ref l,.int 0 0]})])) σ H2 {s2 with heap:=(s2.heap.push {cls:=.type "list_iterator",data:=.fields #[.ref l,.int 0 0]}).push (seqObj "list" #[] 0)}:=by
  refine J2.1.pins_of fun p hp=>J2.1.pin p (List.mem_append_right _ ?_)
  rcases List.mem_append.mp hp with hp | hp
  ·exact List.mem_append_left _ hp
  ·refine List.mem_append_right _ ?_
   simp only [List.mem_append,List.mem_cons,List.not_mem_nil,or_false]at hp ⊢
   rcases hp with h | h | h
   ·exact .inl (.inl h)
   ·exact .inr h
   ·exact .inl (.inr h)
 generalize hHP:(s2.heap.push {cls:=.type "list_iterator",data:=.fields #[.ref l,.int 0 0]}).push (seqObj "list" #[] 0)=hp0 at *
 generalize s2.heap.objs.size=It at *
 have gS:=(J3.fpPin (p:=(S,seqObj "list" #[] 0)) (List.mem_append_right _ (.head _))).1
 have gI:=(J3.fpPin (p:=(It,{cls:=.type "list_iterator",data:=.fields #[.ref l,.int 0 0]})) (List.mem_append_right _ (.tail _ (.head _))))
 have hlI:l≠It:=fun z=>by
  have h2:=hl H2 hT
  rw [z,gI.2]at h2
  cases h2
 obtain ⟨its,rv,pl,_⟩:=J3.list (SqL.of (K:=X.K) (hl H2 hT))
 have hsz:its.toArray.size=xs.length:=by rw [List.size_toArray];exact rv.length.symm
 have W:=Walks.list (prog:=X.prog) (w:=X.w) (A:=X.A.in1) hh It l hlI its.toArray
 refine wpAny_pure ⟨plainId_quiet PySem.F.plain_min_loop _,?_⟩
 refine codeAny_builtin PySem.F.entry_min_loop ?_
 rw [Around.under_plainId PySem.F.plain_min_loop _]
 show wpAny _ X.A.in1 (seqItems? (.ref _) >>= _) _ _ _
 refine wpAny_bind (wpAny_seqItems gS rfl ?_)
 show wpAny _ X.A.in1 (tryCatch (pyNext (.ref It)) _ >>= _) _ _ _
 refine wpAny_bind (wpAny_tryCatch (W.item 0 _ _ _ (by rw [hsz];exact hne) ⟨⟨_,gI.1,rfl,rfl⟩,pl.isList⟩ fun v h' tk' hP hst' hk'=>?_))
 have hv:its[0]? =some v:=by simpa using hP
 obtain ⟨x,hx,rx⟩: ∃ x,xs[0]? =some x/\RelV x v:=by
  have hx:xs[0]? =some xs[0]:=List.getElem?_eq_getElem hne
  obtain ⟨u,hu,ru⟩:=rv.get hx
  rw [hv]at hu
  cases hu
  exact ⟨_,hx,ru⟩
 obtain ⟨oI',hoI',hoc2,hod⟩:=id hst'.1
 have K1:=J3.own2 (h':=h') (t':=tk') (o1':=seqObj "list" #[] 0) (o2':=oI') f0 fS fI h0 (fun b o _ h2 e=>hk' b o (by simpa using h2) e) (hk' S _ (by simpa using hSI) gS) hoI' cC (dq hod)
 show wpAny _ X.A.in1 (tryCatch (holding [v] (call (.ref fl) [v])) _ >>= _) _ _ _
 refine wpAny_bind (wpAny_tryCatch (wpAny_holding (wpAny_mono (turn 0 x v hx rx _ H2 _ (fun p hp=>List.mem_append_left _ hp) K1 hT) (fun x' s'' he=>?_) fun _ _ hF=>hF.elim)))
 obtain ⟨t2,H3,rfl,K2,hT2⟩:=he
 have nS2:=(K2.fpPin (p:=(S,seqObj "list" #[] 0)) (List.mem_append_right _ (.head _))).1
 have nI2:=(K2.fpPin (p:=(It,oI')) (List.mem_append_right _ (.tail _ (.head _)))).1
 have s1':=Heap.SameBut.update s''.heap S (Obj.mapSeq fun _=> #[v,.int (kf 0) t2])
 obtain ⟨c2,hc2⟩: ∃ c2,(s''.heap.update S (Obj.mapSeq fun _=> #[v,.int (kf 0) t2])).get? S=some (seqObj "list" #[v,.int (kf 0) t2] c2):=⟨_,get?_update_seq nS2 fun _=> #[v,.int (kf 0) t2]⟩
 show wpAny _ X.A.in1 (updateSeq S (fun _=> #[v,.int (kf 0) t2]) >>= _) _ _ _
 refine wpAny_bind ?_
 refine wpAny_updateSeq nS2 rfl ?_
 rw [hname]
 have gI3:=(s1'.2 It hSI.symm).trans nI2
 have K3:=K2.own2 (h':=s''.heap.update S (Obj.mapSeq fun _=> #[v,.int (kf 0) t2])) (t':=s''.toks) (o1':=seqObj "list" #[v,.int (kf 0) t2] c2) (o2':=oI') f0 fS fI h0 (fun b o h1 _ e=>(s1'.2 b h1).trans e) hc2 gI3 cC (dq hod)
 refine wpAny_pure ⟨plainId_quiet PySem.F.plain_min_loop _,re hh hl f0 fS fI hSI h0 turn (fun i y u H s e1 e2 e3 e4 e5=>?_) _ 0 0 H3 _ x v t2 c2 oI' rfl hne K3 hT2 ⟨oI',gI3,hoc2,hod⟩ (dq hod) hx rx (Nat.le_refl _) fun j' hj'=>?_⟩
 ·exact ⟨y,H,e4,e2,fin H i y e5 e1 e3⟩
 ·have e:j'=0:=by omega
  subst e
  exact Int.le_refl _
end
end L2
namespace HT
open PySem PyProof.Rows
section
variable {prog:Program} {w:World} {A:Around} {E:Value->Shared->Prop} {s:Shared}
theorem dk:isSubtype (.type "NoneType") (.type "dict")=pure false:=by rw [isSubtype_type];kernel_rfl
theorem dict_ne_none {a:Addr} {o:Obj} {es:Array DictEntry} {ep:Nat} {Q:Value->Shared->Prop} (ho:s.heap.get? a=some o) (hc:o.cls=.type "dict") (hd:o.data=.dict es ep) (hu:A.units<cLine) (h:Q (.bool true) s):
  wpAny (model prog w) A (compareOp .NotEq (.ref a) .none) Q E s:=by
 have ty:s.TypeIs (.ref a) "dict":=⟨o,ho,hc⟩
 show wpAny (model prog w) A (richCompare .NotEq (.ref a) .none) Q E s
 refine SeqAt.rc_ne_decline_or (k:=false) ty rfl (by decide) dk PySem.F.slot_dict_ne PySem.F.slot_NoneType_ne_refl (fun Q' hq=>?_)
  (fun _ hq=>call_gives PySem.F.slot_NoneType_ne_refl rfl PySem.F.entry_NoneType_ne (PySem.F.args_NoneType_ne_2 _ _) (SeqAt.NoneType___ne___none_ref_0 a) hq)
  (fun _ hq=>wpAny_of_eq (rfl:isSame (.ref a) .none=pure false) hq) (.inr hu) h
 refine wpAny_call_entry PySem.F.slot_dict_ne ty PySem.F.entry_dict_ne ?_ (PySem.F.args_dict_ne_2 _ _)
 show wpAny _ _ (Builtin.Dict.dictSlotArgs "__ne__" ⟨[.ref a,.none],[]⟩ >>= _) _ _ s
 refine wpAny_bind ?_
 unfold Builtin.Dict.dictSlotArgs
 refine wpAny_bind (wpAny_notOrdered_dict ty ?_)
 show wpAny _ _ (pure (Value.ref a,Value.none)) _ _ s
 refine wpAny_pure ?_
 refine wpAny_bind (wpAny_isInstance (T:="NoneType") rfl dk ?_)
 simp only [Bool.not_false,if_true]
 exact wpAny_bind (wpAny_rule (wpAny_pure ⟨_,rfl,hq⟩))
end
end HT
namespace L2
open PySem PySem.Spec PyProof.Rows
noncomputable def eqD (kvs kvs':List (Key×V)):Bool:=kvs.length==kvs'.length&&kvs.all fun kv=>decide (bn kvs' kv.1=some kv.2)
noncomputable def iL (kvs:List (Key×V)):Prop:= ∀ kv∈kvs,∃ n:Int,kv.2=.int n
section
variable {X:Cx}
theorem ir {A:Around} {s:Shared} {kb:List (Key×V)} {wb:List (Key×Value)} (rb:KV kb wb) (ib:iL kb): ∀ {ka:List (Key×V)} {wa:List (Key×Value)},KV ka wa->iL ka->PySem.W.KeqHits A s wb wa (ka.all fun kv=>decide (bn kb kv.1=some kv.2))
 | _,_,.nil,_=>.nil
 | (k,v)::ra,(k',u)::wr,.cons h t,ia=>by
  obtain ⟨e,rv⟩:=h
  cases (show k=k' from e)
  obtain ⟨n,en⟩:=ia (k,v) List.mem_cons_self
  cases (show v=.int n from en)
  obtain ⟨tk,rfl⟩:=(show ∃ t,u=Value.int n t from rv)
  have ih:=ir (A:=A) (s:=s) rb ib t fun kv hkv=>ia kv (List.mem_cons_of_mem _ hkv)
  have hv:=rb.val k
  show PySem.W.KeqHits A s wb ((k,.int n tk)::wr) (decide (bn kb k=some (.int n))&&ra.all fun kv=>decide (bn kb kv.1=some kv.2))
  cases hk:bn kb k with
  | none=>
   rw [hk]at hv
   have hn:valueAt wb k=none:=by
    cases hw:valueAt wb k with
    | none=>rfl
    | some y=>rw [hw]at hv;exact hv.elim
   rw [decide_eq_false (fun z=>by cases z),Bool.false_and]
   exact .miss hn
  | some z=>
   rw [hk]at hv
   obtain ⟨m,em⟩: ∃ m:Int,z=.int m:=by
    have hm: ∃ kv∈kb,kv.2=z:=by
     unfold bn at hk
     cases hf:kb.find? (fun kv=>decide (kv.1=k))with
     | none=>rw [hf]at hk;cases hk
     | some kv=>rw [hf]at hk;exact ⟨kv,List.mem_of_find?_eq_some hf,Option.some.inj hk⟩
    obtain ⟨kv,h1,h2⟩:=hm
    obtain ⟨m,e⟩:=ib kv h1
    exact ⟨m,by rw [<- h2,e]⟩
   subst em
   obtain ⟨y,hy,ry⟩: ∃ y,valueAt wb k=some y/\RelV (.int m) y:=by
    cases hw:valueAt wb k with
    | none=>rw [hw]at hv;exact hv.elim
    | some y=>rw [hw]at hv;exact ⟨y,rfl,hv⟩
   obtain ⟨t2,rfl⟩:=(show ∃ t,y=Value.int m t from ry)
   refine .hit hy ?_ ih
   have e3:decide (some (V.int m)=some (V.int n))=(n==m):=by
    by_cases c:n=m
    ·subst c;simp
    ·rw [beq_eq_false_iff_ne.mpr c]
     exact decide_eq_false fun z=>c (V.int.inj (Option.some.inj z)).symm
   rw [e3]
   exact fun prog w E Q h=>wpAny_eqBool_int (by simpa using h)
noncomputable def vf:R2:=fun x y H Q=> ∃ a kvs,x=.ref a/\H a=some (.dK kvs)/\iL kvs/\((y=.non/\Q (.bl true) H)\/ ∃ b kvs',y=.ref b/\H b=some (.dK kvs')/\iL kvs'/\Q (.bl (!eqD kvs kvs')) H)
theorem pG (hu:X.A.units+1<cLine):OpR X (compareOp .NotEq) vf:=by
 intro pins s σ H x y v u Q I rx ry h
 obtain ⟨a,kvs,rfl,ha,ia,h⟩:=h
 cases rx
 obtain ⟨hz,lo,ws,rel,dd⟩:=iB I.hok ha
 rcases h with ⟨rfl,q⟩ | ⟨b,kvs',rfl,hb,ib,q⟩
 ·cases ry
  obtain ⟨od,es,ep,ho,hed,hdat,_⟩:=dd
  exact HT.dict_ne_none ho hed.1 hdat (by omega) (aN I q rfl)
 ·cases ry
  obtain ⟨hz2,lo2,ws2,rel2,dd2⟩:=iB I.hok hb
  refine PySem.W.keq_ne lo lo2 dd dd2 (by omega) (fun _=>ir rel2 ib rel ia) (aN I q ?_)
  rw [<- rel.length,<- rel2.length]
  rfl
end
section
variable {X:Cx}
theorem oq (hc:X.calm=true):di X (.builtin "min") (fun xs H Q=> ∃ (p:Addr) (ns:List Int),xs=[.ref p]/\SqL X.K H p (ns.map V.int)/\0<ns.length/\ ∀ M,M∈ns->(∀ a∈ns,M<=a)->Q (.int M) H):=by
 intro pins s σ H xs us Q I r h
 obtain ⟨p,ns,rfl,hq,hne,q⟩:=h
 obtain ⟨u,rfl,ru⟩:=gU r
 cases ru
 obtain ⟨its,rv,pl,hz⟩:=I.list hq
 have hl:=pl.isList
 have hlt:p<s.heap.objs.size:=by obtain ⟨_,e,_⟩:=hl;exact Heap.lt_size e
 have hn:its.toArray.size=ns.length:=by have:=rv.length;rw [List.length_map]at this;rw [List.size_toArray];omega
 refine call_min_walk (wpAny_pyIter_list hl ?_)
 have hval: ∀ (i:Nat) (v:Value),its.toArray[i]? =some v-> ∃ t,v=Value.int (ns.getD i 0) t:=fun i v hP=>by
  have hv:its[i]? =some v:=by simpa using hP
  have hi:i<ns.length:=by
   have:=(List.getElem?_eq_some_iff.mp hv).1
   have:=rv.length
   rw [List.length_map]at this
   omega
  have hb:(ns.map V.int)[i]? =some (V.int ns[i]):=by rw [List.getElem?_map,List.getElem?_eq_getElem hi];rfl
  obtain ⟨u,eu,ru⟩:=rv.get hb
  rw [hv]at eu
  cases eu
  obtain ⟨t,e⟩:=(show ∃ t,v=Value.int ns[i] t from ru)
  refine ⟨t,?_⟩
  rw [e,List.getD_eq_getElem?_getD,List.getElem?_eq_getElem hi]
  rfl
 refine ⟨s.heap.objs.size,[s.heap.objs.size,p],[s.heap.objs.size],its.toArray.size,_,_,fun i j=>decide (ns.getD i 0<ns.getD j 0),rfl,Walks.list (A:=X.A.in1) (I.ok.hd hc) _ p (Nat.ne_of_lt hlt) its.toArray,
  ⟨⟨_,Heap.get?_push_size _ rfl,rfl,rfl⟩,hl.push _⟩,fun b hb=>?_,by rw [hn];exact hne,CmpOf.ints_lt (fun i=>ns.getD i 0) hval,fun v h' tk hP hk=>?_⟩
 ·simp only [List.mem_cons,List.not_mem_nil,or_false]at hb
  rw [size_push']
  rcases hb with rfl | rfl
  ·exact Nat.lt_succ_self _
  ·exact Nat.lt_succ_of_lt hlt
 ·obtain ⟨a1,a2⟩:=argBest_lt (fun i=>ns.getD i 0) (its.toArray.size-1)
  obtain ⟨t,rfl⟩:=hval _ _ hP
  rw [hn]at a1 a2
  refine ⟨.int _,H,I.kept (t':=tk) fun b x e=>?_,⟨t,rfl⟩,?_⟩
  ·exact hk b x (fun hm=>by rw [List.mem_singleton.mp hm]at e;exact Nat.lt_irrefl _ (Heap.lt_size e)) (Heap.get?_push_of_some _ e)
  ·rw [hn]
   refine q _ ?_ fun a ha=>?_
   ·have hi:argBest (fun i j=>decide (ns.getD i 0<ns.getD j 0)) (ns.length-1) <ns.length:=by omega
    show ns.getD _ 0∈ns
    rw [List.getD_eq_getElem?_getD,List.getElem?_eq_getElem hi]
    exact List.getElem_mem _
   ·obtain ⟨j,hj⟩:=List.getElem?_of_mem ha
    have hjl:=(List.getElem?_eq_some_iff.mp hj).1
    have:=a2 j (by omega)
    rw [show ns.getD j 0=a by rw [List.getD_eq_getElem?_getD,hj];rfl]at this
    exact this
noncomputable def qO:V->List V->Hp->VK->Prop:=fun x vs H Q=> ∃ l kvs,x=.ref l/\vs=[]/\H l=some (.dK kvs)/\Q .non (upd H l (.dK []))
theorem nN:MtM X "dict.clear" qO:=by
 intro pins s σ H x vs v us Q I rx rv h
 obtain ⟨l,kvs,rfl,rfl,hl,q⟩:=h
 cases rx
 cases rv
 exact rK I hl fun s' I'=>⟨.non,_,I',rfl,q⟩
end
theorem Fun.okGC {CX:CXT} {P:Program} {w:World} {K:PySem.W.Frag} {mg:Str->Option Value} {base:Heap} {x qual:Str} {st:Stmt} {f:Addr} {fd:FuncData} {N ps:List Str} {k:Nat} {sp:Sp} (F:Fun K x qual st f fd) (S:aI N ps (aj st))
  (len: ∀ vs H Q E,sp vs H Q E->vs.length=ps.length)
  (hbody: ∀ (A:Around) (outer:List Env) (s:Shared) (H:Hp) (vs:List V) (Q:VK) (E:XK),Room k (A.deeper (envOfC qual (aj st) s.heap.objs.size f fd.code))->sp vs H Q E->
   ∃ t,PSs (dv CX P w K mg base N qual (aj st) f fd.code A outer s H E) (bz st) t/\t {nx:=fun _ H'=>Q .non H',rt:=Q} (fq N vs) H):ay P w K mg base CX (k+1) f fd ps sp:=by
 obtain ⟨oc,od,kV,doc,pm,an,cdv,ct,osl,rfl,lk,hcd⟩:=F.ex
 exact rX lk hcd S len fun A outer s H vs Q E hr hsp=>hbody A outer s H vs Q E hr hsp
noncomputable def nK (o:Obj):Nat:=match o.data with
 | .dict es _=>es.size
 | _=>0
noncomputable def eK (o:Obj):Nat:=match o.data with
 | .dict _ ep=>ep
 | _=>0
theorem Inv.freezeK {X:Cx} {pins:List (Addr×Obj)} {σ:St} {H:Hp} {s:Shared} {d:Addr} {o:Obj} {kvs:List (Key×V)} (I:Inv X pins σ H s) (hd:H d=some (.dK kvs)) (ho:s.heap.get? d=some o):Inv X pins σ (upd H d (.frz o (.dK kvs))) s:=by
 refine gR (t':=s.toks) (h':=s.heap) I (by rw [hd];exact True.intro) ⟨rfl,fun _ _=>rfl⟩ ⟨o,ho⟩ ⟨ho,?_⟩
 exact (show ObjOk X.prog X.w H s.heap d (.dK kvs)from I.hok d _ hd)
theorem ij {P:Program} {w:World}: ∀ {es:List DictEntry} {ws:List (Key×Value)} {kvs:List (Key×V)},Pairs (aX P w) es ws->KV kvs ws->Vals (kvs.map fun q=>kV q.1) (es.map (·.key))
 | _,_,_,.nil,.nil=>.nil
 | _,_,_,.cons h _ t,.cons h2 t2=>.cons (show RelV (kV _) _ from by rw [h2.1];exact rW h) (ij t t2)
theorem gi {X:Cx} {pins:List (Addr×Obj)} {σ:St} {H:Hp} {s:Shared} {d:Addr} {o:Obj} {kvs:List (Key×V)} (I:Inv X pins σ H s) (hd:H d=some (.frz o (.dK kvs))):
  ∃ ks:List Value,Vals (kvs.map fun q=>kV q.1) ks/\(d==sysModules)=false/\nK o=ks.length/\HT.DEs s.heap d ks (eK o)/\s.heap.get? d=some o:=by
 obtain ⟨ho,z,lo,ws,rel,o',es,ep,h1,h2,h3,h4,h5,h6⟩:=(show ObjOk X.prog X.w H s.heap d (.frz o (.dK kvs))from I.hok d _ hd)
 rw [ho]at h1
 cases h1
 have e1:nK o=es.size:=by unfold nK;rw [h3]
 have e2:eK o=ep:=by unfold eK;rw [h3]
 refine ⟨es.toList.map (·.key),ij h5 rel,lo,by rw [e1,List.length_map,Array.length_toList],⟨o,es,ho,h2,by rw [e2];exact h3,rfl⟩,ho⟩
noncomputable def qB (d:Addr) (o:Obj):It:=
 ⟨fun i H=> ∃ kvs kv,H d=some (.frz o (.dK kvs))/\kvs[i]? =some kv,
  fun i H x H'=>H'=H/\ ∃ k,x=kV k/\ ∀ kvs,H d=some (.frz o (.dK kvs))->(kvs.map (·.1))[i]? =some k,
  fun i H=> ∃ kvs,H d=some (.frz o (.dK kvs))/\kvs.length=i⟩
theorem lg {P:Program} {w:World} {K:PySem.W.Frag} {tg:Expr} (it d:Addr) (o:Obj):l3 P w K tg (qB d o) [it] it (fun i h=>h.IsKeyIter it d i (nK o) (eK o)) where
 mem:=by simp
 obj:=fun i h st b hb=>by
  have e:b=it:=by simpa using hb
  subst e
  obtain ⟨o,e,c,d⟩:=st
  exact ⟨o,e,fun v z=>by rw [d]at z;cases z⟩
 keep:=fun i h h' st k=>st.at fun o e=>k it (by simp) o e
 item:=by
  intro X hP hw hK hc i pins s σ H E I hf st hg
  subst hP hw hK
  obtain ⟨kvs,kv,hd,hx⟩:=hg
  obtain ⟨ks,rv,lo,hn,m,_⟩:=gi I hd
  obtain ⟨u,hu,ru⟩:=rv.get (show (kvs.map fun q=>kV q.1)[i]? =some (kV kv.1) by rw [List.getElem?_map,hx];rfl)
  obtain ⟨f0,f1,f2,f3,f4,f5⟩:=hf it (by simp)
  rw [hn]at st
  refine HT.next_des st m hu fun h' st' sb=>?_
  have I1:Inv X pins σ H {s with heap:=h'}:=I.turned (t':=s.toks) (fun b o hb e=>sb.extBut b o hb e) f0 f1 f3 f4 f5
  obtain ⟨o',e,c,d'⟩:=id st'
  rw [<- hn]at st'
  exact ⟨u,rfl,ko (s:={s with heap:=h'}) e c d' (by decide) ⟨kV kv.1,H,I1,ru,⟨rfl,kv.1,rfl,fun ys hy=>by rw [hd]at hy;cases hy;rw [List.getElem?_map,hx];rfl⟩,st',fun b hb=>(hf b hb).1⟩⟩
 done:=by
  intro X hP hw hK hc i pins s σ H E I hf st hg
  subst hP hw hK
  obtain ⟨kvs,hd,hl⟩:=hg
  obtain ⟨ks,rv,lo,hn,m,_⟩:=gi I hd
  have hle:kvs.length=ks.length:=by rw [<- rv.length,List.length_map]
  obtain ⟨f0,f1,f2,f3,f4,f5⟩:=hf it (by simp)
  rw [hn]at st
  exact HT.end_des (I.ok.hd hc) st m (by omega) fun h' eb=>⟨rfl,I.turned (t':=s.toks) (fun b o hb e=>eb b o hb e) f0 f1 f3 f4 f5⟩
 self:=fun _ _ _ _ _ st h=>wpAny_pyIter_keyiter st h
noncomputable def uG (to:TE):TI:=fun σ H R=>to σ H fun x H1=> ∃ d kvs,x=.ref d/\H1 d=some (.dK kvs)/\ ∀ o,R (qB d o) (upd H1 d (.frz o (.dK kvs)))
theorem pA {X:Cx} {tg:Expr} {o:Expr} {to:TE} (ho:PE X o to):PI X tg o (uG to):=by
 intro pins s σ H R I h
 refine thn (ho pins s σ H _ I h) fun v s1 ⟨x,H1,I1,r1,d,kvs,ex,hd,q⟩=>?_
 subst ex
 cases r1
 obtain ⟨z,lo,ws,rel,ob,es,ep,h1,_⟩:=iB I1.hok hd
 have I2:=I1.freezeK hd h1
 obtain ⟨ks,rv,lo,hn,m,hob⟩:=gi I2 ad
 refine HT.iter_des lo m ?_
 refine ⟨_,[_],_,_,_,rfl,I2.kept (t':=s1.toks) fun b o e=>Heap.get?_push_of_some _ e,lg _ d ob,?_,fun b hb=>?_,q ob⟩
 ·rw [<- hn]
  exact ⟨_,Heap.get?_push_size _ rfl,rfl,rfl⟩
 ·have e:b=s1.heap.objs.size:=by simpa using hb
  have hb':s1.heap.objs.size<=b:=Nat.le_of_eq e.symm
  exact I2.fpOk hb' (I2.hok.fresh hb')
theorem oa {d:Addr} {o:Obj} {kvs:List (Key×V)} {g:TG} {tb:TS} {D:eP} {σ:St} {H:Hp} (Pv:Nat->St->Hp->Prop) (h0:Pv 0 σ H) (hl: ∀ i σ H,i<=kvs.length->Pv i σ H->H d=some (.frz o (.dK kvs)))
  (step: ∀ i k σ H,(kvs.map (·.1))[i]? =some k->Pv i σ H->g (kV k) σ H fun σ2 H2=>tb {D with nx:=Pv (i+1),ct:=Pv (i+1),bk:=D.nx} σ2 H2) (fin: ∀ σ H,Pv kvs.length σ H->D.nx σ H):
  ∃ W:Nat->Nat->St->Hp->Prop,(∃ m,W 0 m σ H)/\ ∀ i m σ H,W i m σ H->
   ((qB d o).stop i H/\D.nx σ H)\/((qB d o).go i H/\ ∃ N:St->Hp->Prop,(∀ σ' H',N σ' H'-> ∃ m',m'<m/\W (i+1) m' σ' H')/\ ∀ x H',(qB d o).yld i H x H'->g x σ H' fun σ2 H2=>tb {D with nx:=N,ct:=N,bk:=D.nx} σ2 H2):=by
 refine ⟨fun i m σ H=>m=kvs.length-i/\i<=kvs.length/\Pv i σ H,⟨kvs.length,by simp,Nat.zero_le _,h0⟩,?_⟩
 rintro i m σ H ⟨rfl,hi,p⟩
 have q:=hl i σ H hi p
 by_cases hlt:i<kvs.length
 ·refine .inr ⟨⟨kvs,kvs[i],q,List.getElem?_eq_getElem hlt⟩,Pv (i+1),fun σ' H' p'=>⟨kvs.length- (i+1),by omega,rfl,hlt,p'⟩,fun x H' y=>?_⟩
  obtain ⟨rfl,k,rfl,hk⟩:=y
  exact step i k σ _ (hk kvs q) p
 ·have e:i=kvs.length:=by omega
  subst e
  exact .inl ⟨⟨kvs,q,rfl⟩,fin σ H p⟩
section
variable {X:Cx}
noncomputable def ur:R2:=fun x y H Q=> ∃ a kvs b kvs',x=.ref a/\H a=some (.dK kvs)/\iL kvs/\y=.ref b/\Rd H b (.dK kvs')/\iL kvs'/\Q (.bl (eqD kvs kvs')) H
theorem qU (hu:X.A.units+1<cLine):OpR X (compareOp .Eq) ur:=by
 intro pins s σ H x y v u Q I rx ry h
 obtain ⟨a,kvs,b,kvs',rfl,ha,ia,rfl,hb,ib,q⟩:=h
 cases rx
 cases ry
 obtain ⟨hz,lo,ws,rel,dd⟩:=iB I.hok ha
 obtain ⟨hz2,lo2,ws2,rel2,dd2⟩:=i7 I.hok hb
 refine PySem.W.keq_eq lo lo2 dd dd2 (by omega) (fun _=>ir rel2 ib rel ia) (aN I q ?_)
 rw [<- rel.length,<- rel2.length]
 rfl
theorem e6 (hu:X.A.units<cLine):OpR X (compareOp .NotEq) (fun x y H Q=> ∃ a b xs,x=.ref a/\y=.ref b/\SqT X.K H a xs/\SqT X.K H b []/\Q (.bl (!xs.isEmpty)) H):=by
 intro pins s σ H x y v u Q I rx ry h
 obtain ⟨a,b,xs,rfl,rfl,ha,hb,q⟩:=h
 cases rx
 cases ry
 obtain ⟨its,r,ht,_⟩:=I.tuple ha
 obtain ⟨its2,r2,ht2,_⟩:=I.tuple hb
 cases r2
 refine SeqAt.RcNeAt.tuples (e:=fun _=>true) ht ht2 hu (fun j _ h2=>absurd h2 (Nat.not_lt_zero _)) X.prog X.w X.xe _ ⟨.bl _,H,I,?_,q⟩
 cases r with
 | nil=>rfl
 | cons r1 t=>simp [RelV]
noncomputable def tR (sp:Sp) (C:Addr) (t:TA) (i:Nat) (ts:TS):TS:=fun D σ H=>t σ H fun vs H1=>sp vs H1 (fun _ H2=>D.nx σ H2) fun _ _ H2=> ∀ x,H2 x=none->
 ts {nx:=fun σ' H3=>D.nx (σ'.set i none) H3,rt:=fun _ _=>False} (σ.set i (some (.ref x))) (upd H2 x (ExO x C))
theorem qQ {C CB f:Addr} {fd:FuncData} {ps:List Str} {sp:Sp} {k i:Nat} {fn cb n:Str} {e:Expr} {es:List Expr} {t:TA} {ts:TS} {p cp ap np hp tp:Pos} {b₀:Stmt} {suite:List Stmt} {rest:List ExceptHandler}
  (hxe: ∀ e s,X.xe e s->False) (hst:X.stack=X.env::X.outer) (hfr:X.env.frame=some X.env.locals) (hN:X.N.Nodup)
  (F:ay X.prog X.w X.K X.mg X.base (CX1 X.prog X.w C) k f fd ps sp) (hr:Room k X.A) (hgf:Gl X fn) (hmf:X.mg fn=some (.ref f)) (hkf:PySem.W.keepIn X.K (.ref f)=true) (hb:Binds X.K fd ps []) (ha:PA X (e::es) t)
  (hi:X.N[i]? =some n) (hk:X.env.scope.names.lookup n=some .local) (hg:Gl X cb) (hm:X.mg cb=some (.ref CB)) (Z:CaC X.K C CB)
  (hs: ∀ x,PSs (X.marked (.ref x)) (b₀::suite) ts) (hd:(cb==("__debug__":Str))=false:=by decide) (hdb:(fn==("__debug__":Str))=false:=by decide)
  (hsw:swapsWith (.Call (.Name fn p) (e::es) [] cp) none ap.line X.env=pure false:=by rfl)
  (he:starEach (e::es) X.env=(false,eval e X.env)::starEach es X.env:=by rfl) (hpl:(backTo cp (starEach es X.env)).any (·.1)=false:=by rfl):
  PS X (.Try [.Expr (.Call (.Name fn p) (e::es) [] cp) ap] (.ExceptHandler (some (.Name cb np)) (some n) (b₀::suite) hp::rest) [] [] tp) (tR sp C t i ts):=by
 intro pins s σ H D I h
 refine wpAny_Try_except (wpAny_execs_cons (wpAny_Expr_any ?_ I.quiet hsw))
 refine wpAny_Call_Name_kw (fF I hgf hmf ?_ hdb)
 refine PySem.W.callWith_K (h₀:=X.base) I.ok.mod.kin hkf (wpAny_mono (ha cp pins s σ H _ I h) (fun us s1 ⟨vs,H1,I1,r,q⟩=>⟨I1.kIn,?_⟩) fun e s z=>(hxe e s z).elim) he hpl
 have hl:(us++[]).length=ps.length:=by rw [List.append_nil,<- r.length];exact F.len _ _ _ _ q
 have hb':=hb s1 us I1.kIn hl
 rw [List.append_nil]at hb'
 refine wpAny_call (codeAny_mono (F.run X.A X.stack s1 H1 ⟨us,[]⟩ us vs _ _ hr I1.env0 hb' r q) fun r2 s2 hq=>?_)
 cases r2 with
 | error e2=>
  obtain ⟨x,T,H2,rfl,os,bare,un,hok,rc,nx,nT,fx,fT,q2⟩:=hq
  exact rA I1 ⟨un,hok,rc,nx,nT,fx,fT⟩ os bare hst hfr hN hi hk hg hm Z (hs x) (q2 x fx) hd
 | ok fl=>
  cases fl with
  | ret u=>
   obtain ⟨v,H2,I2,r2,q2⟩:=I1.after hq
   exact wpAny_execs_nil (wpAny_execs_nil ⟨_,_,I2,q2⟩)
  | next=>exact False.elim hq
  | brk=>exact False.elim hq
  | cont=>exact False.elim hq
end
end L2
namespace My
open PySem L2
variable {P:Program} {w:World} {K:PySem.W.Frag} {mg:Str->Option Value} {base:Heap} {C CB D0 D1 D10 D11 D12 D13 D14 D15 D16 D2 D3 D4 D5 D6 D7 D8 D9 aR c f f2 f3 f4 f5 f6 f7 f8 f9 g tbA:Addr} {fd fd2 fd3 fd4 fd5 fd6 fd7 fd8 fd9 gd:FuncData}
noncomputable def rh (c:Nat):Bool:=decide (97<=c/\c<=122)
noncomputable def cW (x:Str):Bool:=decide (1<=x.length)&&decide (x.length<=8)&&x.cps.toList.all rh
noncomputable def ops:List Str:=["plus","less","times","least","most"]
inductive Fm where
 | num (n:Int)
 | own (x:Str)
 | part (k:Int) (x:Str)
 | bin (op:Str) (a b:Fm)
 | whn (a b c:Fm)
noncomputable def Fm.size:Fm->Nat
 | .num _=>1
 | .own _=>1
 | .part _ _=>1
 | .bin _ a b=>a.size+b.size+1
 | .whn a b c=>a.size+b.size+c.size+1
noncomputable def Rep (H:Hp):Fm->V->Prop
 | .num n,v=> ∃ a,v=.ref a/\H a=some (.tup [.str "num",.int n])
 | .own x,v=> ∃ a,v=.ref a/\H a=some (.tup [.str "own",.str x])
 | .part k x,v=> ∃ a,v=.ref a/\H a=some (.tup [.str "part",.int k,.str x])
 | .bin op A B,v=> ∃ a u w,v=.ref a/\H a=some (.tup [.str op,u,w])/\Rep H A u/\Rep H B w
 | .whn A B C,v=> ∃ a u w z,v=.ref a/\H a=some (.tup [.str "when",u,w,z])/\Rep H A u/\Rep H B w/\Rep H C z
noncomputable def TK (H H':Hp):Prop:= ∀ a xs,H a=some (.tup xs)->H' a=some (.tup xs)
theorem TK.refl (H:Hp):TK H H:=fun _ _ h=>h
theorem TK.trans {H H1 H2:Hp} (a:TK H H1) (b:TK H1 H2):TK H H2:=fun c o h=>b c o (a c o h)
theorem TK.upd {H:Hp} {p:Addr} {o:HO} (h: ∀ xs,H p≠some (.tup xs)):TK H (upd H p o):=fun a xs e=>by
 by_cases q:a=p
 ·subst q
  exact absurd e (h xs)
 ·rw [ah q]
  exact e
theorem TK.lst {H:Hp} {p:Addr} {o:HO} {ys:List V} (h:H p=some (.lst ys)):TK H (L2.upd H p o):=TK.upd fun xs e=>by rw [h]at e;cases e
theorem TK.new {H:Hp} {p:Addr} {o:HO} (h:H p=none):TK H (L2.upd H p o):=TK.upd fun xs e=>by rw [h]at e;cases e
theorem Rep.mono {H H':Hp} (t:TK H H'): ∀ {f:Fm} {v:V},Rep H f v->Rep H' f v
 | .num _,_,⟨a,e,h⟩=>⟨a,e,t _ _ h⟩
 | .own _,_,⟨a,e,h⟩=>⟨a,e,t _ _ h⟩
 | .part _ _,_,⟨a,e,h⟩=>⟨a,e,t _ _ h⟩
 | .bin _ _ _,_,⟨a,u,w,e,h,r1,r2⟩=>⟨a,u,w,e,t _ _ h,Rep.mono t r1,Rep.mono t r2⟩
 | .whn _ _ _,_,⟨a,u,w,z,e,h,r1,r2,r3⟩=>⟨a,u,w,z,e,t _ _ h,Rep.mono t r1,Rep.mono t r2,Rep.mono t r3⟩
noncomputable def isV (T:String) (H:Hp) (v:V):Bool:=match v with
 | .bl _=>T=="bool"||T=="int"
 | .int _=>T=="int"
 | .str _=>T=="str"
 | .ref a=>(match H a with | some (.lst _)=>T=="list" | some (.tup _)=>T=="tuple" | some (.dK _)=>T=="dict" | _=>false)
 | _=>false
noncomputable def Sh (H:Hp):V->Prop
 | .non=>True
 | .bl _=>True
 | .int _=>True
 | .str x=>x.length<=1000
 | .ref a=>(∃ xs,H a=some (.lst xs))\/(∃ xs,H a=some (.tup xs))\/ ∃ kvs,H a=some (.dK kvs)
 | _=>False
section
variable {X:Cx}
theorem rm (K:PySem.W.Frag) (t T:String) (ht:t∈["NoneType","bool","int","str","list","tuple","dict"]) (hT:T∈["bool","int","str","list","tuple","dict"]):
  PySem.W.kitOne K (.type t) (.type T)=some (t==T||(t=="bool"&&T=="int")):=by
 simp only [List.mem_cons,List.not_mem_nil,or_false]at ht hT
 rcases ht with rfl | rfl | rfl | rfl | rfl | rfl | rfl <;> rcases hT with rfl | rfl | rfl | rfl | rfl | rfl <;> first | rfl | (with_unfolding_all rfl) | (with_unfolding_all decide)
theorem bj:di X (.builtin "isinstance") (fun xs H Q=> ∃ x T,xs=[x,.ty T]/\Sh H x/\T∈["bool","int","str","list","tuple","dict"]/\Q (.bl (isV T H x)) H):=by
 intro pins s σ H xs us Q I r h
 obtain ⟨x,T,rfl,hs,hT,q⟩:=h
 have go: ∀ t,fO X.K H x (.type t)->t∈["NoneType","bool","int","str","list","tuple","dict"]->isV T H x=(t==T||(t=="bool"&&T=="int"))->wpAny (model X.prog X.w) X.A (call (.builtin "isinstance") us) (EP X pins σ Q) X.xe s:=by
  intro t ty ht e
  refine qp pins s σ H _ us Q I r ⟨x,T,.type t,_,rfl,ty,rm X.K t T ht hT,?_⟩
  rw [<- e]
  exact q
 have hTT:=hT
 simp only [List.mem_cons,List.not_mem_nil,or_false]at hTT
 cases x with
 | non=>exact go _ .non (by simp) (by rcases hTT with rfl | rfl | rfl | rfl | rfl | rfl <;> rfl)
 | bl b=>exact go _ (.bl b) (by simp) (by rcases hTT with rfl | rfl | rfl | rfl | rfl | rfl <;> rfl)
 | int i=>exact go _ (.int i) (by simp) (by rcases hTT with rfl | rfl | rfl | rfl | rfl | rfl <;> rfl)
 | str z=>exact go _ (.str z) (by simp) (by rcases hTT with rfl | rfl | rfl | rfl | rfl | rfl <;> rfl)
 | ref a=>
  rcases hs with ⟨ys,e⟩ | ⟨ys,e⟩ | ⟨ys,e⟩
  ·exact go _ (.lst e) (by simp) (by simp only [isV,e];rcases hTT with rfl | rfl | rfl | rfl | rfl | rfl <;> rfl)
  ·exact go _ (.tup e) (by simp) (by simp only [isV,e];rcases hTT with rfl | rfl | rfl | rfl | rfl | rfl <;> rfl)
  ·exact go _ (.dK e) (by simp) (by simp only [isV,e];rcases hTT with rfl | rfl | rfl | rfl | rfl | rfl <;> rfl)
 | byt _=>exact hs.elim
 | flt _=>exact hs.elim
 | ty _=>exact hs.elim
end
noncomputable def top (i:Nat):Stmt:=PySem.Challenge.pw_boughworth_k20_least_trees_and_live_form.main.body.getD i (.Pass ⟨0,0,0,0⟩)
noncomputable abbrev hZ:Stmt:=top 21
noncomputable abbrev h9:Stmt:=top 22
noncomputable abbrev dZ:Stmt:=top 23
noncomputable abbrev h8:Stmt:=top 24
noncomputable abbrev ef:Stmt:=top 26
noncomputable abbrev eE:Stmt:=top 27
noncomputable abbrev eF:Stmt:=top 28
noncomputable abbrev gL:Stmt:=top 29
noncomputable abbrev bY:Stmt:=top 30
noncomputable abbrev dJ:Stmt:=top 31
noncomputable abbrev fX:Stmt:=top 32
noncomputable abbrev pd:Stmt:=top 34
noncomputable abbrev oZ:Stmt:=top 35
noncomputable abbrev lx:Stmt:=top 36
noncomputable abbrev ee:Stmt:=top 37
noncomputable abbrev jo:Stmt:=top 38
noncomputable abbrev pc:Stmt:=top 39
noncomputable abbrev dA:Stmt:=top 40
noncomputable abbrev ls:Stmt:=top 41
noncomputable abbrev dY:Stmt:=top 42
noncomputable abbrev cY:Stmt:=top 43
noncomputable abbrev lu:Stmt:=top 44
noncomputable abbrev dP:Stmt:=top 45
noncomputable abbrev jr:Stmt:=top 46
noncomputable abbrev jX:Stmt:=top 47
noncomputable abbrev js:Stmt:=top 48
noncomputable abbrev jt:Stmt:=top 49
noncomputable abbrev fA:Stmt:=top 50
noncomputable abbrev jp:Stmt:=top 51
noncomputable abbrev dI:Stmt:=top 52
noncomputable abbrev eh:Stmt:=top 53
structure Gb (mg:Str->Option Value):Prop where
 isi:mg "isinstance"=none
 int:mg "int"=none
 bool:mg "bool"=none
 str:mg "str"=none
 tuple:mg "tuple"=none
 len:mg "len"=none
 all:mg "all"=none
 range:mg "range"=none
 max:mg "max"=none
 min:mg "min"=none
noncomputable def kX:V->Bool
 | .int _=>true
 | _=>false
theorem rq {H:Hp} {v:V} (h:Sh H v):(if isV "int" H v=true then !isV "bool" H v else false)=kX v:=by
 cases v with
 | ref a=>rcases h with ⟨ys,e⟩ | ⟨ys,e⟩ | ⟨ys,e⟩ <;> (simp only [isV,e];rfl)
 | _=>rfl
theorem qb {Q:VK} {b b':Bool} {H:Hp} (q:Q (.bl b) H) (e:b=b'):Q (.bl b') H:=e▸q
theorem ai {H:Hp} {p:Addr} (h:H p=none) (o:HO):Same H (upd H p o):=fun b u q=>by rw [ah (ak q h)];exact q
noncomputable def gJ:Sp:=fun vs H Q _=> ∃ v,vs=[v]/\Sh H v/\Q (.bl (kX v)) H
theorem dF {α:Type} {x:α} {r:List α}:atI (x::r) 0=some x:=aG (j:=0) rfl
theorem vC {α:Type} {x y:α} {r:List α}:atI (x::y::r) 1=some y:=aG (j:=1) rfl
theorem vB {α:Type} {x y z:α} {r:List α}:atI (x::y::z::r) 2=some z:=aG (j:=2) rfl
noncomputable def Kp (tp:Addr) (H H':Hp):Prop:= ∀ b o,H b=some o->b≠tp->H' b=some o
theorem Kp.refl {tp:Addr} {H:Hp}:Kp tp H H:=fun _ _ h _=>h
theorem Kp.trans {tp:Addr} {H H1 H2:Hp} (a:Kp tp H H1) (b:Kp tp H1 H2):Kp tp H H2:=fun c o h n=>b c o (a c o h n) n
theorem Kp.same {tp:Addr} {H H1 H2:Hp} (a:Kp tp H H1) (b:Same H1 H2):Kp tp H H2:=fun c o h n=>b c o (a c o h n)
theorem Kp.tape {tp:Addr} {H:Hp} {o:HO}:Kp tp H (upd H tp o):=fun b u h n=>by rw [ah n];exact h
theorem Kp.new {tp p:Addr} {H H1:Hp} {o:HO} (a:Kp tp H H1) (h:H1 p=none):Kp tp H (upd H1 p o):=a.same (ai h _)
noncomputable def Tp (H:Hp) (tp:Addr):Prop:= ∃ t:Int,H tp=some (.lst [.int t])
theorem Kp.tk {tp:Addr} {H H':Hp} (a:Kp tp H H') (t:Tp H tp):TK H H':=fun b xs h=>a b _ h fun e=>by
 obtain ⟨t,ht⟩:=t
 subst e
 rw [ht]at h
 cases h
theorem Tp.new {H:Hp} {tp p:Addr} {o:HO} (t:Tp H tp) (h:H p=none):Tp (upd H p o) tp:=by
 obtain ⟨t,ht⟩:=t
 exact ⟨t,by rw [ah (ak ht h)];exact ht⟩
noncomputable def ji (K:PySem.W.Frag):Sp:=fun vs H Q _=> ∃ (a:Addr) (ns:List Int) (k:Int),vs=[.ref a,.int k]/\SqL K H a (ns.map V.int)/\ns.length<=63/\0<=k/\ ∀ c:Int,Q (.int c) H
noncomputable def lm (K:PySem.W.Frag):Sp:=fun vs H Q _=> ∃ (a:Addr) (ns:List Int) (k:Int),vs=[.ref a,.int k]/\SqL K H a (ns.map V.int)/\ns.length<=63/\0<=k/\k<1000/\ ∀ p t,H p=none->Q (.ref p) (upd H p (.lst [.int t]))
noncomputable def cJ:Sp:=fun vs H Q _=> ∃ (tp:Addr) (m:Int),vs=[.ref tp,.int m]/\Tp H tp/\0<m/\m<1073741824/\ ∀ d t:Int,0<=d->d<m->Q (.int d) (upd H tp (.lst [.int t]))
noncomputable def hO:Sp:=fun vs H Q _=> ∃ tp,vs=[.ref tp]/\Tp H tp/\ ∀ (n:Int) H',-999999<=n->n<=999999->Kp tp H H'->Tp H' tp->Q (.int n) H'
theorem sE:aI ["script","k"] ["script","k"] (aj pd):=fsc
theorem qY (F:Fun K "_law_cell_at" "_law_cell_at" pd f fd) (G:Gb mg):ay P w K mg base CX0 1 f fd ["script","k"] (ji K):=by
 refine F.ok sE (fun vs H Q E h=>?_) (fun cdv A outer s H vs Q E hr h=>?_)
 ·obtain ⟨a,ns,k,rfl,_⟩:=h
  rfl
 obtain ⟨a,ns,k,rfl,hS,hl,hk,q⟩:=h
 refine ⟨_,af (aW (aD i3 (pv 1) (ar av rfl G.len PySem.boot_len (ac (pv 0) ae)) (aH _)) (al (aJ (ax aQ (pv 0) (pv 1) (fun _ _=>rfl)))) aM) (al (aJ ag)),?_⟩
 refine ⟨_,rfl,_,rfl,a,_,rfl,.inl hS,_,_,rfl,rfl,_,rfl,?_⟩
 refine dE (fun c=>?_) (fun c=>?_)
 ·have c':k< (((ns.map V.int).length:Nat):Int):=of_decide_eq_true c
  rw [List.length_map]at c'
  have hk':k.toNat<ns.length:=by omega
  have e:atI (ns.map V.int) k=some (V.int ns[k.toNat]):=by
   have ek:k=((k.toNat:Nat):Int):=by omega
   have q:atI (ns.map V.int) ((k.toNat:Nat):Int)=some (V.int ns[k.toNat]):=aG (by rw [List.getElem?_map,List.getElem?_eq_getElem hk'] <;> rfl)
   rw [<- ek]at q
   exact q
  exact ⟨_,rfl,_,rfl,a,_,k,_,rfl,rfl,hS,e,q _⟩
 ·exact q 0
theorem scTape:aI ["script","k","cell","p","one","two","three","four"] ["script","k"] (aj oZ):=fsc
theorem qW (F:Fun K "_law_tape" "_law_tape" oZ f fd) (GC:ay P w K mg base CX0 1 g gd ["script","k"] (ji K)) (bC:Binds K gd ["script","k"] []) (kC:PySem.W.keepIn K (.ref g)=true) (mC:mg "_law_cell_at"=some (.ref g)):
  ay P w K mg base CX0 2 f fd ["script","k"] (lm K):=by
 refine F.ok scTape (fun vs H Q E h=>?_) (fun cdv A outer s H vs Q E hr h=>?_)
 ·obtain ⟨a,ns,k,rfl,_⟩:=h
  rfl
 obtain ⟨a,ns,k,rfl,hS,hl,hk,hk2,q⟩:=h
 refine ⟨_,af (aq (i:=2) scTape.nd rfl (Or.inl rfl) (am GC hr rfl mC kC bC .nil aw (ac (pv 0) (ac (pv 1) ae))))
  (af (aW (aD cB (au cg (pv 2) ag) ag (aH _)) (al (aJ (bU (ac (au gM (pv 2) ag) ae)))) aM)
  (af (aq (i:=3) scTape.nd rfl (Or.inl rfl) ag)
  (af (aq (i:=4) scTape.nd rfl (Or.inl rfl) (au cg (au aS (au aS (au cQ (au cg (pv 2) (pv 3)) ag) (au cQ ag (pv 1))) ag) (pv 3)))
  (af (aq (i:=5) scTape.nd rfl (Or.inl rfl) (au cg (au aS (au aS (au cQ (pv 4) (pv 4)) (au cQ ag (pv 1))) (pv 4)) (pv 3)))
  (af (aq (i:=6) scTape.nd rfl (Or.inl rfl) (au cg (au aS (au cQ (pv 5) (pv 5)) (pv 4)) (pv 3)))
  (af (aq (i:=7) scTape.nd rfl (Or.inl rfl) (au cg (au aS (au cQ (pv 6) (pv 6)) (pv 5)) (pv 3)))
  (al (aJ (bU (ac (au aS (au cQ (au aS (au cQ (au aS (au cQ (pv 4) (pv 3)) (pv 5)) (pv 3)) (pv 6)) (pv 3)) (pv 7)) ae)))))))))),?_⟩
 refine ⟨_,rfl,_,rfl,a,ns,k,rfl,hS,hl,hk,fun c=>?_⟩
 refine ⟨_,rfl,_,_,rfl,rfl,(by show (0:Int) <2;decide),rfl,_,rfl,?_⟩
 refine dE (fun _=>?_) (fun _=>?_)
 ·exact ⟨_,rfl,_,_,rfl,rfl,⟨by decide,by decide⟩,(by show 1<=sizeLine;decide),fun p hp=>q p _ hp⟩
 have hp0:(0:Int) <2305843009213693951:=by decide
 have mm: ∀ x:Int,-(2^64) <x%2305843009213693951/\x%2305843009213693951<2^64:=fun x=>by
  have h1:=Int.emod_nonneg x (show (2305843009213693951:Int)≠0 by decide)
  have h2:=Int.emod_lt_of_pos x hp0
  omega
 have hkk: -(2^64) <k/\k<2^64:=by omega
 have hpp:(-(2^64):Int) <2305843009213693951/\(2305843009213693951:Int) <2^64:=by decide
 refine ⟨_,rfl,_,rfl,_,_,rfl,rfl,hp0,_,_,rfl,rfl,.inl (mm _),_,rfl,_,_,rfl,rfl,.inr hkk,_,_,rfl,rfl,_,_,rfl,rfl,_,rfl,_,_,rfl,rfl,hp0,?_⟩
 refine ⟨_,rfl,_,rfl,_,_,rfl,rfl,.inl (mm _),_,rfl,_,_,rfl,rfl,.inr hkk,_,_,rfl,rfl,_,rfl,_,_,rfl,rfl,_,rfl,_,_,rfl,rfl,hp0,?_⟩
 refine ⟨_,rfl,_,rfl,_,_,rfl,rfl,.inl (mm _),_,rfl,_,_,rfl,rfl,_,rfl,_,_,rfl,rfl,hp0,?_⟩
 refine ⟨_,rfl,_,rfl,_,_,rfl,rfl,.inl (mm _),_,rfl,_,_,rfl,rfl,_,rfl,_,_,rfl,rfl,hp0,?_⟩
 refine ⟨_,rfl,_,rfl,_,_,rfl,rfl,.inr hpp,_,rfl,_,_,rfl,rfl,_,rfl,_,_,rfl,rfl,.inr hpp,_,rfl,_,_,rfl,rfl,_,rfl,_,_,rfl,rfl,.inr hpp,_,rfl,_,_,rfl,rfl,(by show 1<=sizeLine;decide),fun p hp=>q p _ hp⟩
theorem scDigit:aI ["tape","many","found"] ["tape","many"] (aj lx):=fsc
theorem pN (F:Fun K "_law_digit" "_law_digit" lx f fd):ay P w K mg base CX0 1 f fd ["tape","many"] cJ:=by
 refine F.ok scDigit (fun vs H Q E h=>?_) (fun cdv A outer s H vs Q E hr h=>?_)
 ·obtain ⟨tp,m,rfl,_⟩:=h
  rfl
 obtain ⟨tp,m,rfl,⟨t,ht⟩,hm,hm2,q⟩:=h
 refine ⟨_,af (aq (i:=2) scDigit.nd rfl (Or.inl rfl) (au cg (ax aQ (pv 0) ag (fun _ _=>rfl)) (pv 1)))
  (af (sK (au gM (ax aQ (pv 0) ag (fun _ _=>rfl)) (pv 1)) (sL (pv 0) ag oU))
  (al (aJ (pv 2)))),?_⟩
 refine ⟨_,rfl,tp,_,0,_,rfl,rfl,SqL.of ht,dF,_,rfl,_,_,rfl,rfl,hm,?_⟩
 refine ⟨_,rfl,tp,_,0,_,rfl,rfl,SqL.of ht,dF,_,rfl,_,_,rfl,rfl,⟨hm,hm2⟩,?_⟩
 refine ⟨_,rfl,tp,_,0,0,rfl,rfl,ht,rfl,?_⟩
 exact ⟨_,rfl,q (t%m) (t/m) (Int.emod_nonneg _ (by omega)) (Int.emod_lt_of_pos _ hm)⟩
theorem scNumber:aI ["tape","way"] ["tape"] (aj jo):=fsc
theorem ny (F:Fun K "_law_number" "_law_number" jo f fd) (GD:ay P w K mg base CX0 1 g gd ["tape","many"] cJ) (bD:Binds K gd ["tape","many"] []) (kD:PySem.W.keepIn K (.ref g)=true) (mD:mg "_law_digit"=some (.ref g)):
  ay P w K mg base CX0 2 f fd ["tape"] hO:=by
 refine F.ok scNumber (fun vs H Q E h=>?_) (fun cdv A outer s H vs Q E hr h=>?_)
 ·obtain ⟨tp,rfl,_⟩:=h
  rfl
 obtain ⟨tp,rfl,hT,q⟩:=h
 refine ⟨_,af (aq (i:=1) scNumber.nd rfl (Or.inl rfl) (am GD hr rfl mD kD bD .nil aw (ac (pv 0) (ac ag ae))))
  (af (aW (aD i3 (pv 1) ag (aH _)) (al (aJ (pv 1))) aM)
  (al (aJ (ax aQ (bU (ac (pB kY ag) (ac (au eZ (am GD hr rfl mD kD bD .nil aw (ac (pv 0) (ac ag ae))) ag)
   (ac (au eZ (am GD hr rfl mD kD bD .nil aw (ac (pv 0) (ac ag ae))) ag) ae)))) (au eZ (pv 1) ag) (fun _ _=>rfl))))),?_⟩
 refine ⟨_,rfl,tp,6,rfl,hT,by decide,by decide,fun d t h0 h1=>?_⟩
 refine ⟨_,rfl,_,_,rfl,rfl,_,rfl,?_⟩
 refine dE (fun c=>?_) (fun c=>?_)
 ·exact ⟨_,rfl,q d _ (by omega) (by omega) Kp.tape ⟨t,ad⟩⟩
 have c':3<=d:=by
  rcases Int.lt_or_le d 3 with z | z
  ·exact absurd (decide_eq_true z) c
  ·exact z
 refine ⟨_,rfl,_,rfl,tp,1001,rfl,⟨t,ad⟩,by decide,by decide,fun d2 t2 h20 h21=>?_⟩
 refine ⟨_,_,rfl,rfl,_,rfl,tp,1999999,rfl,⟨t2,ad⟩,by decide,by decide,fun d3 t3 h30 h31=>?_⟩
 refine ⟨_,_,rfl,rfl,(by show 3<=sizeLine;decide),fun p hp=>?_⟩
 rw [dj,dj]at hp ⊢
 have hd:d=3\/d=4\/d=5:=by omega
 have fin: ∀ n:Int,-999999<=n->n<=999999->Q (.int n) (upd (upd H tp (.lst [.int t3])) p (.lst [.int (-1),.int (d2-500),.int (d3-999999)])):=fun n h1 h2=>
  q n _ h1 h2 (Kp.tape.new hp) (Tp.new ⟨t3,ad⟩ hp)
 rcases hd with rfl | rfl | rfl
 ·exact ⟨_,rfl,_,_,rfl,rfl,p,_,0,_,rfl,rfl,SqL.of ad,dF,fin _ (by omega) (by omega)⟩
 ·exact ⟨_,rfl,_,_,rfl,rfl,p,_,1,_,rfl,rfl,SqL.of ad,vC,fin _ (by omega) (by omega)⟩
 ·exact ⟨_,rfl,_,_,rfl,rfl,p,_,2,_,rfl,rfl,SqL.of ad,vB,fin _ (by omega) (by omega)⟩
theorem jJ {α:Type} {xs:List α} {d:Int} (h0:0<=d) (h1:d<xs.length): ∃ x,atI xs d=some x/\xs[d.toNat]? =some x:=by
 have hk:d.toNat<xs.length:=by omega
 have ek:d=((d.toNat:Nat):Int):=by omega
 have q:atI xs ((d.toNat:Nat):Int)=some xs[d.toNat]:=aG (List.getElem?_eq_getElem hk)
 rw [<- ek]at q
 exact ⟨_,q,List.getElem?_eq_getElem hk⟩
theorem eB (xs:List V) {j:Int} (h0:0<=j) (h1:j<=xs.length):fg xs none (some j)=xs.take j.toNat:=by
 have ej:j=((j.toNat:Nat):Int):=by omega
 have e:HT.sIx xs.length xs.length (some j)=j.toNat:=by
  rw [ej,HT.sIx_nat]
  omega
 unfold fg
 rw [e,HT.sIx_none,List.drop_zero,Nat.sub_zero]
theorem iC (xs:List V) {j:Int} (h0:0<=j) (h1:j<=xs.length):fg xs (some j) none=xs.drop j.toNat:=by
 have ej:j=((j.toNat:Nat):Int):=by omega
 have e:HT.sIx xs.length 0 (some j)=j.toNat:=by
  rw [ej,HT.sIx_nat]
  omega
 unfold fg
 rw [e,HT.sIx_none]
 apply List.take_of_length_le
 rw [List.length_drop]
 omega
theorem sA {xs:List V} {j:Nat} (h:j+2<=xs.length): ∃ a x y b,xs=a++x::y::b/\a.length=j/\xs.take j=a/\xs.drop (j+2)=b:=by
 refine ⟨xs.take j,xs[j],xs[j+1],xs.drop (j+2),?_,by rw [List.length_take];omega,rfl,rfl⟩
 rw [<- List.drop_eq_getElem_cons (by omega),<- List.drop_eq_getElem_cons (by omega),List.take_append_drop]
theorem sy {xs:List V} {j:Nat} (h:j+3<=xs.length): ∃ a x y z b,xs=a++x::y::z::b/\a.length=j/\xs.take j=a/\xs.drop (j+3)=b:=by
 refine ⟨xs.take j,xs[j],xs[j+1],xs[j+2],xs.drop (j+3),?_,by rw [List.length_take];omega,rfl,rfl⟩
 rw [<- List.drop_eq_getElem_cons (by omega),<- List.drop_eq_getElem_cons (by omega),<- List.drop_eq_getElem_cons (by omega),List.take_append_drop]
theorem iI {a b:List V} {x:V} {d:Int} (h:d=(a.length:Int)):atI (a++x::b) d=some x:=by
 subst h
 exact aG (by rw [List.getElem?_append_right (Nat.le_refl _),Nat.sub_self];rfl)
theorem tQ {A B R:Prop} {c1 c2:Bool} (hr:(if c2=true then A else B)->R) (h1:c1=true->c2=true->A) (h2: ¬ (c1=true/\c2=true)->B):if c1=true then R else (if false=true then A else B):=by
 cases c1 with
 | true=>
  rw [if_pos rfl]
  apply hr
  cases c2 with
  | true=>rw [if_pos rfl];exact h1 rfl rfl
  | false=>exact bi (h2 fun z=>Bool.false_ne_true z.2)
 | false=>exact bi (bi (h2 fun z=>Bool.false_ne_true z.1))
theorem iW (z:Str) {j:Int} (h0:0<=j) (h1:j<=z.length):((Txt.slice z none (some j)).length:Int)=j:=by
 rcases PyProof.Rows.slice_ns_cases z j h0 with ⟨_,h⟩ | ⟨h,_⟩
 ·exact h
 ·omega
noncomputable def letters:Str:="abcdefghijklmnopqrstuvwxyz"
theorem ke:letters.cps.toList.all rh=true:=by decide +kernel
theorem gA:letters.length=26:=by decide +kernel
theorem nQ {d:Int} (h0:0<=d) (h1:d<26): ∃ c,atI letters.cps.toList d=some c/\rh c=true:=by
 have hl:letters.cps.toList.length=26:=by decide +kernel
 obtain ⟨c,e,e2⟩:=jJ (xs:=letters.cps.toList) h0 (by rw [hl];omega)
 exact ⟨c,e,List.all_eq_true.mp ke c (List.mem_of_getElem? e2)⟩
theorem rN (x y:Str):(x++y).length=x.length+y.length:=by
 show (x.cps++y.cps).size=_
 rw [Array.size_append]
 rfl
noncomputable def names13:List Str:=["own","up","down","min","max","of","top","form","sort","wheel","book","tree","ok"]
theorem aneq:(Txt.slice "aneqoubi" none (some 7)).length=7/\(Txt.slice "aneqoubi" none (some 7)).cps.toList.all rh=true:=by decide +kernel
theorem mv:("eyzmopq":Str).length=7:=by decide +kernel
theorem Tp.same {H H':Hp} {tp:Addr} (t:Tp H tp) (s:Same H H'):Tp H' tp:=by
 obtain ⟨t0,e⟩:=t
 exact ⟨t0,s _ _ e⟩
noncomputable def Fm.wfp (ρ:Fm->Prop):Fm->Prop
 | .num n=> -999999<=n/\n<=999999
 | .own x=>cW x=true/\ρ (.own x)
 | .part k x=>((0<=k/\k<=2)/\cW x=true)/\ρ (.part k x)
 | .bin op a b=>op∈ops/\a.wfp ρ/\b.wfp ρ
 | .whn a b c=>a.wfp ρ/\b.wfp ρ/\c.wfp ρ
inductive FsP (ρ:Fm->Prop) (H:Hp):List V->Nat->Prop where
 | nil:FsP ρ H [] 0
 | cons {v:V} {f:Fm} {vs:List V} {n:Nat}:Rep H f v->f.wfp ρ->FsP ρ H vs n->FsP ρ H (v::vs) (f.size+n)
theorem FsP.append {ρ:Fm->Prop} {H:Hp} {xs ys:List V} {m n:Nat} (a:FsP ρ H xs m) (b:FsP ρ H ys n):FsP ρ H (xs++ys) (m+n):=by
 induction a with
 | nil=>rw [Nat.zero_add];exact b
 | cons r w _ ih=>rw [Nat.add_assoc];exact .cons r w ih
theorem FsP.split {ρ:Fm->Prop} {H:Hp}: ∀ {xs ys:List V} {n:Nat},FsP ρ H (xs++ys) n-> ∃ a b,FsP ρ H xs a/\FsP ρ H ys b/\n=a+b
 | [],ys,n,h=>⟨0,n,.nil,h,by omega⟩
 | x::r,ys,n,h=>by
  cases h with
  | cons rp wf t=>
   obtain ⟨a,b,h1,h2,e⟩:=FsP.split t
   exact ⟨_,b,.cons rp wf h1,h2,by omega⟩
theorem FsP.mono {ρ:Fm->Prop} {H H':Hp} (t:TK H H') {xs:List V} {n:Nat} (h:FsP ρ H xs n):FsP ρ H' xs n:=by
 induction h with
 | nil=>exact .nil
 | cons r w _ ih=>exact .cons (r.mono t) w ih
noncomputable def LvsP (ρ:Fm->Prop) (H:Hp) (rs:List V):Prop:= ∀ v∈rs,∃ f,Rep H f v/\f.wfp ρ/\f.size=1
theorem LvsP.mono {ρ:Fm->Prop} {H H':Hp} (t:TK H H') {rs:List V} (h:LvsP ρ H rs):LvsP ρ H' rs:=fun v hv=>by
 obtain ⟨f,r,w,s⟩:=h v hv
 exact ⟨f,r.mono t,w,s⟩
noncomputable def md (ρ:Fm->Prop):Sp:=fun vs H Q _=> ∃ tp rl rs,vs=[.ref tp,.ref rl]/\Tp H tp/\rl≠tp/\H rl=some (.lst rs)/\rs.length<=1000/\LvsP ρ H rs/\
 ∀ v f H',Rep H' f v->f.wfp ρ->f.size=1->Kp tp H H'->Tp H' tp->Q v H'
noncomputable def eU (ρ:Fm->Prop):Sp:=fun vs H Q _=> ∃ tp rl rs,vs=[.ref tp,.ref rl]/\Tp H tp/\rl≠tp/\H rl=some (.lst rs)/\rs.length<=1000/\LvsP ρ H rs/\
 ∀ v f H',Rep H' f v->f.wfp ρ->f.size<=15->Kp tp H H'->Tp H' tp->Q v H'
theorem qK:aI ["tape","readings"] ["tape","readings"] (aj pc):=fsc
theorem pM {ρ:Fm->Prop} (F:Fun K "_law_leaf" "_law_leaf" pc f fd) (G:Gb mg) (GD:ay P w K mg base CX0 1 g gd ["tape","many"] cJ) (bD:Binds K gd ["tape","many"] []) (kD:PySem.W.keepIn K (.ref g)=true) (mD:mg "_law_digit"=some (.ref g))
  (GN:ay P w K mg base CX0 2 f2 fd2 ["tape"] hO) (bN:Binds K fd2 ["tape"] []) (kN:PySem.W.keepIn K (.ref f2)=true) (mN:mg "_law_number"=some (.ref f2)):
  ay P w K mg base CX0 3 f fd ["tape","readings"] (md ρ):=by
 refine F.ok qK (fun vs H Q E h=>?_) (fun cdv A outer s H vs Q E hr h=>?_)
 ·obtain ⟨tp,rl,rs,rfl,_⟩:=h
  rfl
 obtain ⟨tp,rl,rs,rfl,hT,hne,hrl,hlen,hL,q⟩:=h
 have hr1:=hr.mono (show 1<=2 by decide)
 refine ⟨_,af (aW (PW.pt (er (aD j3 (ar av rfl G.len PySem.boot_len (ac (pv 1) ae)) ag (aH _))
   (dl (aD i3 (am GD hr1 rfl mD kD bD .nil aw (ac (pv 0) (ac ag ae))) ag (aH _)))))
   (al (aJ (ax aQ (pv 1) (am GD hr1 rfl mD kD bD .nil aw (ac (pv 0) (ac (ar av rfl G.len PySem.boot_len (ac (pv 1) ae)) ae))) (fun _ _=>rfl)))) aM)
  (al (aJ (aY (ac bx (ac (am GN hr rfl mN kN bN .nil aw (ac (pv 0) ae)) ae))))),?_⟩
 have num: ∀ H1,Kp tp H H1->Tp H1 tp->(∃ v,([some (V.ref tp),some (.ref rl)]:St)[0]? =some (some v)/\hO [v] H1 (fun x H2=>[V.str "num",x].length<=sizeLine/\ ∀ p,H2 p=none->Q (.ref p) (upd H2 p (.tup [V.str "num",x]))) E0):=fun H1 k1 t1=>by
  refine ⟨_,rfl,tp,rfl,t1,fun n H2 h1 h2 k2 t2=>⟨(by show 2<=sizeLine;decide),fun p hp=>?_⟩⟩
  exact q _ (.num n) _ ⟨p,rfl,ad⟩ ⟨h1,h2⟩ rfl ((k1.trans k2).new hp) (t2.new hp)
 refine ⟨_,rfl,rl,rs,rfl,.inl (SqL.of hrl),_,_,rfl,rfl,_,rfl,?_⟩
 refine dE (fun c=>?_) (fun c=>?_)
 ·have c':0<rs.length:=by have:=of_decide_eq_true c;omega
  refine ⟨_,rfl,tp,4,rfl,hT,by decide,by decide,fun d t h0 h1=>?_⟩
  refine ⟨_,_,rfl,rfl,_,rfl,?_⟩
  refine dE (fun c2=>?_) (fun c2=>?_)
  ·have h2:(upd H tp (.lst [.int t])) rl=some (.lst rs):=by rw [ah hne];exact hrl
   refine ⟨_,rfl,_,rfl,_,rfl,rl,rs,rfl,.inl (SqL.of h2),tp,_,rfl,⟨t,ad⟩,by omega,by omega,fun d2 t2 h20 h21=>?_⟩
   rw [dj]
   have h3:(upd H tp (.lst [.int t2])) rl=some (.lst rs):=by rw [ah hne];exact hrl
   obtain ⟨x,ex,ex2⟩:=jJ (xs:=rs) h20 h21
   obtain ⟨fm,r,wf,sz⟩:=hL x (List.mem_of_getElem? ex2)
   have k2:Kp tp H (upd H tp (.lst [.int t2])):=Kp.tape
   exact ⟨rl,rs,d2,x,rfl,rfl,SqL.of h3,ex,q x fm _ (r.mono (k2.tk hT)) wf sz k2 ⟨t2,ad⟩⟩
  ·exact num _ Kp.tape ⟨t,ad⟩
 ·exact num _ Kp.refl hT
theorem rC {H:Hp} {a b:List V} {x y:V} {n:Nat} (h:FsP ρ H (a++x::y::b) n): ∃ A B,Rep H A x/\Rep H B y/\A.wfp ρ/\B.wfp ρ/\ ∃ m1 m2,FsP ρ H a m1/\FsP ρ H b m2/\n=m1+ (A.size+ (B.size+m2)):=by
 obtain ⟨m1,r,h1,h2,e⟩:=h.split
 cases h2 with
 | cons ra wa h3=>
  cases h3 with
  | cons rb wb h4=>exact ⟨_,_,ra,rb,wa,wb,m1,_,h1,h4,e⟩
theorem rB {H:Hp} {a b:List V} {x y z:V} {n:Nat} (h:FsP ρ H (a++x::y::z::b) n): ∃ A B C,Rep H A x/\Rep H B y/\Rep H C z/\A.wfp ρ/\B.wfp ρ/\C.wfp ρ/\ ∃ m1 m2,FsP ρ H a m1/\FsP ρ H b m2/\n=m1+ (A.size+ (B.size+ (C.size+m2))):=by
 obtain ⟨m1,r,h1,h2,e⟩:=h.split
 cases h2 with
 | cons ra wa h3=>
  cases h3 with
  | cons rb wb h4=>
   cases h4 with
   | cons rc wc h5=>exact ⟨_,_,_,ra,rb,rc,wa,wb,wc,m1,_,h1,h5,e⟩
theorem scFormulaP:aI ["tape","readings","many","j","stack","way","sign"] ["tape","readings"] (aj dA):=fsc
theorem j6 (F:Fun K "_law_formula" "_law_formula" dA f fd) (G:Gb mg) (GD:ay P w K mg base CX0 1 g gd ["tape","many"] cJ) (bD:Binds K gd ["tape","many"] []) (kD:PySem.W.keepIn K (.ref g)=true) (mD:mg "_law_digit"=some (.ref g))
  (GL:ay P w K mg base CX0 3 f2 fd2 ["tape","readings"] (md ρ)) (bL:Binds K fd2 ["tape","readings"] []) (kL:PySem.W.keepIn K (.ref f2)=true) (mL:mg "_law_leaf"=some (.ref f2)):
  ay P w K mg base CX0 4 f fd ["tape","readings"] (eU ρ):=by
 refine F.ok scFormulaP (fun vs H Q E h=>?_) (fun cdv A outer s H vs Q E hr h=>?_)
 ·obtain ⟨tp,rl,rs,rfl,_⟩:=h
  rfl
 obtain ⟨tp,rl,rs,rfl,hT,hne,hrl,hlen,hL,q⟩:=h
 have hr1:=hr.mono (show 1<=3 by decide)
 obtain ⟨t,ht,hread⟩: ∃ t,PSs (dv CX0 P w K mg base ["tape","readings","many","j","stack","way","sign"] "_law_formula" (aj dA) f cdv A outer s H E).nox ((bz dA).drop 2) t/\
   ∀ (m:Int) (H2:Hp),1<=m->m<=8->Kp tp H H2->Tp H2 tp->t {nx:=fun _ H'=>Q .non H',rt:=Q} [some (.ref tp),some (.ref rl),some (.int m),none,none,none,none] H2:=by
  refine ⟨_,af (eG (i:=4) (sc0:=aj dA) (N0:=["tape","readings","many","j","stack","way","sign"]) (ys:=["tape","readings"]) (fr:=[0,1]) rfl scFormulaP.nd rfl (Or.inl rfl) (bM rfl G.range (ac (pv 2) ae)) rfl rfl
    cok
    (fun C s H ex=>am GL hr rfl mL kL bL .nil aw (ac (pv 1) (ac (pv 2) ae))))
   (af (j1 PassesOwn.never (aD j3 (ar av rfl G.len PySem.boot_len (ac (pv 4) ae)) ag (aH _))
    (af (aq (i:=5) scFormulaP.nd rfl (Or.inl rfl) (am GD hr1 rfl mD kD bD .nil aw (ac (pv 0) (ac ag ae))))
    (al (aW (PW.pt (er (aD cB (pv 5) ag (aH _)) (dl (aD j3 (ar av rfl G.len PySem.boot_len (ac (pv 4) ae)) ag (aH _)))))
     (af (aq (i:=3) scFormulaP.nd rfl (Or.inl rfl) (am GD hr1 rfl mD kD bD .nil aw (ac (pv 0) (ac (au eZ (ar av rfl G.len PySem.boot_len (ac (pv 4) ae)) ag) ae))))
     (al (aq (i:=4) scFormulaP.nd rfl (Or.inl rfl) (au gc (au gc (a7 cR (pv 4) bw (bg (pv 3)))
      (bU (ac (aY (ac bx (ac (ax aQ (pv 4) (pv 3) (fun _ _=>rfl)) (ac (ax aQ (pv 4) (au aS (pv 3) ag) (fun _ _=>rfl)) (ac (ax aQ (pv 4) (au aS (pv 3) ag) (fun _ _=>rfl)) ae))))) ae)))
      (a7 cR (pv 4) (bg (au aS (pv 3) ag)) bw)))))
     (af (aq (i:=3) scFormulaP.nd rfl (Or.inl rfl) (am GD hr1 rfl mD kD bD .nil aw (ac (pv 0) (ac (au eZ (ar av rfl G.len PySem.boot_len (ac (pv 4) ae)) ag) ae))))
     (af (aq (i:=6) scFormulaP.nd rfl (Or.inl rfl) (ax aQ (bU (ac bx (ac bx (ac bx (ac bx (ac bx ae)))))) (au cg (pv 5) ag) (fun _ _=>rfl)))
     (al (aq (i:=4) scFormulaP.nd rfl (Or.inl rfl) (au gc (au gc (a7 cR (pv 4) bw (bg (pv 3)))
      (bU (ac (aY (ac (pv 6) (ac (ax aQ (pv 4) (pv 3) (fun _ _=>rfl)) (ac (ax aQ (pv 4) (au aS (pv 3) ag) (fun _ _=>rfl)) ae)))) ae)))
      (a7 cR (pv 4) (bg (au aS (pv 3) ag)) bw))))))))))
   (al (aJ (ax aQ (pv 4) ag (fun _ _=>rfl))))),fun m H2 hm1 hm8 k2 tt2=>?_⟩
  have tpn: ∀ {p:Addr} {Hx:Hp},Tp Hx tp->Hx p=none->p≠tp:=fun t hp e=>by
   obtain ⟨t0,e0⟩:=t
   subst e
   rw [e0]at hp
   cases hp
  refine ⟨_,rfl,m,rfl,by omega,by omega,?_⟩
  refine eL (n:=m.toNat) (R:=fun i v=>v=.int (0+i)) (by omega) jC fG gO
   (fun p i zs H'=>Kp tp H H'/\Tp H' tp/\H' p=some (.lst zs)/\p≠tp/\zs.length=i/\FsP ρ H' zs i) ?_ ?_ ?_ ?_
  ·intro p hp
   exact ⟨k2.new hp,tt2.new hp,ad,tpn tt2 hp,rfl,.nil⟩
  ·rintro p i zs H' ⟨_,_,h,_,e,_⟩
   exact ⟨h,e⟩
  ·rintro p i zs H' v k hp hi rfl ⟨k3,t3,hz,hpn,hzl,hf⟩ hk
   have hrl':H' rl=some (.lst rs):=k3 _ _ hrl hne
   refine ⟨_,rfl,_,rfl,tp,rl,rs,rfl,t3,hne,hrl',hlen,hL.mono (k3.tk hT),fun v f H3 rp wf sz k4 t4=>?_⟩
   refine hk v H3 (k4 _ _ hz hpn) ⟨?_,?_,ad,hpn,by rw [List.length_append,hzl];rfl,?_⟩
   ·intro b o hb hne'
    have hbp:b≠p:=fun e=>by
     subst e
     have:=k2 b o hb hne'
     rw [hp]at this
     cases this
    rw [ah hbp]
    exact k4 _ _ (k3 _ _ hb hne') hne'
   ·obtain ⟨t0,e0⟩:=t4
    exact ⟨t0,by rw [ah (Ne.symm hpn)];exact e0⟩
   ·have tk:TK H3 (upd H3 p (.lst (zs++[v]))):=TK.lst (k4 _ _ hz hpn)
    have e1:FsP ρ H3 zs i:=hf.mono (k4.tk t3)
    have e2:=e1.append (FsP.cons rp wf .nil)
    rw [sz]at e2
    exact e2.mono tk
  ·rintro p zs H' hp ⟨k3,t3,hz,hpn,hzl,hf⟩
   refine oA (fun σ H'=> ∃ (sl:Addr) (ws:List V) (n:Nat) (j wy sg:Option V),σ=[some (.ref tp),some (.ref rl),some (.int m),j,some (.ref sl),wy,sg]/\H' sl=some (.lst ws)/\sl≠tp/\1<=ws.length/\ws.length<=8/\
     FsP ρ H' ws n/\n+ws.length<=16/\Kp tp H H'/\Tp H' tp)
    (fun σ H'=>match σ with | [_,_,_,_,some (.ref sl),_,_]=>(match H' sl with | some (.lst ws)=>ws.length | _=>0) | _=>0)
    ⟨p,zs,m.toNat,none,none,none,rfl,hz,hpn,by omega,by omega,hf,by omega,k3,t3⟩ ?_ ?_
   ·rintro σ H3 ⟨sl,ws,n,j,wy,sg,rfl,hsl,hsn,hw1,hw8,hfs,hsz,k4,t4⟩
    refine ⟨_,rfl,sl,ws,rfl,.inl (SqL.of hsl),_,_,rfl,rfl,_,rfl,?_⟩
    refine dE (fun c=>?_) (fun c=>?_)
    ·have c':1<ws.length:=by have:=of_decide_eq_true c;omega
     refine ⟨_,rfl,tp,6,rfl,t4,by decide,by decide,fun wy t5 hw0 hw6=>?_⟩
     have k5:Kp tp H3 (upd H3 tp (.lst [.int t5])):=Kp.tape
     have tt5:Tp (upd H3 tp (.lst [.int t5])) tp:=⟨t5,ad⟩
     have hsl5:=k5 _ _ hsl hsn
     have hfs5:=hfs.mono (k5.tk t4)
     have k5':=k4.trans k5
     generalize upd H3 tp (.lst [.int t5])=H5 at k5 tt5 hsl5 hfs5 k5' ⊢
     refine ⟨_,rfl,rfl,_,rfl,?_⟩
     refine tQ (c2:=decide (2< (ws.length:Int))) (fun h=>⟨_,rfl,sl,ws,rfl,.inl (SqL.of hsl5),_,_,rfl,rfl,_,rfl,h⟩) (fun _ cw=>?_) (fun _=>?_)
     ·-- when
      have cw':2<ws.length:=by have:=of_decide_eq_true cw;omega
      refine ⟨_,rfl,_,rfl,sl,ws,rfl,.inl (SqL.of hsl5),_,_,rfl,rfl,tp,_,rfl,tt5,by omega,by omega,fun jj t6 hj0 hj1=>?_⟩
      have k6:Kp tp H5 (upd H5 tp (.lst [.int t6])):=Kp.tape
      have tt6:Tp (upd H5 tp (.lst [.int t6])) tp:=⟨t6,ad⟩
      have hsl6:=k6 _ _ hsl5 hsn
      have hfs6:=hfs5.mono (k6.tk tt5)
      have k6':=k5'.trans k6
      generalize upd H5 tp (.lst [.int t6])=H6 at k6 tt6 hsl6 hfs6 k6' ⊢
      obtain ⟨a,x,y,z,b,ew,ea,etk,edr⟩:=sy (xs:=ws) (j:=jj.toNat) (by omega)
      have ej:jj=(a.length:Int):=by omega
      obtain ⟨A,B,C,ra,rb,rc,wa,wb,wc,m1,m2,f1,f2,en⟩:=rB (ew▸hfs6)
      have hlw:ws.length=a.length+3+b.length:=by rw [ew];simp;omega
      refine ⟨_,rfl,_,rfl,jj,rfl,sl,ws,rfl,SqL.of hsl6,fun p1 hp1=>?_⟩
      rw [eB ws hj0 (by omega),etk]
      have s1:Same H6 (upd H6 p1 (.lst a)):=ai hp1 _
      have g1:(upd H6 p1 (.lst a)) p1=some (.lst a):=ad
      generalize upd H6 p1 (.lst a)=H7 at s1 g1 ⊢
      have hsl7:=s1 _ _ hsl6
      refine ⟨_,rfl,_,rfl,sl,ws,jj,x,rfl,rfl,SqL.of hsl7,ew▸iI ej,_,rfl,_,rfl,_,_,rfl,rfl,sl,ws,jj+1,y,rfl,rfl,SqL.of hsl7,?_,_,rfl,_,rfl,_,_,rfl,rfl,sl,ws,jj+2,z,rfl,rfl,SqL.of hsl7,?_,(by show 4<=sizeLine;decide),fun p2 hp2=>?_⟩
      ·rw [ew,show a++x::y::z::b=(a++[x])++y::z::b by simp]
       exact iI (by simp;omega)
      ·rw [ew,show a++x::y::z::b=(a++[x,y])++z::b by simp]
       exact iI (by simp;omega)
      have s2:Same H7 (upd H7 p2 (.tup [.str "when",x,y,z])):=ai hp2 _
      have g2:(upd H7 p2 (.tup [.str "when",x,y,z])) p2=some (.tup [.str "when",x,y,z]):=ad
      generalize upd H7 p2 (.tup [.str "when",x,y,z])=H8 at s2 g2 ⊢
      refine ⟨(by show 1<=sizeLine;decide),fun p3 hp3=>?_⟩
      have s3:Same H8 (upd H8 p3 (.lst [.ref p2])):=ai hp3 _
      have g3:(upd H8 p3 (.lst [.ref p2])) p3=some (.lst [.ref p2]):=ad
      generalize upd H8 p3 (.lst [.ref p2])=H9 at s3 g3 ⊢
      refine ⟨p1,p3,a,_,rfl,rfl,s3 _ _ (s2 _ _ g1),g3,Nat.le_of_lt (aF (by simp;omega)),fun p4 hp4=>?_⟩
      have s4:Same H9 (upd H9 p4 (.lst (a++[.ref p2]))):=ai hp4 _
      have g4:(upd H9 p4 (.lst (a++[.ref p2]))) p4=some (.lst (a++[.ref p2])):=ad
      generalize upd H9 p4 (.lst (a++[.ref p2]))=H10 at s4 g4 ⊢
      have s7:Same H7 H10:=s2.trans (s3.trans s4)
      refine ⟨_,rfl,_,rfl,_,_,rfl,rfl,jj+3,rfl,sl,ws,rfl,SqL.of (s7 _ _ hsl7),fun p5 hp5=>?_⟩
      rw [iC ws (by omega) (by omega),show (jj+3).toNat=jj.toNat+3 by omega,edr]
      have s5:Same H10 (upd H10 p5 (.lst b)):=ai hp5 _
      have g5:(upd H10 p5 (.lst b)) p5=some (.lst b):=ad
      generalize upd H10 p5 (.lst b)=H11 at s5 g5 ⊢
      refine ⟨p4,p5,_,b,rfl,rfl,s5 _ _ g4,g5,Nat.le_of_lt (aF (by simp;omega)),fun p6 hp6=>?_⟩
      have s6:Same H6 H11:=s1.trans (s7.trans s5)
      have st:Same H6 (upd H11 p6 (.lst (a++[.ref p2]++b))):=s6.trans (ai hp6 _)
      have tk:TK H6 (upd H11 p6 (.lst (a++[.ref p2]++b))):=fun c xs h=>st _ _ h
      have g2':(upd H11 p6 (.lst (a++[.ref p2]++b))) p2=some (.tup [.str "when",x,y,z]):=(ai hp6 _) _ _ (s5 _ _ (s4 _ _ (s3 _ _ g2)))
      have tt7:Tp (upd H11 p6 (.lst (a++[.ref p2]++b))) tp:=by obtain ⟨t0,e0⟩:=tt6;exact ⟨t0,st _ _ e0⟩
      refine ⟨⟨p6,_,m1+ ((Fm.whn A B C).size+0) +m2,_,_,_,rfl,ad,?_,by simp;omega,by simp;omega,?_,?_,k6'.same st,tt7⟩,?_⟩
      ·intro e
       obtain ⟨t0,e0⟩:=tt6
       have:=s6 _ _ e0
       rw [<- e,hp6]at this
       cases this
      ·exact ((f1.mono tk).append (FsP.cons (f:=.whn A B C) ⟨p2,x,y,z,rfl,g2',ra.mono tk,rb.mono tk,rc.mono tk⟩ ⟨wa,wb,wc⟩ .nil)).append (f2.mono tk)
      ·show m1+ ((A.size+B.size+C.size+1) +0) +m2+ (a++[V.ref p2]++b).length<=16
       simp
       omega
      ·show (match (upd H11 p6 (.lst (a++[.ref p2]++b))) p6 with | some (.lst ws)=>ws.length | _=>0) < (match H3 sl with | some (.lst ws)=>ws.length | _=>0)
       rw [ad,hsl]
       simp
       omega
     ·-- one of the five signs
      refine ⟨_,rfl,_,rfl,sl,ws,rfl,.inl (SqL.of hsl5),_,_,rfl,rfl,tp,_,rfl,tt5,by omega,by omega,fun jj t6 hj0 hj1=>?_⟩
      have k6:Kp tp H5 (upd H5 tp (.lst [.int t6])):=Kp.tape
      have tt6:Tp (upd H5 tp (.lst [.int t6])) tp:=⟨t6,ad⟩
      have hsl6:=k6 _ _ hsl5 hsn
      have hfs6:=hfs5.mono (k6.tk tt5)
      have k6':=k5'.trans k6
      generalize upd H5 tp (.lst [.int t6])=H6 at k6 tt6 hsl6 hfs6 k6' ⊢
      refine ⟨(by show 5<=sizeLine;decide),fun p0 hp0=>?_⟩
      have s0:Same H6 (upd H6 p0 (.lst [.str "plus",.str "less",.str "times",.str "least",.str "most"])):=ai hp0 _
      have g0:(upd H6 p0 (.lst [.str "plus",.str "less",.str "times",.str "least",.str "most"])) p0=some (.lst [.str "plus",.str "less",.str "times",.str "least",.str "most"]):=ad
      generalize upd H6 p0 (.lst [.str "plus",.str "less",.str "times",.str "least",.str "most"])=H6b at s0 g0 ⊢
      obtain ⟨op,hop,hopm⟩: ∃ op,atI [V.str "plus",.str "less",.str "times",.str "least",.str "most"] (wy%5)=some (.str op)/\op∈ops:=by
       have h1:=Int.emod_nonneg wy (show (5:Int)≠0 by decide)
       have h2:=Int.emod_lt_of_pos wy (show (0:Int) <5 by decide)
       have h5:wy%5=0\/wy%5=1\/wy%5=2\/wy%5=3\/wy%5=4:=by omega
       rcases h5 with h | h | h | h | h <;> rw [h]
       ·exact ⟨"plus",rfl,by simp [ops]⟩
       ·exact ⟨"less",rfl,by simp [ops]⟩
       ·exact ⟨"times",rfl,by simp [ops]⟩
       ·exact ⟨"least",rfl,by simp [ops]⟩
       ·exact ⟨"most",rfl,by simp [ops]⟩
      refine ⟨_,rfl,_,_,rfl,rfl,(by show (0:Int) <5;decide),p0,_,_,_,rfl,rfl,SqL.of g0,hop,?_⟩
      obtain ⟨a,x,y,b,ew,ea,etk,edr⟩:=sA (xs:=ws) (j:=jj.toNat) (by omega)
      have ej:jj=(a.length:Int):=by omega
      obtain ⟨A,B,ra,rb,wa,wb,m1,m2,f1,f2,en⟩:=rC (ew▸hfs6)
      have hlw:ws.length=a.length+2+b.length:=by rw [ew];simp;omega
      have hsl6b:=s0 _ _ hsl6
      refine ⟨_,rfl,_,rfl,jj,rfl,sl,ws,rfl,SqL.of hsl6b,fun p1 hp1=>?_⟩
      rw [eB ws hj0 (by omega),etk]
      have s1:Same H6b (upd H6b p1 (.lst a)):=ai hp1 _
      have g1:(upd H6b p1 (.lst a)) p1=some (.lst a):=ad
      generalize upd H6b p1 (.lst a)=H7 at s1 g1 ⊢
      have hsl7:=s1 _ _ hsl6b
      refine ⟨_,rfl,_,rfl,_,rfl,sl,ws,jj,x,rfl,rfl,SqL.of hsl7,ew▸iI ej,_,rfl,_,rfl,_,_,rfl,rfl,sl,ws,jj+1,y,rfl,rfl,SqL.of hsl7,?_,(by show 3<=sizeLine;decide),fun p2 hp2=>?_⟩
      ·rw [ew,show a++x::y::b=(a++[x])++y::b by simp]
       exact iI (by simp;omega)
      have s2:Same H7 (upd H7 p2 (.tup [.str op,x,y])):=ai hp2 _
      have g2:(upd H7 p2 (.tup [.str op,x,y])) p2=some (.tup [.str op,x,y]):=ad
      generalize upd H7 p2 (.tup [.str op,x,y])=H8 at s2 g2 ⊢
      refine ⟨(by show 1<=sizeLine;decide),fun p3 hp3=>?_⟩
      have s3:Same H8 (upd H8 p3 (.lst [.ref p2])):=ai hp3 _
      have g3:(upd H8 p3 (.lst [.ref p2])) p3=some (.lst [.ref p2]):=ad
      generalize upd H8 p3 (.lst [.ref p2])=H9 at s3 g3 ⊢
      refine ⟨p1,p3,a,_,rfl,rfl,s3 _ _ (s2 _ _ g1),g3,Nat.le_of_lt (aF (by simp;omega)),fun p4 hp4=>?_⟩
      have s4:Same H9 (upd H9 p4 (.lst (a++[.ref p2]))):=ai hp4 _
      have g4:(upd H9 p4 (.lst (a++[.ref p2]))) p4=some (.lst (a++[.ref p2])):=ad
      generalize upd H9 p4 (.lst (a++[.ref p2]))=H10 at s4 g4 ⊢
      have s7:Same H7 H10:=s2.trans (s3.trans s4)
      refine ⟨_,rfl,_,rfl,_,_,rfl,rfl,jj+2,rfl,sl,ws,rfl,SqL.of (s7 _ _ hsl7),fun p5 hp5=>?_⟩
      rw [iC ws (by omega) (by omega),show (jj+2).toNat=jj.toNat+2 by omega,edr]
      have s5:Same H10 (upd H10 p5 (.lst b)):=ai hp5 _
      have g5:(upd H10 p5 (.lst b)) p5=some (.lst b):=ad
      generalize upd H10 p5 (.lst b)=H11 at s5 g5 ⊢
      refine ⟨p4,p5,_,b,rfl,rfl,s5 _ _ g4,g5,Nat.le_of_lt (aF (by simp;omega)),fun p6 hp6=>?_⟩
      have s6:Same H6 H11:=s0.trans (s1.trans (s7.trans s5))
      have st:Same H6 (upd H11 p6 (.lst (a++[.ref p2]++b))):=s6.trans (ai hp6 _)
      have tk:TK H6 (upd H11 p6 (.lst (a++[.ref p2]++b))):=fun c xs h=>st _ _ h
      have g2':(upd H11 p6 (.lst (a++[.ref p2]++b))) p2=some (.tup [.str op,x,y]):=(ai hp6 _) _ _ (s5 _ _ (s4 _ _ (s3 _ _ g2)))
      have tt7:Tp (upd H11 p6 (.lst (a++[.ref p2]++b))) tp:=by obtain ⟨t0,e0⟩:=tt6;exact ⟨t0,st _ _ e0⟩
      refine ⟨⟨p6,_,m1+ ((Fm.bin op A B).size+0) +m2,_,_,_,rfl,ad,?_,by simp;omega,by simp;omega,?_,?_,k6'.same st,tt7⟩,?_⟩
      ·intro e
       obtain ⟨t0,e0⟩:=tt6
       have:=s6 _ _ e0
       rw [<- e,hp6]at this
       cases this
      ·exact ((f1.mono tk).append (FsP.cons (f:=.bin op A B) ⟨p2,x,y,rfl,g2',ra.mono tk,rb.mono tk⟩ ⟨hopm,wa,wb⟩ .nil)).append (f2.mono tk)
      ·show m1+ ((A.size+B.size+1) +0) +m2+ (a++[V.ref p2]++b).length<=16
       simp
       omega
      ·show (match (upd H11 p6 (.lst (a++[.ref p2]++b))) p6 with | some (.lst ws)=>ws.length | _=>0) < (match H3 sl with | some (.lst ws)=>ws.length | _=>0)
       rw [ad,hsl]
       simp
       omega
    ·have c':ws.length=1:=by
      have: ¬ (1:Int) < (ws.length:Int):=fun z=>c (decide_eq_true z)
      omega
     obtain ⟨x,ex⟩:=List.length_eq_one_iff.mp c'
     subst ex
     cases hfs with
     | cons rp wf f2=>
      cases f2
      refine ⟨_,rfl,sl,_,0,x,rfl,rfl,SqL.of hsl,dF,q x _ H3 rp wf (by simp at hsz;omega) k4 t4⟩
   ·rintro σ H3 Q1 Q2 hq ⟨y,e1,p,ys,e2,h2,i,j,e3,e4,k,e5,h⟩
    exact ⟨y,e1,p,ys,e2,h2,i,j,e3,e4,k,e5,hq _ _ h⟩
 refine ⟨_,af (aq (i:=2) scFormulaP.nd rfl (Or.inl rfl) (au aS ag (am GD hr1 rfl mD kD bD .nil aw (ac (pv 0) (ac ag ae)))))
  (af (aW (aD cB (am GD hr1 rfl mD kD bD .nil aw (ac (pv 0) (ac ag ae))) ag (aH _)) (al (aq (i:=2) scFormulaP.nd rfl (Or.inl rfl) ag)) aM) ht),?_⟩
 refine ⟨_,rfl,tp,4,rfl,hT,by decide,by decide,fun d1 t1 h10 h11=>?_⟩
 refine ⟨1,_,rfl,rfl,?_⟩
 refine ⟨_,rfl,tp,16,rfl,⟨t1,ad⟩,by decide,by decide,fun d2 t2 h20 h21=>?_⟩
 rw [dj]
 refine ⟨rfl,_,rfl,?_⟩
 refine dE (fun c9=>?_) (fun c9=>?_)
 ·exact hread 8 _ (by decide) (by decide) Kp.tape ⟨t2,ad⟩
 ·exact hread (1+d1) _ (by omega) (by omega) Kp.tape ⟨t2,ad⟩
noncomputable def kg (d:Int):Nat:=(atI letters.cps.toList d).getD 0
noncomputable def dG (tu:Int):Str:=(⟨#[kg tu]⟩:Str)++Txt.slice "aneqoubi" none (some 7)
noncomputable def nm0 (tu:Int) (i:Nat):Str:=if (0+ (i:Int)) <8 then Txt.slice (dG tu) none (some (0+ (i:Int) +1))else (⟨#[kg ((tu+1) %26)]⟩:Str)++Txt.slice (dG tu) none (some (0+ (i:Int) -8))
noncomputable def nm1 (tu:Int) (i:Nat):Str:=((names13)[((tu+ (0+ (i:Int))) %13).toNat]?).getD ""
noncomputable def nm2 (tu:Int) (i:Nat):Str:=(⟨#[kg ((tu+ (0+ (i:Int))) %26)]⟩:Str)++Txt.slice "eyzmopq" none (some ((tu+3* (0+ (i:Int))) %8))
noncomputable def iQ (way:Nat) (tu:Int) (i:Nat):Str:=if way=0 then nm0 tu i else if way=1 then nm1 tu i else nm2 tu i
noncomputable def NamesAre (m:Nat) (ws:List Str):Prop:= ∃ (way tu:Nat) (back:Bool),way<3/\tu<26/\ws=(if back=true then ((List.range m).map (iQ way tu)).reverse else (List.range m).map (iQ way tu))
noncomputable def hU:Sp:=fun vs H Q _=> ∃ tp m,vs=[.ref tp,.int m]/\Tp H tp/\0<=m/\m<=13/\
 ∀ l (ws:List Str) H',H' l=some (.lst (ws.map V.str))->(ws.length:Int)=m->NamesAre m.toNat ws->l≠tp->Kp tp H H'->Tp H' tp->Q (.ref l) H'
theorem jA {d:Int} (h0:0<=d) (h1:d<26):atI letters.cps.toList d=some (kg d):=by
 obtain ⟨c,e,_⟩:=nQ h0 h1
 unfold kg
 rw [e]
 rfl
theorem oO (tu:Int):(dG tu).length=8:=by unfold dG;rw [rN,aneq.1];rfl
theorem scNamesX:aI ["tape","many","letters","way","turn","back","stem","names","words"] ["tape","many"] (aj ee):=fsc
theorem nA (F:Fun K "_law_names" "_law_names" ee f fd) (G:Gb mg) (GD:ay P w K mg base CX0 1 g gd ["tape","many"] cJ) (bD:Binds K gd ["tape","many"] []) (kD:PySem.W.keepIn K (.ref g)=true) (mD:mg "_law_digit"=some (.ref g)):
  ay P w K mg base CX0 2 f fd ["tape","many"] hU:=by
 refine F.ok scNamesX (fun vs H Q E h=>?_) (fun cdv A outer s H vs Q E hr h=>?_)
 ·obtain ⟨tp,m,rfl,_⟩:=h
  rfl
 obtain ⟨tp,m,rfl,hT,hm0,hm1,q⟩:=h
 obtain ⟨t,ht,hread⟩: ∃ t,PSs (dv CX0 P w K mg base ["tape","many","letters","way","turn","back","stem","names","words"] "_law_names" (aj ee) f cdv A outer s H E).nox ((bz ee).drop 5) t/\
   ∀ (b:Int) (l:Addr) (way tu:Nat) (H2:Hp) (o2 o3 o4 o6 o8:Option V),(b=1\/b= -1)->way<3->tu<26->H2 l=some (.lst (((List.range m.toNat).map (iQ way tu)).map V.str))->Kp tp H H2->Tp H2 tp->
    t {nx:=fun _ H'=>Q .non H',rt:=Q} [some (.ref tp),some (.int m),o2,o3,o4,some (.int b),o6,some (.ref l),o8] H2:=by
  refine ⟨_,al (aJ (qS (pv 7) (pv 5))),fun b l way tu H2 o2 o3 o4 o6 o8 hb hw1 hw2 hl k2 t2=>?_⟩
  have hlen:(((List.range m.toNat).map (iQ way tu)).length:Int)=m:=by rw [List.length_map,List.length_range];omega
  refine ⟨_,rfl,_,rfl,l,_,b,rfl,rfl,SqL.of hl,by omega,fun p hp=>?_⟩
  have hpt:p≠tp:=fun e=>by
   obtain ⟨t0,e0⟩:=t2
   subst e
   rw [e0]at hp
   cases hp
  rcases hb with rfl | rfl
  ·rw [mM]
   exact q p _ _ ad hlen ⟨way,tu,false,hw1,hw2,rfl⟩ hpt (k2.new hp) (t2.new hp)
  ·rw [mQ,<- List.map_reverse]
   exact q p _ _ ad (by rw [List.length_reverse];exact hlen) ⟨way,tu,true,hw1,hw2,rfl⟩ hpt (k2.new hp) (t2.new hp)
 have cw: ∀ {te:TE} {fr:List Nat} {σ:St} {H2:Hp} {Q2:VK} (g:Nat->Str),(∀ (i:Nat) (H3:Hp) (k:VK),(i:Int) <m->k (.str (g i)) H3->te (some (.int (0+i))::bH fr σ) H3 k)->
   (∀ p,H2 p=none->Q2 (.ref p) (upd H2 p (.lst (((List.range m.toNat).map g).map V.str))))->gY fr te σ (Itr 0 m.toNat) H2 Q2:=by
  intro te fr σ H2 Q2 g hs hd
  refine eL (n:=m.toNat) (R:=fun i v=>v=.int (0+i)) (by omega) jC fG gO
   (fun p i zs H'=>H'=upd H2 p (.lst zs)/\zs=((List.range i).map g).map V.str) (fun p hp=>⟨rfl,rfl⟩) ?_ ?_ ?_
  ·rintro p i zs H' ⟨rfl,rfl⟩
   exact ⟨ad,by rw [List.length_map,List.length_map,List.length_range]⟩
  ·rintro p i zs H' v k hp hi rfl ⟨rfl,rfl⟩ hk
   exact hs i _ k (by omega) (hk (.str (g i)) _ ad ⟨dj,by rw [List.range_succ];simp⟩)
  ·rintro p zs H' hp ⟨rfl,rfl⟩
   exact hd p hp
 refine ⟨_,af (aq (i:=2) scNamesX.nd rfl (Or.inr rfl) bx)
  (af (aq (i:=3) scNamesX.nd rfl (Or.inl rfl) (am GD hr rfl mD kD bD .nil aw (ac (pv 0) (ac ag ae))))
  (af (aq (i:=4) scNamesX.nd rfl (Or.inr rfl) (am GD hr rfl mD kD bD .nil aw (ac (pv 0) (ac ag ae))))
  (af (aq (i:=5) scNamesX.nd rfl (Or.inl rfl) (au eZ ag (au cQ ag (am GD hr rfl mD kD bD .nil aw (ac (pv 0) (ac ag ae))))))
  (af (aW (aD cB (pv 3) ag (aH _))
   (af (aq (i:=6) scNamesX.nd rfl (Or.inr rfl) (au e7 (ax lP (pv 2) (pv 4) (fun _ _=>rfl)) (a7 jl bx bw (bg ag))))
   (al (eG (i:=7) (sc0:=aj ee) (N0:=["tape","many","letters","way","turn","back","stem","names","words"]) (ys:=["letters","stem","turn"]) (fr:=[2,6,4]) rfl scNamesX.nd rfl (Or.inl rfl) (bM rfl G.range (ac (pv 1) ae)) rfl rfl
    cok
    (fun C s H ex=>pC (aD i3 (pv 0) ag (aH _)) (a7 jl (pv 2) bw (bg (au aS (pv 0) ag)))
     (au e7 (ax lP (pv 1) (au cg (au aS (pv 3) ag) ag) (fun _ _=>rfl)) (a7 jl (pv 2) bw (bg (au eZ (pv 0) ag))))))))
   (al (aW (aD cB (pv 3) ag (aH _))
    (@af _ _ _ _ _ (@qR _ 8 _ _ (names13.map V.str) _ _ _ scNamesX.nd rfl (Or.inr rfl) (Or.inl rfl) rfl)
    (al (eG (i:=7) (sc0:=aj ee) (N0:=["tape","many","letters","way","turn","back","stem","names","words"]) (ys:=["turn","words"]) (fr:=[4,8]) rfl scNamesX.nd rfl (Or.inl rfl) (bM rfl G.range (ac (pv 1) ae)) rfl rfl
     cok
     (fun C s H ex=>ax (r:=uq K) aQ (pv 2) (au cg (au aS (pv 1) (pv 0)) ag) (fun _ _=>rfl)))))
    (al (eG (i:=7) (sc0:=aj ee) (N0:=["tape","many","letters","way","turn","back","stem","names","words"]) (ys:=["letters","turn"]) (fr:=[2,4]) rfl scNamesX.nd rfl (Or.inl rfl) (bM rfl G.range (ac (pv 1) ae)) rfl rfl
     cok
     (fun C s H ex=>au e7 (ax lP (pv 1) (au cg (au aS (pv 2) (pv 0)) ag) (fun _ _=>rfl)) (a7 jl bx bw (bg (au cg (au aS (pv 2) (au cQ ag (pv 0))) ag)))))))))
  ht)))),?_⟩
 refine ⟨_,rfl,tp,3,rfl,hT,by decide,by decide,fun wy t1 hw0 hw1=>?_⟩
 refine ⟨_,rfl,tp,26,rfl,⟨t1,ad⟩,by decide,by decide,fun tu t2 htu0 htu1=>?_⟩
 rw [dj]
 refine ⟨_,rfl,tp,2,rfl,⟨t2,ad⟩,by decide,by decide,fun bk t3 hb0 hb1=>?_⟩
 rw [dj]
 refine ⟨2,_,rfl,rfl,.inl ⟨by decide,by decide⟩,1,_,rfl,rfl,?_⟩
 have hb:(1-2*bk=1\/1-2*bk= -1):=by omega
 have k3:Kp tp H (upd H tp (.lst [.int t3])):=Kp.tape
 have tt3:Tp (upd H tp (.lst [.int t3])) tp:=⟨t3,ad⟩
 generalize upd H tp (.lst [.int t3])=H3 at k3 tt3 ⊢
 have l26:(letters.length:Int)=26:=by rw [gA];rfl
 have lsz:letters.length<=sizeLine:=by rw [gA];exact Nat.le_of_lt (aF (by decide))
 refine ⟨_,rfl,rfl,_,rfl,?_⟩
 refine dE (fun c=>?_) (fun c=>?_)
 ·-- stems
  have hwy:wy=0:=V.int.inj (of_decide_eq_true c)
  have ec0:=jA htu0 htu1
  refine ⟨_,rfl,_,rfl,letters,tu,kg tu,rfl,rfl,lsz,ec0,7,rfl,"aneqoubi",rfl,(by decide +kernel),_,_,rfl,rfl,?_,?_⟩
  ·rw [aneq.1]
   show 1+7<=sizeLine
   exact Nat.le_of_lt (aF (by decide))
  have zl:=oO tu
  have zsz:(dG tu).length<=sizeLine:=by rw [zl];exact Nat.le_of_lt (aF (by decide))
  refine ⟨_,rfl,m,rfl,by omega,by omega,?_⟩
  refine cw (nm0 tu) ?_ ?_
  ·intro i H4 k hi hk
   refine ⟨_,rfl,_,_,rfl,rfl,_,rfl,?_⟩
   refine dE (fun ci=>?_) (fun ci=>?_)
   ·have ci':(0+ (i:Int)) <8:=of_decide_eq_true ci
    refine ⟨_,rfl,_,rfl,_,_,rfl,rfl,_,rfl,dG tu,rfl,zsz,?_⟩
    unfold nm0 at hk
    rw [if_pos ci']at hk
    exact hk
   ·have ci': ¬ (0+ (i:Int)) <8:=fun y=>ci (decide_eq_true y)
    have ec1:=jA (d:=(tu+1) %26) (Int.emod_nonneg _ (by decide)) (Int.emod_lt_of_pos _ (by decide))
    have e:=iW (dG tu) (j:=0+ (i:Int) -8) (by omega) (by rw [zl];omega)
    unfold nm0 at hk
    rw [if_neg ci']at hk
    refine ⟨_,rfl,_,rfl,_,_,rfl,rfl,_,_,rfl,rfl,(by show (0:Int) <26;decide),letters,_,kg ((tu+1) %26),rfl,rfl,lsz,ec1,_,rfl,_,rfl,_,_,rfl,rfl,_,rfl,dG tu,rfl,zsz,_,_,rfl,rfl,?_,hk⟩
    show 1+ (Txt.slice (dG tu) none (some (0+ (i:Int) -8))).length<=sizeLine
    exact Nat.le_of_lt (aF (by omega))
  ·intro p hp
   have etu:((tu.toNat:Nat):Int)=tu:=by omega
   refine hread (1-2*bk) p 0 tu.toNat _ _ _ _ _ _ hb (by decide) (by omega) ?_ (k3.new hp) (tt3.new hp)
   rw [etu]
   exact ad
 ·refine ⟨_,rfl,rfl,_,rfl,?_⟩
  refine dE (fun c2=>?_) (fun c2=>?_)
  ·-- written words
   refine ⟨(by show 13<=sizeLine;decide),fun pw hpw=>?_⟩
   refine ⟨_,rfl,m,rfl,by omega,by omega,?_⟩
   have s4:Same H3 (upd H3 pw (.lst (names13.map V.str))):=ai hpw _
   have g4:(upd H3 pw (.lst (names13.map V.str))) pw=some (.lst (names13.map V.str)):=ad
   have k4:Kp tp H (upd H3 pw (.lst (names13.map V.str))):=k3.same s4
   have tt4:Tp (upd H3 pw (.lst (names13.map V.str))) tp:=tt3.new hpw
   generalize upd H3 pw (.lst (names13.map V.str))=H4 at s4 g4 k4 tt4 ⊢
   refine eL (n:=m.toNat) (R:=fun i v=>v=.int (0+i)) (by omega) jC fG gO
    (fun p i zs H'=>H'=upd H4 p (.lst zs)/\H4 p=none/\zs=((List.range i).map (nm1 tu)).map V.str) (fun p hp=>⟨rfl,hp,rfl⟩) ?_ ?_ ?_
   ·rintro p i zs H' ⟨rfl,_,rfl⟩
    exact ⟨ad,by rw [List.length_map,List.length_map,List.length_range]⟩
   ·rintro p i zs H' v k hp hi rfl ⟨rfl,hp4,rfl⟩ hk
    have h1:=Int.emod_nonneg (tu+ (0+ (i:Int))) (show (13:Int)≠0 by decide)
    have h2:=Int.emod_lt_of_pos (tu+ (0+ (i:Int))) (show (0:Int) <13 by decide)
    obtain ⟨xv,ex,ex2⟩:=jJ (xs:=names13.map V.str) h1 (by rw [List.length_map];exact h2)
    have exv:xv=.str (nm1 tu i):=by
     rw [List.getElem?_map]at ex2
     unfold nm1
     cases hx:names13[((tu+ (0+ (i:Int))) %13).toNat]? with
     | none=>rw [hx]at ex2;cases ex2
     | some y=>rw [hx]at ex2;exact (Option.some.inj ex2).symm
    subst exv
    have g5:(upd H4 p (.lst (((List.range i).map (nm1 tu)).map V.str))) pw=some (.lst (names13.map V.str)):=by rw [ah (ak g4 hp4)];exact g4
    refine ⟨_,rfl,_,rfl,_,rfl,_,_,rfl,rfl,_,_,rfl,rfl,(by show (0:Int) <13;decide),pw,_,_,_,rfl,rfl,SqL.of g5,ex,?_⟩
    exact hk _ _ ad ⟨dj,hp4,by rw [List.range_succ];simp⟩
   ·rintro p zs H' hp ⟨rfl,hp4,rfl⟩
    have etu:((tu.toNat:Nat):Int)=tu:=by omega
    refine hread (1-2*bk) p 1 tu.toNat _ _ _ _ _ _ hb (by decide) (by omega) ?_ (k4.new hp4) (tt4.new hp4)
    rw [etu]
    exact ad
  ·-- a letter and a tail
   refine ⟨_,rfl,m,rfl,by omega,by omega,?_⟩
   refine cw (nm2 tu) ?_ ?_
   ·intro i H4 k hi hk
    have ec1:=jA (d:=(tu+ (0+ (i:Int))) %26) (Int.emod_nonneg _ (by decide)) (Int.emod_lt_of_pos _ (by decide))
    have h1:=Int.emod_nonneg (tu+3* (0+ (i:Int))) (show (8:Int)≠0 by decide)
    have h2:=Int.emod_lt_of_pos (tu+3* (0+ (i:Int))) (show (0:Int) <8 by decide)
    have e:=iW "eyzmopq" (j:=(tu+3* (0+ (i:Int))) %8) h1 (by rw [mv];omega)
    refine ⟨_,rfl,_,rfl,_,rfl,_,_,rfl,rfl,_,_,rfl,rfl,(by show (0:Int) <26;decide),letters,_,kg ((tu+ (0+ (i:Int))) %26),rfl,rfl,lsz,ec1,_,rfl,_,rfl,3,_,rfl,rfl,.inl ⟨by decide,by decide⟩,_,_,rfl,rfl,_,_,rfl,rfl,(by show (0:Int) <8;decide),_,rfl,"eyzmopq",rfl,(by rw [mv];exact Nat.le_of_lt (aF (by decide))),_,_,rfl,rfl,?_,hk⟩
    ·show 1+ (Txt.slice "eyzmopq" none (some ((tu+3* (0+ (i:Int))) %8))).length<=sizeLine
     exact Nat.le_of_lt (aF (by omega))
   ·intro p hp
    have etu:((tu.toNat:Nat):Int)=tu:=by omega
    refine hread (1-2*bk) p 2 tu.toNat _ _ _ _ _ _ hb (by decide) (by omega) ?_ (k3.new hp) (tt3.new hp)
    rw [etu]
    exact ad
noncomputable def ndB:List Str->Bool
 | []=>true
 | x::r=> !(r.any fun y=>x.cps.toList==y.cps.toList)&&ndB r
theorem pP: ∀ {l:List Str},ndB l=true->l.Nodup
 | [],_=>List.nodup_nil
 | x::r,h=>by
  unfold ndB at h
  rw [Bool.and_eq_true]at h
  refine List.nodup_cons.mpr ⟨fun m=>?_,pP h.2⟩
  have h1:=h.1
  rw [Bool.not_eq_true',List.any_eq_false]at h1
  exact h1 x m (by simp)
theorem nM:((List.range 3).all fun way=>(List.range 26).all fun tu=>ndB ((List.range 13).map (iQ way tu))&&((List.range 13).map (iQ way tu)).all cW)=true:=by
 decide +kernel
theorem NamesAre.ok {m:Nat} {ws:List Str} (h:NamesAre m ws) (hm:m<=13):ws.length=m/\ws.Nodup/\ ∀ x∈ws,cW x=true:=by
 obtain ⟨way,tu,back,h1,h2,e⟩:=h
 have a:=nM
 rw [List.all_eq_true]at a
 have a:=a way (List.mem_range.mpr h1)
 rw [List.all_eq_true]at a
 have a:=a tu (List.mem_range.mpr h2)
 rw [Bool.and_eq_true]at a
 have n13:=pP a.1
 have w13:=List.all_eq_true.mp a.2
 have sub:((List.range m).map (iQ way tu)).Sublist ((List.range 13).map (iQ way tu)):=List.Sublist.map _ (List.range_sublist.mpr hm)
 have nd:=n13.sublist sub
 have wd: ∀ x∈(List.range m).map (iQ way tu),cW x=true:=fun x hx=>w13 x (sub.subset hx)
 have ln:((List.range m).map (iQ way tu)).length=m:=by rw [List.length_map,List.length_range]
 cases back with
 | false=>
  rw [if_neg (by decide)]at e
  subst e
  exact ⟨ln,nd,wd⟩
 | true=>
  rw [if_pos rfl]at e
  subst e
  exact ⟨by rw [List.length_reverse];exact ln,(List.reverse_perm _).nodup_iff.mpr nd,fun x hx=>wd x (List.mem_reverse.mp hx)⟩
structure Srt where
 name:Str
 downs:List Str
 ups:List Str
noncomputable def RepS (H:Hp) (s:Srt) (v:V):Prop:= ∃ a b c,v=.ref a/\H a=some (.tup [.str s.name,.ref b,.ref c])/\H b=some (.tup (s.downs.map V.str))/\H c=some (.tup (s.ups.map V.str))
theorem RepS.mono {H H':Hp} (t:TK H H') {s:Srt} {v:V}:RepS H s v->RepS H' s v:=fun ⟨a,b,c,e,h1,h2,h3⟩=>⟨a,b,c,e,t _ _ h1,t _ _ h2,t _ _ h3⟩
noncomputable def Srt.ok (s:Srt):Prop:=(s.downs++s.ups).Nodup/\(∀ x∈s.downs++s.ups,cW x=true)/\s.downs.length<=3/\s.ups.length<=3/\1<=s.downs.length+s.ups.length
noncomputable def RepSs (H:Hp) (ss:List Srt) (vs:List V):Prop:=Paired (RepS H) ss vs
theorem RepSs.mono {H H':Hp} (t:TK H H') {ss:List Srt} {vs:List V} (h:RepSs H ss vs):RepSs H' ss vs:=Paired.mapP h fun _ _ r=>r.mono t
theorem RepSs.len {H:Hp} {ss:List Srt} {vs:List V} (h:RepSs H ss vs):ss.length=vs.length:=Paired.length h
theorem aP {α β:Type} {F:α->β->Prop}: ∀ {l:List α} {r:List β} {i:Nat} {b:β},Paired F l r->r[i]? =some b-> ∃ a,l[i]? =some a/\F a b
 | _,_,i,b,.nil,e=>by cases i <;> cases e
 | _,_,0,b,.cons h _,e=>⟨_,rfl,by cases e;exact h⟩
 | _,_,i+1,b,.cons _ t,e=>aP (i:=i) t e
noncomputable def cU (ss:List Srt):Prop:=1<=ss.length/\ss.length<=4/\(ss.map Srt.name).Nodup/\(∀ s∈ss,cW s.name=true)/\ ∀ s∈ss,s.ok
theorem mJ {ws:List Str} (n:ws.Nodup) (w: ∀ x∈ws,cW x=true) (hl:ws.length=6) (k d u:Nat) (hd:d<=3) (hu:u<=3) (h1:1<=d+u) (nm:Str):
  (Srt.mk nm ((ws.drop k++ws.take k).take d) (((ws.drop k++ws.take k).drop d).take u)).ok:=by
 have nt:(ws.drop k++ws.take k).Nodup:=by
  have:(ws.drop k++ws.take k).Perm (ws.take k++ws.drop k):=List.perm_append_comm
  rw [List.take_append_drop]at this
  exact this.nodup_iff.mpr n
 have mt: ∀ x∈ws.drop k++ws.take k,cW x=true:=fun x hx=>by
  rw [List.mem_append]at hx
  rcases hx with h | h
  ·exact w x (List.mem_of_mem_drop h)
  ·exact w x (List.mem_of_mem_take h)
 have lt:(ws.drop k++ws.take k).length=6:=by rw [List.length_append,List.length_drop,List.length_take];omega
 generalize ws.drop k++ws.take k=ts at nt mt lt
 have sub:(ts.take d++(ts.drop d).take u).Sublist ts:=by
  have:=List.take_append_drop d ts
  conv=>rhs;rw [<- this]
  exact List.Sublist.append (List.Sublist.refl _) (List.take_sublist _ _)
 refine ⟨nt.sublist sub,fun x hx=>mt x (sub.subset hx),?_,?_,?_⟩
 ·show (ts.take d).length<=3
  rw [List.length_take];omega
 ·show ((ts.drop d).take u).length<=3
  rw [List.length_take];omega
 ·show 1<=(ts.take d).length+ ((ts.drop d).take u).length
  rw [List.length_take,List.length_take,List.length_drop];omega
noncomputable def l9:Sp:=fun vs H Q _=> ∃ tp c,vs=[.ref tp,.bl c]/\Tp H tp/\ ∀ a ss xs H',H' a=some (.tup xs)->RepSs H' ss xs->cU ss->Kp tp H H'->Tp H' tp->Q (.ref a) H'
theorem uB (k:Bool): ∃ m:Int,atI [V.int 3,V.int 4] (if k then 1 else 0)=some (.int m)/\3<=m/\m<=4:=by
 cases k
 ·exact ⟨3,rfl,by decide,by decide⟩
 ·exact ⟨4,rfl,by decide,by decide⟩
theorem pR {d u:Int} (hd:0<=d) (hu:0<=u) (hu3:u<=3): ∃ u1:Int,(if (if decide (V.int d=V.int 0)=true then (1:Int)else 0) >u then (if decide (V.int d=V.int 0)=true then (1:Int)else 0)else u)=u1/\0<=u1/\u1<=3/\1<=d+u1:=by
 refine ⟨_,rfl,?_⟩
 by_cases c:d=0
 ·subst c
  rw [if_pos (decide_eq_true rfl)]
  split <;> omega
 ·rw [if_neg (fun e=>c (V.int.inj (of_decide_eq_true e)))]
  split <;> omega
theorem dU {H:Hp} {tp p:Addr} (t:Tp H tp) (hp:H p=none):p≠tp:=fun e=>by
 obtain ⟨t0,e0⟩:=t
 subst e
 rw [e0]at hp
 cases hp
theorem rL (xs:List V) {a b:Nat} (h:a+b<=xs.length):fg xs (some (a:Int)) (some ((a:Int) + (b:Int)))=(xs.drop a).take b:=by
 unfold fg
 rw [show ((a:Int) + (b:Int))=((a+b:Nat):Int) by omega,HT.sIx_nat,HT.sIx_nat,Nat.min_eq_left h,Nat.min_eq_left (by omega),Nat.add_sub_cancel_left]
theorem scSorts:aI ["tape","few","many","names","words","sorts","k","most","downs","ups","turned"] ["tape","few"] (aj ls):=fsc
theorem pI (F:Fun K "_law_sorts" "_law_sorts" ls f fd) (G:Gb mg) (GD:ay P w K mg base CX0 1 g gd ["tape","many"] cJ) (bD:Binds K gd ["tape","many"] []) (kD:PySem.W.keepIn K (.ref g)=true) (mD:mg "_law_digit"=some (.ref g))
  (GN:ay P w K mg base CX0 2 f2 fd2 ["tape","many"] hU) (bN:Binds K fd2 ["tape","many"] []) (kN:PySem.W.keepIn K (.ref f2)=true) (mN:mg "_law_names"=some (.ref f2)):
  ay P w K mg base CX0 3 f fd ["tape","few"] l9:=by
 refine F.ok scSorts (fun vs H Q E h=>?_) (fun cdv A outer s H vs Q E hr h=>?_)
 ·obtain ⟨tp,c,rfl,_⟩:=h
  rfl
 obtain ⟨tp,few,rfl,hT,q⟩:=h
 have hr1:=hr.mono (show 1<=2 by decide)
 refine ⟨_,af (aq (i:=2) scSorts.nd rfl (Or.inl rfl) (au aS ag (am GD hr1 rfl mD kD bD .nil aw (ac (pv 0) (ac
    (ax aQ (bU (ac ag (ac ag ae))) (bc eO rfl G.int (by decide +kernel) (ac (cK cB (am GD hr1 rfl mD kD bD .nil aw (ac (pv 0) (ac ag ae))) ag (aH _)) ae)) (fun _ _=>rfl)) ae)))))
  (af (aq (i:=3) scSorts.nd rfl (Or.inl rfl) (am GN hr rfl mN kN bN .nil aw (ac (pv 0) (ac (pv 2) ae))))
  (af (aq (i:=4) scSorts.nd rfl (Or.inl rfl) (am GN hr rfl mN kN bN .nil aw (ac (pv 0) (ac ag ae))))
  (af (aq (i:=5) scSorts.nd rfl (Or.inl rfl) (bU ae))
  (af (ce PassesOwn.never rfl (bM rfl G.range (ac (pv 2) ae)) (aL (i:=6) scSorts.nd rfl (Or.inl rfl))
   (af (aq (i:=7) scSorts.nd rfl (Or.inl rfl) (ax aQ (bU (ac ag (ac ag ae))) (bc eO rfl G.int (by decide +kernel) (ac (cK cB (am GD hr1 rfl mD kD bD .nil aw (ac (pv 0) (ac ag ae))) ag (aH _)) ae)) (fun _ _=>rfl)))
   (af (aq (i:=8) scSorts.nd rfl (Or.inl rfl) (am GD hr1 rfl mD kD bD .nil aw (ac (pv 0) (ac (pv 7) ae))))
   (af (aq (i:=9) scSorts.nd rfl (Or.inl rfl) (ar (gk rfl) rfl G.max (by decide +kernel) (ac (am GD hr1 rfl mD kD bD .nil aw (ac (pv 0) (ac (pv 7) ae)))
    (ac (bc eO rfl G.int (by decide +kernel) (ac (cK cB (pv 8) ag (aH _)) ae)) ae))))
   (af (aW (PW.pt (er (cc (pv 1)) (dl (aD j3 (au cQ (pv 8) (pv 9)) ag (aH _))))) (al (aq (i:=9) scSorts.nd rfl (Or.inl rfl) (au gM ag (pv 8)))) aM)
   (af (aq (i:=10) scSorts.nd rfl (Or.inl rfl) (au gc (a7 cR (pv 4) (bg (au cg (pv 6) ag)) bw) (a7 cR (pv 4) bw (bg (au cg (pv 6) ag)))))
   (al (dn (ig PySem.F.plainAttrs_list PySem.F.slot_list_append PySem.F.type_list_append cv (pv 5) (ac (aY (ac (ax aQ (pv 3) (pv 6) (fun _ _=>rfl))
    (ac (bc aU rfl G.tuple (by decide +kernel) (ac (a7 cR (pv 10) bw (bg (pv 8))) ae))
    (ac (bc aU rfl G.tuple (by decide +kernel) (ac (a7 cR (pv 10) (bg (pv 8)) (bg (au aS (pv 8) (pv 9)))) ae)) ae)))) ae))))))))))
  (al (aJ (bc aU rfl G.tuple (by decide +kernel) (ac (pv 5) ae)))))))),?_⟩
 refine ⟨_,rfl,(by show 2<=sizeLine;decide),fun p0 hp0=>?_⟩
 refine ⟨_,rfl,tp,8,rfl,hT.new hp0,by decide,by decide,fun d0 t0 _ _=>⟨rfl,?_⟩⟩
 obtain ⟨m0,em0,hm3,hm4⟩:=uB (decide (V.int d0=V.int 5))
 refine .inr ⟨_,rfl,p0,_,_,_,rfl,rfl,SqL.of (by rw [ah (dU hT hp0)];exact ad),em0,?_⟩
 have k0:Kp tp H (upd (upd H p0 (.lst [.int 3,.int 4])) tp (.lst [.int t0])):=(Kp.refl.new hp0).trans Kp.tape
 have tt0:Tp (upd (upd H p0 (.lst [.int 3,.int 4])) tp (.lst [.int t0])) tp:=⟨t0,ad⟩
 generalize upd (upd H p0 (.lst [.int 3,.int 4])) tp (.lst [.int t0])=H1 at k0 tt0 ⊢
 refine ⟨tp,_,rfl,tt0,by omega,by omega,fun dm t1 hdm0 hdm1=>?_⟩
 have k1:Kp tp H (upd H1 tp (.lst [.int t1])):=k0.trans Kp.tape
 have tt1:Tp (upd H1 tp (.lst [.int t1])) tp:=⟨t1,ad⟩
 generalize upd H1 tp (.lst [.int t1])=H2 at k1 tt1 ⊢
 refine ⟨1,_,rfl,rfl,?_⟩
 refine ⟨_,rfl,_,rfl,tp,_,rfl,tt1,by omega,by omega,fun nl ns H3 hnl hnlen hN hnne k2' tt2=>?_⟩
 have k2:=k1.trans k2'
 refine ⟨_,rfl,tp,6,rfl,tt2,by decide,by decide,fun wl ws H4 hwl hwlen hW hwne k3' tt3=>?_⟩
 have k3:=k2.trans k3'
 have hnl4:=k3' _ _ hnl hnne
 refine ⟨(by show 0<=sizeLine;decide),fun sl hsl=>?_⟩
 have hslt:=dU tt3 hsl
 have k4:Kp tp H (upd H4 sl (.lst [])):=k3.new hsl
 have tt4:=tt3.new (o:=.lst []) hsl
 have s4:=ai hsl (.lst [])
 have nsl:nl≠sl:=ak hnl4 hsl
 have wsl:wl≠sl:=ak hwl hsl
 have hnl5:=s4 _ _ hnl4
 have hwl5:=s4 _ _ hwl
 have hsl5:(upd H4 sl (.lst [])) sl=some (.lst []):=ad
 generalize upd H4 sl (.lst [])=H5 at k4 tt4 hnl5 hwl5 hsl5 ⊢
 obtain ⟨nLen,nNd,nWd⟩:=hN.ok (by omega)
 obtain ⟨wLen,wNd,wWd⟩:=hW.ok (by decide)
 have wLen6:ws.length=6:=wLen
 refine ⟨_,rfl,1+dm,rfl,by omega,by omega,?_⟩
 refine cV (fun i σ H'=> ∃ o6 o7 o8 o9 o10 zs ss,σ=[some (.ref tp),some (.bl few),some (.int (1+dm)),some (.ref nl),some (.ref wl),some (.ref sl),o6,o7,o8,o9,o10]/\Kp tp H H'/\Tp H' tp/\H' nl=some (.lst (ns.map V.str))/\H' wl=some (.lst (ws.map V.str))/\H' sl=some (.lst zs)/\RepSs H' ss zs/\ss.length=i/\(∀ s∈ss,s.ok)/\ss.map Srt.name=ns.take i)
  ⟨none,none,none,none,none,[],[],rfl,k4,tt4,hnl5,hwl5,hsl5,.nil,rfl,fun s h=>(by cases h),rfl⟩ ?_ ?_
 ·rintro i σ H6 hi ⟨o6,o7,o8,o9,o10,zs,ss,rfl,k6,tt6,hnl6,hwl6,hsl6,hR,hssl,hok,hnm⟩
  refine ⟨(by show 2<=sizeLine;decide),fun p0 hp0=>?_⟩
  refine ⟨_,rfl,tp,8,rfl,tt6.new hp0,by decide,by decide,fun d0 t0 _ _=>⟨rfl,?_⟩⟩
  obtain ⟨m1,em1,hm3,hm4⟩:=uB (decide (V.int d0=V.int 5))
  refine .inr ⟨_,rfl,p0,_,_,_,rfl,rfl,SqL.of (by rw [ah (dU tt6 hp0)];exact ad),em1,?_⟩
  have k7:Kp tp H6 (upd (upd H6 p0 (.lst [.int 3,.int 4])) tp (.lst [.int t0])):=(Kp.refl.new hp0).trans Kp.tape
  have tt7:Tp (upd (upd H6 p0 (.lst [.int 3,.int 4])) tp (.lst [.int t0])) tp:=⟨t0,ad⟩
  generalize upd (upd H6 p0 (.lst [.int 3,.int 4])) tp (.lst [.int t0])=H7 at k7 tt7 ⊢
  refine ⟨_,rfl,_,rfl,tp,_,rfl,tt7,by omega,by omega,fun d t2 hd0 hd1=>?_⟩
  have k8:Kp tp H6 (upd H7 tp (.lst [.int t2])):=k7.trans Kp.tape
  have tt8:Tp (upd H7 tp (.lst [.int t2])) tp:=⟨t2,ad⟩
  generalize upd H7 tp (.lst [.int t2])=H8 at k8 tt8 ⊢
  refine ⟨_,rfl,_,rfl,tp,_,rfl,tt8,by omega,by omega,fun u t3 hu0 hu1=>?_⟩
  have k9:Kp tp H6 (upd H8 tp (.lst [.int t3])):=k8.trans Kp.tape
  have tt9:Tp (upd H8 tp (.lst [.int t3])) tp:=⟨t3,ad⟩
  generalize upd H8 tp (.lst [.int t3])=H9 at k9 tt9 ⊢
  obtain ⟨u1,eu1,hu10,hu13,hdu⟩:=pR (d:=d) (u:=u) hd0 hu0 (by omega)
  refine ⟨_,rfl,rfl,.inr ⟨_,rfl,_,_,rfl,?_⟩⟩
  rw [eu1]
  refine ⟨_,rfl,few,rfl,?_⟩
  refine tQ (c2:=decide (3<d*u1)) (fun h=>⟨_,rfl,_,rfl,_,_,rfl,rfl,.inl ⟨by omega,by omega⟩,_,_,rfl,rfl,_,rfl,h⟩) (fun _ c=>?A) (fun _=>?B)
  case' A=>
   have c':3<d*u1:=of_decide_eq_true c
   have hdp:0<d:=by
    rcases (show d=0\/0<d by omega)with h | h
    ·subst h;omega
    ·exact h
   refine ⟨_,rfl,3,d,rfl,rfl,⟨hdp,by omega⟩,?_⟩
   obtain ⟨v,hv,ev⟩: ∃ v:Int,(0<=v/\v<=3/\1<=d+v)/\((fun (i j:Int)=>V.int (i/j)) 3 d)=V.int v:=by
    refine ⟨3/d,?_,rfl⟩
    rcases (show d=1\/d=2\/d=3 by omega)with h | h | h <;> subst h <;> decide
   rw [ev]
  case' B=>
   have hv:0<=u1/\u1<=3/\1<=d+u1:=⟨hu10,hu13,hdu⟩
   generalize u1=v at hv ⊢
  all_goals
   have hwl9:=k9 _ _ hwl6 hwne
   have hnl9:=k9 _ _ hnl6 hnne
   have hsl9:=k9 _ _ hsl6 hslt
   have hkk0:0<=(0+ (i:Int)) %6:=Int.emod_nonneg _ (by decide)
   have hkk1:(0+ (i:Int)) %6<6:=Int.emod_lt_of_pos _ (by decide)
   refine ⟨_,rfl,_,rfl,_,_,rfl,rfl,(by show (0:Int) <6;decide),_,rfl,wl,_,rfl,SqL.of hwl9,fun p1 hp1=>?_⟩
   rw [iC (ws.map V.str) hkk0 (by rw [List.length_map];omega)]
   have hn6:((0+ (i:Int)) %6).toNat<=6:=by omega
   have hct:fg (ws.map V.str) none (some ((0+ (i:Int)) %6))=(ws.map V.str).take ((0+ (i:Int)) %6).toNat:=eB (ws.map V.str) hkk0 (by rw [List.length_map];omega)
   generalize hn:((0+ (i:Int)) %6).toNat=n at hct hn6 ⊢
   have s1:=ai hp1 (.lst ((ws.map V.str).drop n))
   have g1:(upd H9 p1 (.lst ((ws.map V.str).drop n))) p1=some (.lst ((ws.map V.str).drop n)):=ad
   generalize upd H9 p1 (.lst ((ws.map V.str).drop n))=Ha at s1 g1 ⊢
   refine ⟨_,rfl,_,rfl,_,_,rfl,rfl,(by show (0:Int) <6;decide),_,rfl,wl,_,rfl,SqL.of (s1 _ _ hwl9),fun p2 hp2=>?_⟩
   rw [hct]
   have s2:=ai hp2 (.lst ((ws.map V.str).take n))
   have g2:(upd Ha p2 (.lst ((ws.map V.str).take n))) p2=some (.lst ((ws.map V.str).take n)):=ad
   generalize upd Ha p2 (.lst ((ws.map V.str).take n))=Hb at s2 g2 ⊢
   have lcat:((ws.map V.str).drop n).length+ ((ws.map V.str).take n).length<=12:=by rw [List.length_drop,List.length_take,List.length_map];omega
   refine ⟨p1,p2,_,_,rfl,rfl,s2 _ _ g1,g2,Nat.le_of_lt (aF (by omega)),fun p3 hp3=>?_⟩
   have e3:(ws.map V.str).drop n++(ws.map V.str).take n=(ws.drop n++ws.take n).map V.str:=by rw [List.map_append,List.map_drop,List.map_take]
   rw [e3]
   have lts:(ws.drop n++ws.take n).length=6:=by rw [List.length_append,List.length_drop,List.length_take];omega
   have hsok:=fun nm=>mJ wNd wWd wLen6 n d.toNat v.toNat (by omega) (by omega) (by omega) nm
   generalize ws.drop n++ws.take n=ts at lts hsok ⊢
   have s3:=ai hp3 (.lst (ts.map V.str))
   have g3:(upd Hb p3 (.lst (ts.map V.str))) p3=some (.lst (ts.map V.str)):=ad
   generalize upd Hb p3 (.lst (ts.map V.str))=Hc at s3 g3 ⊢
   have S9:Same H9 Hc:=s1.trans (s2.trans s3)
   have hslc:=S9 _ _ hsl9
   have hnlc:=S9 _ _ hnl9
   have hwlc:=S9 _ _ hwl9
   have kc:Kp tp H6 Hc:=k9.same S9
   have ttc:Tp Hc tp:=tt9.same S9
   refine ⟨_,rfl,.inl ⟨rfl,_,SqL.of hslc⟩,?_⟩
   obtain ⟨nm,enm⟩: ∃ nm,ns[i]? =some nm:=⟨ns[i]'(by omega),List.getElem?_eq_getElem (by omega)⟩
   have eat:atI (ns.map V.str) (0+ (i:Int))=some (V.str nm):=by
    rw [Int.zero_add]
    exact aG (by rw [List.getElem?_map,enm];rfl)
   refine ⟨_,rfl,_,rfl,nl,_,_,_,rfl,rfl,SqL.of hnlc,eat,?_⟩
   refine ⟨_,rfl,_,rfl,d,rfl,p3,_,rfl,SqL.of g3,fun p4 hp4=>?_⟩
   rw [eB (ts.map V.str) hd0 (by rw [List.length_map];omega),<- List.map_take]
   have s4:=ai hp4 (.lst ((ts.take d.toNat).map V.str))
   have g4:(upd Hc p4 (.lst ((ts.take d.toNat).map V.str))) p4=some (.lst ((ts.take d.toNat).map V.str)):=ad
   generalize upd Hc p4 (.lst ((ts.take d.toNat).map V.str))=Hd at s4 g4 ⊢
   refine ⟨p4,_,rfl,.inl ⟨SqL.of g4,fun p5 hp5=>?_⟩⟩
   have s5:=ai hp5 (.tup ((ts.take d.toNat).map V.str))
   have g5:(upd Hd p5 (.tup ((ts.take d.toNat).map V.str))) p5=some (.tup ((ts.take d.toNat).map V.str)):=ad
   generalize upd Hd p5 (.tup ((ts.take d.toNat).map V.str))=He at s5 g5 ⊢
   refine ⟨_,rfl,_,rfl,d,rfl,_,rfl,_,rfl,_,_,rfl,rfl,_,rfl,p3,_,rfl,SqL.of (s5 _ _ (s4 _ _ g3)),fun p6 hp6=>?_⟩
   have ecm:fg (ts.map V.str) (some d) (some (d+v))=((ts.drop d.toNat).take v.toNat).map V.str:=by
    have:=rL (ts.map V.str) (a:=d.toNat) (b:=v.toNat) (by rw [List.length_map];omega)
    rw [show ((d.toNat:Nat):Int)=d by omega,show ((v.toNat:Nat):Int)=v by omega]at this
    rw [this,List.map_take,List.map_drop]
   rw [ecm]
   have s6:=ai hp6 (.lst (((ts.drop d.toNat).take v.toNat).map V.str))
   have g6:(upd He p6 (.lst (((ts.drop d.toNat).take v.toNat).map V.str))) p6=some (.lst (((ts.drop d.toNat).take v.toNat).map V.str)):=ad
   generalize upd He p6 (.lst (((ts.drop d.toNat).take v.toNat).map V.str))=Hf at s6 g6 ⊢
   refine ⟨p6,_,rfl,.inl ⟨SqL.of g6,fun p7 hp7=>?_⟩⟩
   have s7:=ai hp7 (.tup (((ts.drop d.toNat).take v.toNat).map V.str))
   have g7:(upd Hf p7 (.tup (((ts.drop d.toNat).take v.toNat).map V.str))) p7=some (.tup (((ts.drop d.toNat).take v.toNat).map V.str)):=ad
   generalize upd Hf p7 (.tup (((ts.drop d.toNat).take v.toNat).map V.str))=Hg at s7 g7 ⊢
   refine ⟨(by show 3<=sizeLine;decide),fun p8 hp8=>?_⟩
   have s8:=ai hp8 (.tup [.str nm,.ref p5,.ref p7])
   have g8:(upd Hg p8 (.tup [.str nm,.ref p5,.ref p7])) p8=some (.tup [.str nm,.ref p5,.ref p7]):=ad
   generalize upd Hg p8 (.tup [.str nm,.ref p5,.ref p7])=Hh at s8 g8 ⊢
   have Sc:Same Hc Hh:=s4.trans (s5.trans (s6.trans (s7.trans s8)))
   have hslh:=Sc _ _ hslc
   have hzl:zs.length=i:=by rw [<- hR.len];exact hssl
   refine ⟨sl,zs,.ref p8,rfl,rfl,hslh,aF (by omega),?_⟩
   have tk:TK Hh (upd Hh sl (.lst (zs++[.ref p8]))):=TK.lst hslh
   have kh:Kp tp H6 Hh:=kc.same Sc
   refine ⟨_,_,_,_,_,zs++[.ref p8],ss++[⟨nm,ts.take d.toNat,(ts.drop d.toNat).take v.toNat⟩],rfl,?_,?_,?_,?_,ad,?_,?_,?_,?_⟩
   ·intro b o hb hbn
    rw [ah (ak (k3 _ _ hb hbn) hsl)]
    exact kh _ _ (k6 _ _ hb hbn) hbn
   ·obtain ⟨t9,e9⟩:=ttc.same Sc
    exact ⟨t9,by rw [ah (Ne.symm hslt)];exact e9⟩
   ·rw [ah nsl];exact Sc _ _ hnlc
   ·rw [ah wsl];exact Sc _ _ hwlc
   ·exact Paired.snoc (hR.mono ((kh.tk tt6).trans tk)) ⟨p8,p5,p7,rfl,tk _ _ g8,tk _ _ (s8 _ _ (s7 _ _ (s6 _ _ g5))),tk _ _ (s8 _ _ g7)⟩
   ·rw [List.length_append,hssl];rfl
   ·intro s hs
    rw [List.mem_append,List.mem_singleton]at hs
    rcases hs with h | h
    ·exact hok s h
    ·subst h;exact hsok nm
   ·rw [List.map_append,hnm,List.map_singleton,List.take_add_one,enm]
    rfl
 ·rintro σ H6 ⟨o6,o7,o8,o9,o10,zs,ss,rfl,k6,tt6,hnl6,hwl6,hsl6,hR,hssl,hok,hnm⟩
  refine ⟨_,rfl,sl,zs,rfl,.inl ⟨SqL.of hsl6,fun pt hpt=>?_⟩⟩
  refine q pt ss zs _ ad (hR.mono (TK.new hpt)) ⟨by omega,by omega,?_,?_,hok⟩ (k6.new hpt) (tt6.new hpt)
  ·rw [hnm]
   exact nNd.sublist (List.take_sublist _ _)
  ·intro s hs
   refine nWd _ (List.mem_of_mem_take (i:=(1+dm).toNat) ?_)
   rw [<- hnm]
   exact List.mem_map_of_mem hs
noncomputable def qv (H:Hp) (ys:List V) (z:V):Prop:= ∃ a,z=.ref a/\H a=some (.tup ys)
noncomputable def Tups (H:Hp) (yss:List (List V)) (zs:List V):Prop:=Paired (qv H) yss zs
theorem Tups.mono {H H':Hp} (t:TK H H') {yss:List (List V)} {zs:List V} (h:Tups H yss zs):Tups H' yss zs:=Paired.mapP h fun _ _ ⟨a,e,g⟩=>⟨a,e,t _ _ g⟩
theorem Tups.len {H:Hp} {yss:List (List V)} {zs:List V} (h:Tups H yss zs):yss.length=zs.length:=Paired.length h
theorem Tups.append {H:Hp}: ∀ {a c:List (List V)} {b d:List V},Tups H a b->Tups H c d->Tups H (a++c) (b++d)
 | _,_,_,_,.nil,h=>h
 | _,_,_,_,.cons x t,h=>.cons x (Tups.append t h)
theorem aK {H H':Hp} (s:Same H H'):TK H H':=fun a xs h=>s _ _ h
theorem eM {K:PySem.W.Frag} {a:Addr} {xs:List V} {fr:List Nat} {te:TE} {σ:St} {H1:Hp} {Q:VK} (hn:xs.length<=1000) (ha:H1 a=some (.tup xs)) (g:V->List V)
  (hte: ∀ v H k,v∈xs->(∀ p,H p=none->k (.ref p) (upd H p (.tup (g v))))->te (some v::bH fr σ) H k)
  (hd: ∀ p zs H',H1 p=none->Same H1 H'->H' p=some (.lst zs)->Tups H' (xs.map g) zs->Q (.ref p) H'):gY fr te σ (Itt K a) H1 Q:=by
 intro p hp
 refine ⟨fun i m zs H=>i<=xs.length/\m=xs.length-i/\Same H1 H/\H p=some (.lst zs)/\zs.length=i/\Tups H ((xs.take i).map g) zs,⟨_,Nat.zero_le _,rfl,ai hp _,ad,rfl,.nil⟩,?_⟩
 rintro i m zs H ⟨hi,hm,sm,gp,hz,hT⟩
 refine ⟨gp,?_⟩
 by_cases e:i=xs.length
 ·subst e
  rw [List.take_length]at hT
  exact .inl ⟨⟨xs,SqT.of (sm _ _ ha),Nat.le_refl _⟩,hd p zs H hp sm gp hT⟩
 ·have hlt:i<xs.length:=by omega
  refine .inr ⟨⟨xs,xs[i],SqT.of (sm _ _ ha),List.getElem?_eq_getElem hlt⟩,aF (by omega),fun v H' hv=>?_⟩
  obtain ⟨rfl,hv⟩:=hv
  have hv:=hv xs (SqT.of (sm _ _ ha))
  refine hte v _ _ (List.mem_of_getElem? hv) fun q hq=>?_
  have s2:=ai hq (.tup (g v))
  have gq:(upd H' q (.tup (g v))) q=some (.tup (g v)):=ad
  generalize upd H' q (.tup (g v))=H2 at s2 gq ⊢
  have gp2:=s2 _ _ gp
  have tk:TK H2 (upd H2 p (.lst (zs++[.ref q]))):=TK.lst gp2
  refine ⟨gp2,xs.length- (i+1),by omega,by omega,rfl,?_,ad,by rw [List.length_append,hz];rfl,?_⟩
  ·intro b o hb
   rw [ah (ak hb hp)]
   exact s2 _ _ (sm _ _ hb)
  ·rw [List.take_add_one,hv,List.map_append]
   exact Paired.snoc (hT.mono ((aK s2).trans tk)) ⟨q,rfl,tk _ _ gq⟩
theorem gv {α β:Type} {F:α->β->Prop}: ∀ {l:List α} {r:List β},Paired F l r-> ∀ n,Paired F (l.take n) (r.take n)
 | _,_,.nil,n=>by rw [List.take_nil,List.take_nil];exact .nil
 | _,_,.cons h t,0=>.nil
 | _,_,.cons h t,n+1=>.cons h (gv t n)
noncomputable def cO (k:Int):List Srt->List (Int×Str)
 | []=>[]
 | q::r=>q.downs.map (fun x=>(k,x))++cO (k+1) r
noncomputable def dW (o:Srt) (qs:List Srt):List (Int×Str):=o.ups.map (fun x=>(-1,x))++cO 0 qs
noncomputable def tgV (t:Int×Str):List V:=[.int t.1,.str t.2]
theorem gX (k:Int): ∀ (qs:List Srt),(∀ s∈qs,s.ok)->(cO k qs).length<=3*qs.length:=by
 intro qs
 induction qs generalizing k with
 | nil=>intro _;exact Nat.le_refl _
 | cons q r ih=>
  intro h
  have h1:=ih (k+1) fun s hs=>h s (List.mem_cons_of_mem _ hs)
  have h2:=(h q List.mem_cons_self).2.2.1
  unfold cO
  rw [List.length_append,List.length_map,List.length_cons]
  omega
theorem jS (k:Int): ∀ (qs:List Srt) (q:Srt),cO k (qs++[q])=cO k qs++q.downs.map (fun x=>(k+qs.length,x)):=by
 intro qs
 induction qs generalizing k with
 | nil=>intro q;show q.downs.map (fun x=>(k,x))++[]=_;rw [List.append_nil];show _=q.downs.map (fun x=>(k+ ((0:Nat):Int),x));rw [show k+ ((0:Nat):Int)=k by omega]
 | cons r rs ih=>
  intro q
  show r.downs.map _++cO (k+1) (rs++[q])=(r.downs.map _++cO (k+1) rs)++_
  rw [ih,List.append_assoc]
  have:k+1+ (rs.length:Int)=k+ ((r::rs).length:Int):=by rw [List.length_cons];omega
  rw [this]
noncomputable def TabOk (H:Hp) (kvs:List (Key×V)) (ss:List Srt):Prop:= ∀ s∈ss,∃ a b c,bn kvs (.inr s.name)=some (.ref a)/\H a=some (.tup [.ref b,.ref c])/\H b=some (.tup (s.downs.map V.str))/\H c=some (.tup (s.ups.map V.str))
theorem TabOk.mono {H H':Hp} (t:TK H H') {kvs:List (Key×V)} {ss:List Srt} (h:TabOk H kvs ss):TabOk H' kvs ss:=fun s hs=>by
 obtain ⟨a,b,c,e,h1,h2,h3⟩:=h s hs
 exact ⟨a,b,c,e,t _ _ h1,t _ _ h2,t _ _ h3⟩
theorem TabOk.put {H:Hp} {kvs:List (Key×V)} {ss:List Srt} {i:Nat} {s:Srt} {a b c:Addr} (nd:(ss.map Srt.name).Nodup) (hs:ss[i]? =some s) (h:TabOk H kvs (ss.take i))
  (h1:H a=some (.tup [.ref b,.ref c])) (h2:H b=some (.tup (s.downs.map V.str))) (h3:H c=some (.tup (s.ups.map V.str))):TabOk H (dB kvs (.inr s.name) (.ref a)) (ss.take (i+1)):=by
 intro x hx
 rw [List.take_add_one,hs,List.mem_append]at hx
 rcases hx with hx | hx
 ·obtain ⟨a',b',c',e,r⟩:=h x hx
  refine ⟨a',b',c',?_,r⟩
  rw [gV,if_neg]
  ·exact e
  ·intro z
   have z:x.name=s.name:=Sum.inr.inj z
   obtain ⟨j,hj⟩:=List.getElem?_of_mem hx
   have hji:j<i:=by
    have:=(List.getElem?_eq_some_iff.mp hj).1
    rw [List.length_take]at this
    omega
   rw [List.getElem?_take,if_pos hji]at hj
   have q1:(ss.map Srt.name)[j]? =some s.name:=by rw [List.getElem?_map,hj,<- z];rfl
   have q2:(ss.map Srt.name)[i]? =some s.name:=by rw [List.getElem?_map,hs];rfl
   have:=dD nd q1 q2
   omega
 ·have hx:x=s:=by simpa using hx
  subst hx
  exact ⟨a,b,c,by rw [gV,if_pos rfl],h1,h2,h3⟩
noncomputable def SrtsAt (H:Hp) (a:Addr) (ss:List Srt):Prop:= ∃ xs,H a=some (.tup xs)/\RepSs H ss xs
theorem SrtsAt.mono {H H':Hp} (t:TK H H') {a:Addr} {ss:List Srt}:SrtsAt H a ss->SrtsAt H' a ss:=fun ⟨xs,h,r⟩=>⟨xs,t _ _ h,r.mono t⟩
noncomputable def fR:Sp:=fun vs H Q _=> ∃ sa pa ss o qs,vs=[.ref sa,.str (Srt.name o),.ref pa]/\SrtsAt H sa ss/\cU ss/\o∈ss/\H pa=some (.tup (qs.map fun q=>V.str (Srt.name q)))/\(∀ q∈qs,q∈ss)/\qs.length<=3/\
 ∀ p zs H',H p=none->Same H H'->H' p=some (.lst zs)->Tups H' ((dW o qs).map tgV) zs->Q (.ref p) H'
theorem scTargets:aI ["sorts","own","parts","table","name","downs","ups","found","k"] ["sorts","own","parts"] (aj dY):=fsc
theorem lK (F:Fun K "_law_targets" "_law_targets" dY f fd) (G:Gb mg):
  ay P w K mg base CX0 1 f fd ["sorts","own","parts"] fR:=by
 refine F.ok scTargets (fun vs H Q E h=>?_) (fun cdv A outer s H vs Q E hr h=>?_)
 ·obtain ⟨sa,pa,ss,o,qs,rfl,_⟩:=h
  rfl
 obtain ⟨sa,pa,ss,o,qs,rfl,⟨xs,hsa,hR⟩,hok,ho,hpa,hqs,hql,q⟩:=h
 have hu:=dR hr
 refine ⟨_,af (aq (i:=3) scTargets.nd rfl (Or.inl rfl) dC)
  (af (ce PassesOwn.never rfl (bu (pv 0)) (eW rfl (aT (aL (i:=4) scTargets.nd rfl (Or.inl rfl)) (aT (aL (i:=5) scTargets.nd rfl (Or.inl rfl)) (aT (aL (i:=6) scTargets.nd rfl (Or.inl rfl)) dL))))
   (al (fB hu (pv 3) (pv 4) (aY (ac (pv 5) (ac (pv 6) ae))) rfl)))
  (af (eG (i:=7) (sc0:=aj dY) (N0:=["sorts","own","parts","table","name","downs","ups","found","k"]) (ys:=[]) (fr:=[]) rfl scTargets.nd rfl (Or.inl rfl)
    (bu (ax aE (cz hu (pv 3) (pv 1) (fun _ _=>rfl)) ag (fun _ _=>rfl))) rfl rfl
    cok
    (fun C s H ex=>aY (ac (pB kY ag) (ac (pv 0) ae))))
  (af (ce PassesOwn.never rfl (bM rfl G.range (ac (ar av rfl G.len PySem.boot_len (ac (pv 2) ae)) ae)) (aL (i:=8) scTargets.nd rfl (Or.inr rfl))
   (al (dn (ig PySem.F.plainAttrs_list PySem.F.slot_list_extend PySem.F.type_list_extend i4 (pv 7) (ac
    (cA (sc0:=aj dY) (N0:=["sorts","own","parts","table","name","downs","ups","found","k"]) (ys:=["k"]) (fr:=[8]) rfl
     (bu (ax aE (cz hu (pv 3) (ax aE (pv 2) (pv 8) (fun _ _=>rfl)) (fun _ _=>rfl)) ag (fun _ _=>rfl))) rfl rfl
     cok
     (fun C s H ex=>aY (ac (pv 1) (ac (pv 0) ae)))) ae)))))
  (al (aJ (pv 7)))))),?_⟩
 refine fun td htd=>?_
 have s0:=ai htd (.dK [])
 have g0:(upd H td (.dK [])) td=some (.dK []):=ad
 generalize upd H td (.dK [])=H0 at s0 g0 ⊢
 have hlen:=hR.len
 refine ⟨_,rfl,sa,rfl,⟨xs,SqT.of (s0 _ _ hsa)⟩,?_⟩
 refine fJ (xs:=xs) (fun i σ H'=>i<=xs.length/\ ∃ o4 o5 o6 kvs,σ=[some (.ref sa),some (.str o.name),some (.ref pa),some (.ref td),o4,o5,o6,none,none]/\Same H H'/\H' td=some (.dK kvs)/\kvs.length<=i/\TabOk H' kvs (ss.take i))
  ⟨Nat.zero_le _,none,none,none,[],rfl,s0,g0,Nat.le_refl _,fun s hs=>(by cases hs)⟩ (fun i σ H' _ h=>by obtain ⟨_,_,_,_,_,_,sm,_⟩:=h;exact SqT.of (sm _ _ hsa)) ?_ ?_
 ·rintro i x σ H1 hx ⟨hi,o4,o5,o6,kvs,rfl,sm,gd,hl,hT⟩
  have hlt:i<xs.length:=(List.getElem?_eq_some_iff.mp hx).1
  obtain ⟨sr,hsr,a,b,c,rfl,ha,hb,hc⟩:=aP hR hx
  refine ⟨a,_,rfl,SqT.of (sm _ _ ha),rfl,_,_,rfl,_,_,rfl,_,_,rfl,rfl,?_⟩
  refine ⟨_,rfl,_,rfl,(by show 2<=sizeLine;decide),fun pt hpt=>?_⟩
  have s1:=ai hpt (.tup [.ref b,.ref c])
  have g1:(upd H1 pt (.tup [.ref b,.ref c])) pt=some (.tup [.ref b,.ref c]):=ad
  generalize upd H1 pt (.tup [.ref b,.ref c])=H2 at s1 g1 ⊢
  have gd2:=s1 _ _ gd
  have S2:Same H H2:=sm.trans s1
  refine ⟨_,rfl,_,rfl,td,_,rfl,DPut.k (k:=.inr sr.name) gd2 (aF (by have:=hok.2.1;omega)),?_⟩
  have tk:TK H2 (upd H2 td (.dK (dB kvs (.inr sr.name) (.ref pt)))):=TK.upd fun ys e=>by rw [gd2]at e;cases e
  refine ⟨hlt,_,_,_,_,rfl,?_,ad,?_,?_⟩
  ·intro y oo h
   rw [ah (ak h htd)]
   exact S2 _ _ h
  ·have:=cM kvs (.inr sr.name) (.ref pt)
   omega
  ·exact TabOk.put hok.2.2.1 hsr (hT.mono ((aK s1).trans tk)) (tk _ _ g1) (tk _ _ (S2 _ _ hb)) (tk _ _ (S2 _ _ hc))
 ·rintro σ H1 ⟨_,o4,o5,o6,kvs,rfl,sm,gd,hl,hT⟩
  rw [<- hlen,List.take_length]at hT
  obtain ⟨a,b,c,eo,ha,hb,hc⟩:=hT o ho
  refine ⟨_,rfl,_,rfl,td,.ref a,rfl,(by rw [<- eo];exact DGet.k (k:=.inr o.name) gd),a,_,1,.ref c,rfl,rfl,SqT.of ha,aG (j:=1) rfl,c,rfl,⟨_,SqT.of hc⟩,?_⟩
  have lo:o.ups.length<=3:=(hok.2.2.2.2 o ho).2.2.2.1
  refine eM (by rw [List.length_map];omega) hc (fun v=>[.int (-1),v]) (fun v H k _ hk=>⟨1,rfl,_,rfl,(by show 2<=sizeLine;decide),fun p hp=>hk p hp⟩) fun fl zs H2 hfl s2 gfl hTz=>?_
  have ez:(o.ups.map V.str).map (fun v=>[V.int (-1),v])=(o.ups.map fun x=>((-1:Int),x)).map tgV:=by rw [List.map_map,List.map_map];rfl
  rw [ez]at hTz
  have S2:Same H H2:=sm.trans s2
  have hfl0:H fl=none:=sm.free hfl
  have gd2:=s2 _ _ gd
  have hT2:=hT.mono (aK s2)
  have dfl:fl≠td:=Ne.symm (ak gd hfl)
  have hlp:(qs.map fun q=>V.str (Srt.name q)).length=qs.length:=List.length_map _
  refine ⟨_,rfl,pa,_,rfl,.inr (SqT.of (S2 _ _ hpa)),_,rfl,by omega,by omega,?_⟩
  refine cV (fun i σ H'=> ∃ o8 zs,σ=[some (.ref sa),some (.str o.name),some (.ref pa),some (.ref td),o4,o5,o6,some (.ref fl),o8]/\Same H H'/\H' td=some (.dK kvs)/\TabOk H' kvs ss/\H' fl=some (.lst zs)/\
    Tups H' ((o.ups.map (fun x=>((-1:Int),x))++cO 0 (qs.take i)).map tgV) zs)
   ⟨none,zs,rfl,S2,gd2,hT2,gfl,by rw [List.take_zero];show Tups H2 ((_++[]).map tgV) zs;rw [List.append_nil];exact hTz⟩ ?_ ?_
  ·rintro i σ H3 hi ⟨o8,zs3,rfl,S3,gd3,hT3,gfl3,hTz3⟩
   have hi':i<qs.length:=by omega
   obtain ⟨sq,hsq⟩: ∃ sq,qs[i]? =some sq:=⟨qs[i],List.getElem?_eq_getElem hi'⟩
   obtain ⟨a,b,c,eq,ha,hb,hc⟩:=hT3 sq (hqs sq (List.mem_of_getElem? hsq))
   have eat:atI (qs.map fun q=>V.str (Srt.name q)) (0+ (i:Int))=some (V.str sq.name):=by
    rw [Int.zero_add]
    exact aG (by rw [List.getElem?_map,hsq];rfl)
   refine ⟨_,rfl,.inl ⟨rfl,_,SqL.of gfl3⟩,?_⟩
   refine ⟨_,rfl,_,rfl,_,rfl,pa,_,_,_,rfl,rfl,SqT.of (S3 _ _ hpa),eat,td,.ref a,rfl,(by rw [<- eq];exact DGet.k (k:=.inr sq.name) gd3),a,_,0,.ref b,rfl,rfl,SqT.of ha,dF,b,rfl,⟨_,SqT.of hb⟩,?_⟩
   have ld:sq.downs.length<=3:=(hok.2.2.2.2 sq (hqs sq (List.mem_of_getElem? hsq))).2.2.1
   refine eM (by rw [List.length_map];omega) hb (fun v=>[.int (0+ (i:Int)),v]) (fun v H k _ hk=>⟨_,rfl,_,rfl,(by show 2<=sizeLine;decide),fun p hp=>hk p hp⟩) fun pl ws H4 hpl s4 gpl hTw=>?_
   have ew:(sq.downs.map V.str).map (fun v=>[V.int (0+ (i:Int)),v])=(sq.downs.map fun x=>(0+ (i:Int),x)).map tgV:=by rw [List.map_map,List.map_map];rfl
   rw [ew]at hTw
   have gfl4:=s4 _ _ gfl3
   have lz:=hTz3.len
   have lw:=hTw.len
   have lt:=gX 0 (qs.take i) fun s hs=>hok.2.2.2.2 s (hqs s (List.mem_of_mem_take hs))
   rw [List.length_map,List.length_append,List.length_map]at lz
   rw [List.length_map,List.length_map]at lw
   rw [List.length_take]at lt
   refine ⟨fl,pl,zs3,ws,rfl,rfl,gfl4,gpl,Nat.le_of_lt (aF (by omega)),?_⟩
   have tk:TK H4 (upd H4 fl (.lst (zs3++ws))):=TK.lst gfl4
   have tk3:TK H3 (upd H4 fl (.lst (zs3++ws))):=(aK s4).trans tk
   refine ⟨_,zs3++ws,rfl,?_,?_,hT3.mono tk3,ad,?_⟩
   ·intro y oo h
    rw [ah (ak h hfl0)]
    exact s4 _ _ (S3 _ _ h)
   ·rw [ah (Ne.symm dfl)]
    exact s4 _ _ gd3
   ·rw [List.take_add_one,hsq]
    show Tups _ ((_++cO 0 (qs.take i++[sq])).map tgV) _
    rw [jS,<- List.append_assoc,List.map_append]
    have e9:(0:Int) + ((qs.take i).length:Int)=0+ (i:Int):=by rw [List.length_take];omega
    rw [e9]
    exact (hTz3.mono tk3).append (hTw.mono tk)
  ·rintro σ H3 ⟨o8,zs3,rfl,S3,gd3,hT3,gfl3,hTz3⟩
   have e9:qs.take (((qs.map fun q=>V.str (Srt.name q)).length:Int)).toNat=qs:=by rw [hlp];exact List.take_of_length_le (by omega)
   rw [e9]at hTz3
   exact ⟨_,rfl,q fl zs3 H3 hfl0 S3 gfl3 hTz3⟩
noncomputable def cy (k:Int):List Srt->List Fm
 | []=>[]
 | q::r=>q.ups.map (fun x=>Fm.part k x)++cy (k+1) r
noncomputable def tgF (t:Int×Str):Fm:=if t.1<0 then .own t.2 else .part t.1 t.2
noncomputable def dO (o:Srt) (qs:List Srt) (mode j:Int):List (Int×Str):=if mode=2 then (dW o qs).take j.toNat else dW o qs
noncomputable def rds (o:Srt) (qs:List Srt) (mode j:Int):List Fm:=(o.downs.map Fm.own++cy 0 qs)++(if mode>0 then (dO o qs mode j).map tgF else [])
noncomputable def fmV:Fm->List V
 | .own x=>[.str "own",.str x]
 | .part k x=>[.str "part",.int k,.str x]
 | _=>[]
theorem eV (k:Int): ∀ (qs:List Srt),(∀ s∈qs,s.ok)->(cy k qs).length<=3*qs.length:=by
 intro qs
 induction qs generalizing k with
 | nil=>intro _;exact Nat.le_refl _
 | cons q r ih=>
  intro h
  have h1:=ih (k+1) fun s hs=>h s (List.mem_cons_of_mem _ hs)
  have h2:=(h q List.mem_cons_self).2.2.2.1
  unfold cy
  rw [List.length_append,List.length_map,List.length_cons]
  omega
theorem jY (k:Int): ∀ (qs:List Srt) (q:Srt),cy k (qs++[q])=cy k qs++q.ups.map (fun x=>Fm.part (k+qs.length) x):=by
 intro qs
 induction qs generalizing k with
 | nil=>intro q;show q.ups.map (fun x=>Fm.part k x)++[]=_;rw [List.append_nil];show _=q.ups.map (fun x=>Fm.part (k+ ((0:Nat):Int)) x);rw [show k+ ((0:Nat):Int)=k by omega]
 | cons r rs ih=>
  intro q
  show r.ups.map _++cy (k+1) (rs++[q])=(r.ups.map _++cy (k+1) rs)++_
  rw [ih,List.append_assoc]
  have:k+1+ (rs.length:Int)=k+ ((r::rs).length:Int):=by rw [List.length_cons];omega
  rw [this]
theorem gW {ss:List Srt} {o:Srt} {qs:List Srt} (hok: ∀ s∈ss,s.ok) (ho:o∈ss) (hq: ∀ q∈qs,q∈ss) (hl:qs.length<=3):(dW o qs).length<=12:=by
 have h1:=gX 0 qs fun s hs=>hok s (hq s hs)
 have h2:=(hok o ho).2.2.2.1
 unfold dW
 rw [List.length_append,List.length_map]
 omega
theorem iT (o:Srt) (qs:List Srt) (mode j:Int):(dO o qs mode j).length<=(dW o qs).length:=by
 unfold dO
 by_cases c:mode=2
 ·rw [if_pos c,List.length_take];exact Nat.min_le_right _ _
 ·rw [if_neg c];exact Nat.le_refl _
noncomputable def gu:Sp:=fun vs H Q _=> ∃ sa pa ss o qs mode j,vs=[.ref sa,.str (Srt.name o),.ref pa,.int mode,.int j]/\SrtsAt H sa ss/\cU ss/\o∈ss/\H pa=some (.tup (qs.map fun q=>V.str (Srt.name q)))/\(∀ q∈qs,q∈ss)/\qs.length<=3/\
 0<=j/\j<=(dW o qs).length/\ ∀ p zs H',H p=none->Same H H'->H' p=some (.lst zs)->Tups H' ((rds o qs mode j).map fmV) zs->Q (.ref p) H'
theorem sY {z u:V} (k:Bool):atI [z,u] (if k then 1 else 0)=some (if k then u else z):=by cases k <;> rfl
theorem scLReadings:aI ["sorts","own","parts","mode","j","table","name","downs","ups","word","found","k","targets","at"] ["sorts","own","parts","mode","j"] (aj cY):=fsc
theorem jw (F:Fun K "_law_readings" "_law_readings" cY f fd) (G:Gb mg) (GT:ay P w K mg base CX0 1 g gd ["sorts","own","parts"] fR) (bT:Binds K gd ["sorts","own","parts"] []) (kT:PySem.W.keepIn K (.ref g)=true) (mT:mg "_law_targets"=some (.ref g)):
  ay P w K mg base CX0 2 f fd ["sorts","own","parts","mode","j"] gu:=by
 refine F.ok scLReadings (fun vs H Q E h=>?_) (fun cdv A outer s H vs Q E hr h=>?_)
 ·obtain ⟨sa,pa,ss,o,qs,mode,j,rfl,_⟩:=h
  rfl
 obtain ⟨sa,pa,ss,o,qs,mode,j,rfl,⟨xs,hsa,hR⟩,hok,ho,hpa,hqs,hql,hj0,hj1,q⟩:=h
 have hu:=dR hr
 refine ⟨_,af (aq (i:=5) scLReadings.nd rfl (Or.inl rfl) dC)
  (af (ce PassesOwn.never rfl (bu (pv 0)) (eW rfl (aT (aL (i:=6) scLReadings.nd rfl (Or.inl rfl)) (aT (aL (i:=7) scLReadings.nd rfl (Or.inl rfl)) (aT (aL (i:=8) scLReadings.nd rfl (Or.inl rfl)) dL))))
   (al (fB hu (pv 5) (pv 6) (aY (ac (pv 7) (ac (pv 8) ae))) rfl)))
  (af (eG (i:=10) (sc0:=aj cY) (N0:=["sorts","own","parts","mode","j","table","name","downs","ups","word","found","k","targets","at"]) (ys:=[]) (fr:=[]) rfl scLReadings.nd rfl (Or.inl rfl)
    (bu (ax aE (cz hu (pv 5) (pv 1) (fun _ _=>rfl)) ag (fun _ _=>rfl))) rfl rfl
    cok
    (fun C s H ex=>aY (ac bx (ac (pv 0) ae))))
  (af (ce PassesOwn.never rfl (bM rfl G.range (ac (ar av rfl G.len PySem.boot_len (ac (pv 2) ae)) ae)) (aL (i:=11) scLReadings.nd rfl (Or.inr rfl))
   (al (dn (ig PySem.F.plainAttrs_list PySem.F.slot_list_extend PySem.F.type_list_extend i4 (pv 10) (ac
    (cA (sc0:=aj cY) (N0:=["sorts","own","parts","mode","j","table","name","downs","ups","word","found","k","targets","at"]) (ys:=["k"]) (fr:=[11]) rfl
     (bu (ax aE (cz hu (pv 5) (ax aE (pv 2) (pv 11) (fun _ _=>rfl)) (fun _ _=>rfl)) ag (fun _ _=>rfl))) rfl rfl
     cok
     (fun C s H ex=>aY (ac bx (ac (pv 1) (ac (pv 0) ae))))) ae)))))
  (af (aq (i:=12) scLReadings.nd rfl (Or.inl rfl) (am GT hr rfl mT kT bT .nil aw (ac (pv 0) (ac (pv 1) (ac (pv 2) ae)))))
  (af (aW (aD cB (pv 3) ag (aH _)) (al (aq (i:=12) scLReadings.nd rfl (Or.inl rfl) (a7 cR (pv 12) bw (bg (pv 4))))) aM)
  (af (ce PassesOwn.never rfl (eI (pv 12)) (eW rfl (aT (aL (i:=13) scLReadings.nd rfl (Or.inl rfl)) (aT (aL (i:=9) scLReadings.nd rfl (Or.inl rfl)) dL)))
   (al (aW (aD j3 (pv 3) ag (aH _))
    (al (dn (ig PySem.F.plainAttrs_list PySem.F.slot_list_append PySem.F.type_list_append cv (pv 10) (ac
     (ax aQ (bU (ac (aY (ac bx (ac (pv 13) (ac (pv 9) ae)))) (ac (aY (ac bx (ac (pv 9) ae))) ae)))
      (bc eO rfl G.int (by decide +kernel) (ac (cK i3 (pv 13) ag (aH _)) ae)) (fun _ _=>rfl)) ae)))) aM)))
  (al (aJ (pv 10))))))))),?_⟩
 refine fun td htd=>?_
 have s0:=ai htd (.dK [])
 have g0:(upd H td (.dK [])) td=some (.dK []):=ad
 generalize upd H td (.dK [])=H0 at s0 g0 ⊢
 have hlen:=hR.len
 refine ⟨_,rfl,sa,rfl,⟨xs,SqT.of (s0 _ _ hsa)⟩,?_⟩
 refine fJ (xs:=xs) (fun i σ H'=>i<=xs.length/\ ∃ o4 o5 o6 kvs,σ=[some (.ref sa),some (.str o.name),some (.ref pa),some (.int mode),some (.int j),some (.ref td),o4,o5,o6,none,none,none,none,none]/\Same H H'/\H' td=some (.dK kvs)/\kvs.length<=i/\TabOk H' kvs (ss.take i))
  ⟨Nat.zero_le _,none,none,none,[],rfl,s0,g0,Nat.le_refl _,fun s hs=>(by cases hs)⟩ (fun i σ H' _ h=>by obtain ⟨_,_,_,_,_,_,sm,_⟩:=h;exact SqT.of (sm _ _ hsa)) ?_ ?_
 ·rintro i x σ H1 hx ⟨hi,o4,o5,o6,kvs,rfl,sm,gd,hl,hT⟩
  have hlt:i<xs.length:=(List.getElem?_eq_some_iff.mp hx).1
  obtain ⟨sr,hsr,a,b,c,rfl,ha,hb,hc⟩:=aP hR hx
  refine ⟨a,_,rfl,SqT.of (sm _ _ ha),rfl,_,_,rfl,_,_,rfl,_,_,rfl,rfl,?_⟩
  refine ⟨_,rfl,_,rfl,(by show 2<=sizeLine;decide),fun pt hpt=>?_⟩
  have s1:=ai hpt (.tup [.ref b,.ref c])
  have g1:(upd H1 pt (.tup [.ref b,.ref c])) pt=some (.tup [.ref b,.ref c]):=ad
  generalize upd H1 pt (.tup [.ref b,.ref c])=H2 at s1 g1 ⊢
  have gd2:=s1 _ _ gd
  have S2:Same H H2:=sm.trans s1
  refine ⟨_,rfl,_,rfl,td,_,rfl,DPut.k (k:=.inr sr.name) gd2 (aF (by have:=hok.2.1;omega)),?_⟩
  have tk:TK H2 (upd H2 td (.dK (dB kvs (.inr sr.name) (.ref pt)))):=TK.upd fun ys e=>by rw [gd2]at e;cases e
  refine ⟨hlt,_,_,_,_,rfl,?_,ad,?_,?_⟩
  ·intro y oo h
   rw [ah (ak h htd)]
   exact S2 _ _ h
  ·have:=cM kvs (.inr sr.name) (.ref pt)
   omega
  ·exact TabOk.put hok.2.2.1 hsr (hT.mono ((aK s1).trans tk)) (tk _ _ g1) (tk _ _ (S2 _ _ hb)) (tk _ _ (S2 _ _ hc))
 ·rintro σ H1 ⟨_,o4,o5,o6,kvs,rfl,sm,gd,hl,hT⟩
  rw [<- hlen,List.take_length]at hT
  obtain ⟨a,b,c,eo,ha,hb,hc⟩:=hT o ho
  refine ⟨_,rfl,_,rfl,td,.ref a,rfl,(by rw [<- eo];exact DGet.k (k:=.inr o.name) gd),a,_,0,.ref b,rfl,rfl,SqT.of ha,dF,b,rfl,⟨_,SqT.of hb⟩,?_⟩
  have lo:o.downs.length<=3:=(hok.2.2.2.2 o ho).2.2.1
  refine eM (by rw [List.length_map];omega) hb (fun v=>[.str "own",v]) (fun v H k _ hk=>⟨_,rfl,(by show 2<=sizeLine;decide),fun p hp=>hk p hp⟩) fun fl zs H2 hfl s2 gfl hTz=>?_
  have ez:(o.downs.map V.str).map (fun v=>[V.str "own",v])=(o.downs.map Fm.own).map fmV:=by rw [List.map_map,List.map_map];rfl
  rw [ez]at hTz
  have S2:Same H H2:=sm.trans s2
  have hfl0:H fl=none:=sm.free hfl
  have gd2:=s2 _ _ gd
  have hT2:=hT.mono (aK s2)
  have dfl:fl≠td:=Ne.symm (ak gd hfl)
  have hlp:(qs.map fun q=>V.str (Srt.name q)).length=qs.length:=List.length_map _
  refine ⟨_,rfl,pa,_,rfl,.inr (SqT.of (S2 _ _ hpa)),_,rfl,by omega,by omega,?_⟩
  refine cV (fun i σ H'=> ∃ o8 zs,σ=[some (.ref sa),some (.str o.name),some (.ref pa),some (.int mode),some (.int j),some (.ref td),o4,o5,o6,none,some (.ref fl),o8,none,none]/\Same H H'/\H' td=some (.dK kvs)/\TabOk H' kvs ss/\H' fl=some (.lst zs)/\
    Tups H' ((o.downs.map Fm.own++cy 0 (qs.take i)).map fmV) zs)
   ⟨none,zs,rfl,S2,gd2,hT2,gfl,by rw [List.take_zero];show Tups H2 ((_++[]).map fmV) zs;rw [List.append_nil];exact hTz⟩ ?_ ?_
  ·rintro i σ H3 hi ⟨o8,zs3,rfl,S3,gd3,hT3,gfl3,hTz3⟩
   have hi':i<qs.length:=by omega
   obtain ⟨sq,hsq⟩: ∃ sq,qs[i]? =some sq:=⟨qs[i],List.getElem?_eq_getElem hi'⟩
   obtain ⟨a,b,c,eq,ha,hb,hc⟩:=hT3 sq (hqs sq (List.mem_of_getElem? hsq))
   have eat:atI (qs.map fun q=>V.str (Srt.name q)) (0+ (i:Int))=some (V.str sq.name):=by
    rw [Int.zero_add]
    exact aG (by rw [List.getElem?_map,hsq];rfl)
   refine ⟨_,rfl,.inl ⟨rfl,_,SqL.of gfl3⟩,?_⟩
   refine ⟨_,rfl,_,rfl,_,rfl,pa,_,_,_,rfl,rfl,SqT.of (S3 _ _ hpa),eat,td,.ref a,rfl,(by rw [<- eq];exact DGet.k (k:=.inr sq.name) gd3),a,_,1,.ref c,rfl,rfl,SqT.of ha,aG (j:=1) rfl,c,rfl,⟨_,SqT.of hc⟩,?_⟩
   have ld:sq.ups.length<=3:=(hok.2.2.2.2 sq (hqs sq (List.mem_of_getElem? hsq))).2.2.2.1
   refine eM (by rw [List.length_map];omega) hc (fun v=>[.str "part",.int (0+ (i:Int)),v]) (fun v H k _ hk=>⟨_,rfl,_,rfl,(by show 3<=sizeLine;decide),fun p hp=>hk p hp⟩) fun pl ws H4 hpl s4 gpl hTw=>?_
   have ew:(sq.ups.map V.str).map (fun v=>[V.str "part",V.int (0+ (i:Int)),v])=(sq.ups.map fun x=>Fm.part (0+ (i:Int)) x).map fmV:=by rw [List.map_map,List.map_map];rfl
   rw [ew]at hTw
   have gfl4:=s4 _ _ gfl3
   have lz:=hTz3.len
   have lw:=hTw.len
   have lt:=eV 0 (qs.take i) fun s hs=>hok.2.2.2.2 s (hqs s (List.mem_of_mem_take hs))
   rw [List.length_map,List.length_append,List.length_map]at lz
   rw [List.length_map,List.length_map]at lw
   rw [List.length_take]at lt
   refine ⟨fl,pl,zs3,ws,rfl,rfl,gfl4,gpl,Nat.le_of_lt (aF (by omega)),?_⟩
   have tk:TK H4 (upd H4 fl (.lst (zs3++ws))):=TK.lst gfl4
   have tk3:TK H3 (upd H4 fl (.lst (zs3++ws))):=(aK s4).trans tk
   refine ⟨_,zs3++ws,rfl,?_,?_,hT3.mono tk3,ad,?_⟩
   ·intro y oo h
    rw [ah (ak h hfl0)]
    exact s4 _ _ (S3 _ _ h)
   ·rw [ah (Ne.symm dfl)]
    exact s4 _ _ gd3
   ·rw [List.take_add_one,hsq]
    show Tups _ ((_++cy 0 (qs.take i++[sq])).map fmV) _
    rw [jY,<- List.append_assoc,List.map_append]
    have e9:(0:Int) + ((qs.take i).length:Int)=0+ (i:Int):=by rw [List.length_take];omega
    rw [e9]
    exact (hTz3.mono tk3).append (hTw.mono tk)
  ·rintro σ H3 ⟨o8,zs3,rfl,S3,gd3,hT3,gfl3,hTz3⟩
   have e9:qs.take (((qs.map fun q=>V.str (Srt.name q)).length:Int)).toNat=qs:=by rw [hlp];exact List.take_of_length_le (by omega)
   rw [e9]at hTz3
   have lt12:=gW hok.2.2.2.2 ho hqs hql
   have l12:zs3.length<=12:=by
    have lt:=eV 0 qs fun s hs=>hok.2.2.2.2 s (hqs s hs)
    have lz:=hTz3.len
    rw [List.length_map,List.length_append,List.length_map]at lz
    omega
   refine ⟨_,rfl,_,rfl,_,rfl,sa,pa,ss,o,qs,rfl,⟨xs,S3 _ _ hsa,hR.mono (aK S3)⟩,hok,ho,S3 _ _ hpa,hqs,hql,fun tl zt H4 htl s4 gtl hTt=>?_⟩
   have S4:Same H H4:=S3.trans s4
   have gfl4:=s4 _ _ gfl3
   have hTz4:=hTz3.mono (aK s4)
   have nft:fl≠tl:=ak gfl3 htl
   refine ⟨_,rfl,rfl,_,rfl,?_⟩
   refine dE (fun c=>?A) (fun c=>?B)
   case' A=>
    have cm:mode=2:=V.int.inj (of_decide_eq_true c)
    have lzt:zt.length=(dW o qs).length:=by rw [<- hTt.len,List.length_map]
    refine ⟨_,rfl,_,rfl,j,rfl,tl,zt,rfl,SqL.of gtl,fun tl2 htl2=>?_⟩
    rw [eB zt hj0 (by omega)]
    have hsel:Tups H4 ((dO o qs mode j).map tgV) (zt.take j.toNat):=by
     unfold dO
     rw [if_pos cm,List.map_take]
     exact gv hTt _
    have s5:=ai htl2 (.lst (zt.take j.toNat))
    have gt:(upd H4 tl2 (.lst (zt.take j.toNat))) tl2=some (.lst (zt.take j.toNat)):=ad
    have nft2:fl≠tl2:=ak gfl4 htl2
    have gfl5:=s5 _ _ gfl4
    have hTz5:=hTz4.mono (aK s5)
    have hsel5:=hsel.mono (aK s5)
    have S5:Same H (upd H4 tl2 (.lst (zt.take j.toNat))):=S4.trans s5
    generalize upd H4 tl2 (.lst (zt.take j.toNat))=H5 at gt gfl5 hTz5 hsel5 S5 ⊢
    generalize zt.take j.toNat=zu at gt hsel5
    generalize tl2=tx at gt nft2 ⊢
   case' B=>
    have cm: ¬ mode=2:=fun e=>c (decide_eq_true (by rw [e]))
    have hsel5:Tups H4 ((dO o qs mode j).map tgV) zt:=by
     unfold dO
     rw [if_neg cm]
     exact hTt
    have gt:=gtl
    have nft2:=nft
    have gfl5:=gfl4
    have hTz5:=hTz4
    have S5:=S4
    generalize H4=H5 at gt gfl5 hTz5 hsel5 S5 ⊢
    generalize zt=zu at gt hsel5
    generalize tl=tx at gt nft2 ⊢
   all_goals
    have ltg:(dO o qs mode j).length<=12:=Nat.le_trans (iT o qs mode j) lt12
    have lzu:zu.length=(dO o qs mode j).length:=by rw [<- hsel5.len,List.length_map]
    have hrd:rds o qs mode j=(o.downs.map Fm.own++cy 0 qs)++(if mode>0 then (dO o qs mode j).map tgF else []):=rfl
    generalize dO o qs mode j=tg at ltg lzu hrd hsel5
    have e0:(if mode>0 then (tg.take 0).map tgF else [])=[]:=by split <;> rfl
    refine ⟨_,rfl,tx,rfl,⟨zu,SqL.of gt⟩,?_⟩
    refine iA (xs:=zu) (fun i σ H'=>i<=zu.length/\ ∃ o9 zs o13,σ=[some (.ref sa),some (.str o.name),some (.ref pa),some (.int mode),some (.int j),some (.ref td),o4,o5,o6,o9,some (.ref fl),o8,some (.ref tx),o13]/\Same H H'/\H' tx=some (.lst zu)/\Tups H' (tg.map tgV) zu/\H' fl=some (.lst zs)/\zs.length<=12+i/\
      Tups H' (((o.downs.map Fm.own++cy 0 qs)++(if mode>0 then (tg.take i).map tgF else [])).map fmV) zs)
     ⟨Nat.zero_le _,none,zs3,none,rfl,S5,gt,hsel5,gfl5,l12,by rw [e0,List.append_nil];exact hTz5⟩ (fun i σ H' _ h=>by obtain ⟨_,_,_,_,_,_,gg,_⟩:=h;exact SqL.of gg) ?_ ?_
    ·rintro i x σ H6 hx ⟨hi,o9,zs6,o13,rfl,S6,gt6,hsel6,gfl6,l6,hT6⟩
     have hlt:i<zu.length:=(List.getElem?_eq_some_iff.mp hx).1
     obtain ⟨ys,hys,a,rfl,ha⟩:=aP hsel6 hx
     obtain ⟨t,ht,rfl⟩: ∃ t,tg[i]? =some t/\tgV t=ys:=by
      rw [List.getElem?_map]at hys
      cases he:tg[i]? with
      | none=>rw [he]at hys;cases hys
      | some t=>rw [he]at hys;exact ⟨t,rfl,Option.some.inj hys⟩
     refine ⟨a,_,rfl,SqT.of ha,rfl,_,_,rfl,_,_,rfl,rfl,?_⟩
     refine ⟨_,rfl,_,_,rfl,rfl,_,rfl,?_⟩
     refine dE (fun cm=>?_) (fun cm=>?_)
     ·have cm':mode>0:=of_decide_eq_true cm
      refine ⟨_,rfl,.inl ⟨rfl,_,SqL.of gfl6⟩,?_⟩
      refine ⟨_,rfl,_,rfl,(by show 3<=sizeLine;decide),fun p1 hp1=>?_⟩
      have s1:=ai hp1 (.tup [.str "part",.int t.1,.str t.2])
      have g1:(upd H6 p1 (.tup [.str "part",.int t.1,.str t.2])) p1=some (.tup [.str "part",.int t.1,.str t.2]):=ad
      generalize upd H6 p1 (.tup [.str "part",.int t.1,.str t.2])=H7 at s1 g1 ⊢
      refine ⟨_,rfl,(by show 2<=sizeLine;decide),fun p2 hp2=>?_⟩
      have s2:=ai hp2 (.tup [.str "own",.str t.2])
      have g2:(upd H7 p2 (.tup [.str "own",.str t.2])) p2=some (.tup [.str "own",.str t.2]):=ad
      generalize upd H7 p2 (.tup [.str "own",.str t.2])=H8 at s2 g2 ⊢
      refine ⟨(by show 2<=sizeLine;decide),fun p3 hp3=>?_⟩
      have s3:=ai hp3 (.lst [.ref p1,.ref p2])
      have g3:(upd H8 p3 (.lst [.ref p1,.ref p2])) p3=some (.lst [.ref p1,.ref p2]):=ad
      generalize upd H8 p3 (.lst [.ref p1,.ref p2])=H9 at s3 g3 ⊢
      have S69:Same H6 H9:=s1.trans (s2.trans s3)
      refine ⟨_,rfl,_,_,rfl,rfl,.inr ⟨_,rfl,p3,_,_,_,rfl,rfl,SqL.of g3,sY _,?_⟩⟩
      have gfl9:=S69 _ _ gfl6
      refine ⟨fl,zs6,_,rfl,rfl,gfl9,aF (by omega),?_⟩
      have hz:qv H9 (fmV (tgF t)) (if decide (t.1<0)=true then .ref p2 else .ref p1):=by
       by_cases cn:t.1<0
       ·rw [if_pos (decide_eq_true cn)]
        unfold tgF
        rw [if_pos cn]
        exact ⟨p2,rfl,s3 _ _ g2⟩
       ·rw [if_neg (fun e=>cn (of_decide_eq_true e))]
        unfold tgF
        rw [if_neg cn]
        exact ⟨p1,rfl,s3 _ _ (s2 _ _ g1)⟩
      generalize (if decide (t.1<0)=true then V.ref p2 else .ref p1)=zv at hz ⊢
      have tk:TK H9 (upd H9 fl (.lst (zs6++[zv]))):=TK.lst gfl9
      have tk6:TK H6 (upd H9 fl (.lst (zs6++[zv]))):=(aK S69).trans tk
      refine ⟨hlt,_,zs6++[zv],_,rfl,?_,?_,hsel6.mono tk6,ad,by rw [List.length_append];show zs6.length+1<=_;omega,?_⟩
      ·intro y oo h
       rw [ah (ak h hfl0)]
       exact S69 _ _ (S6 _ _ h)
      ·rw [ah (Ne.symm nft2)]
       exact S69 _ _ gt6
      ·rw [if_pos cm']at hT6 ⊢
       rw [List.take_add_one,ht]
       show Tups _ ((_++(tg.take i++[t]).map tgF).map fmV) _
       rw [List.map_append (f:=tgF),<- List.append_assoc,List.map_append (f:=fmV)]
       obtain ⟨az,ez,gz⟩:=hz
       exact Paired.snoc (hT6.mono tk6) ⟨az,ez,tk _ _ gz⟩
     ·have cm': ¬ mode>0:=fun e=>cm (decide_eq_true e)
      refine ⟨hlt,_,zs6,_,rfl,S6,gt6,hsel6,gfl6,by omega,?_⟩
      rw [if_neg cm']at hT6 ⊢
      exact hT6
    ·rintro σ H6 ⟨_,o9,zs6,o13,rfl,S6,gt6,hsel6,gfl6,l6,hT6⟩
     rw [List.take_of_length_le (by omega),<- hrd]at hT6
     exact ⟨_,rfl,q fl zs6 H6 hfl0 S6 gfl6 hT6⟩
structure Rul where
 pl:Int
 word:Str
 fm:Fm
structure Frm where
 name:Str
 own:Srt
 parts:List Srt
 rules:List Rul
noncomputable def RepR (H:Hp) (r:Rul) (v:V):Prop:= ∃ a u,v=.ref a/\H a=some (.tup [.int r.pl,.str r.word,u])/\Rep H r.fm u
theorem RepR.mono {H H':Hp} (t:TK H H') {r:Rul} {v:V}:RepR H r v->RepR H' r v:=fun ⟨a,u,e,h,p⟩=>⟨a,u,e,t _ _ h,p.mono t⟩
noncomputable def RepRs (H:Hp) (rs:List Rul) (vs:List V):Prop:=Paired (RepR H) rs vs
theorem RepRs.mono {H H':Hp} (t:TK H H') {rs:List Rul} {vs:List V} (h:RepRs H rs vs):RepRs H' rs vs:=Paired.mapP h fun _ _ r=>r.mono t
theorem RepRs.len {H:Hp} {rs:List Rul} {vs:List V} (h:RepRs H rs vs):rs.length=vs.length:=Paired.length h
noncomputable def a8 (qs:List Srt):List V:=qs.map fun q=>V.str (Srt.name q)
noncomputable def RepF (H:Hp) (fr:Frm) (v:V):Prop:= ∃ a pa ra rv,v=.ref a/\H a=some (.tup [.str fr.name,.str fr.own.name,.ref pa,.ref ra])/\H pa=some (.tup (a8 fr.parts))/\H ra=some (.tup rv)/\RepRs H fr.rules rv
theorem RepF.mono {H H':Hp} (t:TK H H') {fr:Frm} {v:V}:RepF H fr v->RepF H' fr v:=fun ⟨a,pa,ra,rv,e,h1,h2,h3,h4⟩=>⟨a,pa,ra,rv,e,t _ _ h1,t _ _ h2,t _ _ h3,h4.mono t⟩
noncomputable def mE (o:Srt) (qs:List Srt) (mode:Int) (rules:List Rul):Prop:=rules.map (fun r=>(r.pl,r.word))=dW o qs/\ ∀ (j:Nat) r,rules[j]? =some r->r.fm.wfp (fun f=>f∈rds o qs mode j)/\r.fm.size<=15
noncomputable def jB:Fm->Prop
 | .own x=>cW x=true
 | .part k x=>(0<=k/\k<=2)/\cW x=true
 | _=>False
theorem lh {k:Int}: ∀ {qs:List Srt} {t:Int×Str},t∈cO k qs->k<=t.1/\t.1<k+qs.length/\ ∃ q∈qs,t.2∈q.downs:=by
 intro qs
 induction qs generalizing k with
 | nil=>intro t h;cases h
 | cons q r ih=>
  intro t h
  unfold cO at h
  rw [List.mem_append]at h
  rcases h with h | h
  ·obtain ⟨x,hx,rfl⟩:=List.mem_map.mp h
   exact ⟨Int.le_refl _,by rw [List.length_cons];show k<_;omega,q,List.mem_cons_self,hx⟩
  ·obtain ⟨h1,h2,q',h3,h4⟩:=ih h
   exact ⟨by omega,by rw [List.length_cons];omega,q',List.mem_cons_of_mem _ h3,h4⟩
theorem ly {k:Int}: ∀ {qs:List Srt} {f:Fm},f∈cy k qs-> ∃ j x,f=.part j x/\k<=j/\j<k+qs.length/\ ∃ q∈qs,x∈q.ups:=by
 intro qs
 induction qs generalizing k with
 | nil=>intro t h;cases h
 | cons q r ih=>
  intro t h
  unfold cy at h
  rw [List.mem_append]at h
  rcases h with h | h
  ·obtain ⟨x,hx,rfl⟩:=List.mem_map.mp h
   exact ⟨k,x,rfl,Int.le_refl _,by rw [List.length_cons];omega,q,List.mem_cons_self,hx⟩
  ·obtain ⟨j,x,e,h1,h2,q',h3,h4⟩:=ih h
   exact ⟨j,x,e,by omega,by rw [List.length_cons];omega,q',List.mem_cons_of_mem _ h3,h4⟩
theorem oF {ss:List Srt} {o:Srt} {qs:List Srt} (hok: ∀ s∈ss,s.ok) (ho:o∈ss) (hq: ∀ q∈qs,q∈ss) (hl:qs.length<=3) {t:Int×Str} (ht:t∈dW o qs):jB (tgF t):=by
 unfold dW at ht
 rw [List.mem_append]at ht
 unfold tgF
 rcases ht with h | h
 ·obtain ⟨x,hx,rfl⟩:=List.mem_map.mp h
  rw [if_pos (show ((-1:Int),x).1<0 from (by decide:(-1:Int) <0))]
  exact (hok o ho).2.1 x (List.mem_append_right _ hx)
 ·obtain ⟨h1,h2,q,h3,h4⟩:=lh h
  rw [if_neg (by omega)]
  exact ⟨⟨h1,by omega⟩,(hok q (hq q h3)).2.1 _ (List.mem_append_left _ h4)⟩
theorem pi {ss:List Srt} {o:Srt} {qs:List Srt} {mode j:Int} (hok: ∀ s∈ss,s.ok) (ho:o∈ss) (hq: ∀ q∈qs,q∈ss) (hl:qs.length<=3) {f:Fm} (hf:f∈rds o qs mode j):jB f:=by
 unfold rds at hf
 rw [List.mem_append,List.mem_append]at hf
 rcases hf with (h | h) | h
 ·obtain ⟨x,hx,rfl⟩:=List.mem_map.mp h
  exact (hok o ho).2.1 x (List.mem_append_left _ hx)
 ·obtain ⟨k,x,rfl,h1,h2,q,h3,h4⟩:=ly h
  exact ⟨⟨h1,by omega⟩,(hok q (hq q h3)).2.1 _ (List.mem_append_right _ h4)⟩
 ·by_cases c:mode>0
  ·rw [if_pos c]at h
   obtain ⟨t,ht,rfl⟩:=List.mem_map.mp h
   refine oF hok ho hq hl ?_
   unfold dO at ht
   by_cases c2:mode=2
   ·rw [if_pos c2]at ht;exact List.mem_of_mem_take ht
   ·rw [if_neg c2]at ht;exact ht
  ·rw [if_neg c]at h;cases h
theorem lJ {α β:Type} {F:α->β->Prop}: ∀ {l:List α} {r:List β} {b:β},Paired F l r->b∈r-> ∃ a∈l,F a b:=fun {l r b} h m=>by
 obtain ⟨i,hi⟩:=List.getElem?_of_mem m
 obtain ⟨a,ha,f⟩:=aP h hi
 exact ⟨a,List.mem_of_getElem? ha,f⟩
theorem pT {H:Hp} {f:Fm} {v:V} (hl:jB f) (h:qv H (fmV f) v):Rep H f v/\f.size=1:=by
 obtain ⟨a,rfl,ha⟩:=h
 cases f with
 | own x=>exact ⟨⟨a,rfl,ha⟩,rfl⟩
 | part k x=>exact ⟨⟨a,rfl,ha⟩,rfl⟩
 | num n=>exact hl.elim
 | bin op x y=>exact hl.elim
 | whn x y z=>exact hl.elim
theorem pS {ρ:Fm->Prop} {f:Fm} (hl:jB f) (h:ρ f):f.wfp ρ:=by
 cases f with
 | own x=>exact ⟨hl,h⟩
 | part k x=>exact ⟨hl,h⟩
 | num n=>exact hl.elim
 | bin op x y=>exact hl.elim
 | whn x y z=>exact hl.elim
theorem qL {H:Hp} {ss:List Srt} {o:Srt} {qs:List Srt} {mode j:Int} {zs:List V} (hok: ∀ s∈ss,s.ok) (ho:o∈ss) (hq: ∀ q∈qs,q∈ss) (hl:qs.length<=3) (h:Tups H ((rds o qs mode j).map fmV) zs):LvsP (fun f=>f∈rds o qs mode j) H zs:=fun v hv=>by
 obtain ⟨ys,hy,hz⟩:=lJ h hv
 obtain ⟨f,hf,rfl⟩:=List.mem_map.mp hy
 have lf:=pi hok ho hq hl hf
 obtain ⟨r,s⟩:=pT lf hz
 exact ⟨f,r,pS lf hf,s⟩
theorem qM {ss:List Srt} {o:Srt} {qs:List Srt} {mode j:Int} (hok: ∀ s∈ss,s.ok) (ho:o∈ss) (hq: ∀ q∈qs,q∈ss) (hl:qs.length<=3):(rds o qs mode j).length<=24:=by
 have h1:=eV 0 qs fun s hs=>hok s (hq s hs)
 have h2:=(hok o ho).2.2.1
 have h3:=gW hok ho hq hl
 have h4:=iT o qs mode j
 unfold rds
 rw [List.length_append,List.length_append,List.length_map]
 by_cases c:mode>0
 ·rw [if_pos c,List.length_map];omega
 ·rw [if_neg c];show _+0<=24;omega
noncomputable def fw:Sp:=fun vs H Q _=> ∃ tp sa pa ss nm o qs mode,vs=[.ref tp,.ref sa,.str nm,.str (Srt.name o),.ref pa,.int mode]/\Tp H tp/\SrtsAt H sa ss/\cU ss/\o∈ss/\H pa=some (.tup (a8 qs))/\(∀ q∈qs,q∈ss)/\qs.length<=3/\
 ∀ v rules H',RepF H' ⟨nm,o,qs,rules⟩ v->mE o qs mode rules->Kp tp H H'->Tp H' tp->Q v H'
theorem scLForm:aI ["tape","sorts","name","own","parts","mode","rules","targets","j","readings"] ["tape","sorts","name","own","parts","mode"] (aj lu):=fsc
theorem pL (F:Fun K "_law_form" "_law_form" lu f fd) (G:Gb mg) (GT:ay P w K mg base CX0 1 g gd ["sorts","own","parts"] fR) (bT:Binds K gd ["sorts","own","parts"] []) (kT:PySem.W.keepIn K (.ref g)=true) (mT:mg "_law_targets"=some (.ref g))
  (GR:ay P w K mg base CX0 2 f2 fd2 ["sorts","own","parts","mode","j"] gu) (bR:Binds K fd2 ["sorts","own","parts","mode","j"] []) (kR:PySem.W.keepIn K (.ref f2)=true) (mR:mg "_law_readings"=some (.ref f2))
  (GF: ∀ ρ,ay P w K mg base CX0 4 f3 fd3 ["tape","readings"] (eU ρ)) (bF:Binds K fd3 ["tape","readings"] []) (kF:PySem.W.keepIn K (.ref f3)=true) (mF:mg "_law_formula"=some (.ref f3)):
  ay P w K mg base CX0 5 f fd ["tape","sorts","name","own","parts","mode"] fw:=by
 have GF':ay P w K mg base CX0 4 f3 fd3 ["tape","readings"] (fun vs H Q E=> ∃ ρ,eU ρ vs H Q E):=⟨fun vs H Q E ⟨ρ,h⟩=>(GF ρ).len vs H Q E h,fun A outer s H args us vs Q E hr he hb hv ⟨ρ,h⟩=>(GF ρ).run A outer s H args us vs Q E hr he hb hv h⟩
 refine F.ok scLForm (fun vs H Q E h=>?_) (fun cdv A outer s H vs Q E hr h=>?_)
 ·obtain ⟨tp,sa,pa,ss,nm,o,qs,mode,rfl,_⟩:=h
  rfl
 obtain ⟨tp,sa,pa,ss,nm,o,qs,mode,rfl,hT,hsa,hok,ho,hpa,hqs,hql,q⟩:=h
 refine ⟨_,af (aq (i:=6) scLForm.nd rfl (Or.inl rfl) (bU ae))
  (af (aq (i:=7) scLForm.nd rfl (Or.inl rfl) (am GT (hr.mono (show 1<=4 by decide)) rfl mT kT bT .nil aw (ac (pv 1) (ac (pv 3) (ac (pv 4) ae)))))
  (af (ce PassesOwn.never rfl (bM rfl G.range (ac (ar av rfl G.len PySem.boot_len (ac (pv 7) ae)) ae)) (aL (i:=8) scLForm.nd rfl (Or.inl rfl))
   (af (aq (i:=9) scLForm.nd rfl (Or.inl rfl) (am GR (hr.mono (show 2<=4 by decide)) rfl mR kR bR .nil aw (ac (pv 1) (ac (pv 3) (ac (pv 4) (ac (pv 5) (ac (pv 8) ae)))))))
   (al (dn (ig PySem.F.plainAttrs_list PySem.F.slot_list_append PySem.F.type_list_append cv (pv 6) (ac
    (aY (ac (ax aE (ax aQ (pv 7) (pv 8) (fun _ _=>rfl)) ag (fun _ _=>rfl)) (ac (ax aE (ax aQ (pv 7) (pv 8) (fun _ _=>rfl)) ag (fun _ _=>rfl))
     (ac (am GF' hr rfl mF kF bF .nil aw (ac (pv 0) (ac (pv 9) ae))) ae)))) ae))))))
  (al (aJ (aY (ac (pv 2) (ac (pv 3) (ac (pv 4) (ac (bc aU rfl G.tuple (by decide +kernel) (ac (pv 6) ae)) ae))))))))),?_⟩
 refine ⟨(by show 0<=sizeLine;decide),fun rl hrl=>?_⟩
 have s0:=ai hrl (.lst [])
 have g0:(upd H rl (.lst [])) rl=some (.lst []):=ad
 have nrt:=dU hT hrl
 have t0:=hT.new (o:=.lst []) hrl
 generalize upd H rl (.lst [])=H0 at s0 g0 t0 ⊢
 refine ⟨_,rfl,_,rfl,_,rfl,sa,pa,ss,o,qs,rfl,hsa.mono (aK s0),hok,ho,s0 _ _ hpa,hqs,hql,fun tl zt H1 htl s1 gtl hTt=>?_⟩
 have S1:Same H H1:=s0.trans s1
 have grl1:=s1 _ _ g0
 have tt1:=t0.same s1
 have ntt:tl≠tp:=dU t0 htl
 have nrl:rl≠tl:=ak g0 htl
 have lt12:=gW hok.2.2.2.2 ho hqs hql
 have lzt:zt.length=(dW o qs).length:=by rw [<- hTt.len,List.length_map]
 refine ⟨_,rfl,tl,zt,rfl,.inl (SqL.of gtl),_,rfl,by omega,by omega,?_⟩
 refine cV (fun i σ H'=> ∃ o8 o9 rv rules,σ=[some (.ref tp),some (.ref sa),some (.str nm),some (.str o.name),some (.ref pa),some (.int mode),some (.ref rl),some (.ref tl),o8,o9]/\Kp tp H H'/\Tp H' tp/\H' tl=some (.lst zt)/\Tups H' ((dW o qs).map tgV) zt/\
   H' rl=some (.lst rv)/\RepRs H' rules rv/\rules.map (fun r=>(r.pl,r.word))=(dW o qs).take i/\ ∀ (j:Nat) r,rules[j]? =some r->r.fm.wfp (fun f=>f∈rds o qs mode j)/\r.fm.size<=15)
  ⟨none,none,[],[],rfl,Kp.refl.same S1,tt1,gtl,hTt,grl1,.nil,rfl,fun j r h=>by cases h⟩ ?_ ?_
 ·rintro i σ H2 hi ⟨o8,o9,rv,rules,rfl,k2,tt2,gtl2,hTt2,grl2,hRr,hmap,hfm⟩
  have hi':i< (dW o qs).length:=by omega
  have tk2:=k2.tk hT
  have lrules:rules.length=i:=by
   have:=congrArg List.length hmap
   rw [List.length_map,List.length_take]at this
   omega
  have lrv:rv.length=i:=by rw [<- hRr.len];exact lrules
  refine ⟨_,rfl,_,rfl,_,rfl,_,rfl,_,rfl,sa,pa,ss,o,qs,mode,0+ (i:Int),rfl,hsa.mono tk2,hok,ho,tk2 _ _ hpa,hqs,hql,by omega,by omega,fun rdl zr H3 hrdl s3 grdl hTr=>?_⟩
  have tt3:=tt2.same s3
  have grl3:=s3 _ _ grl2
  have gtl3:=s3 _ _ gtl2
  have hTt3:=hTt2.mono (aK s3)
  have nrdt:rdl≠tp:=dU tt2 hrdl
  obtain ⟨t,ht⟩: ∃ t,(dW o qs)[i]? =some t:=⟨(dW o qs)[i],List.getElem?_eq_getElem hi'⟩
  obtain ⟨x,hx⟩: ∃ x,zt[i]? =some x:=⟨zt[i]'(by omega),List.getElem?_eq_getElem (by omega)⟩
  obtain ⟨ys,hys,a,rfl,ha⟩:=aP hTt3 hx
  have eys:ys=tgV t:=by
   rw [List.getElem?_map,ht]at hys
   exact (Option.some.inj hys).symm
  subst eys
  have eat:atI zt (0+ (i:Int))=some (.ref a):=by
   rw [Int.zero_add]
   exact aG hx
  refine ⟨_,rfl,.inl ⟨rfl,_,SqL.of grl3⟩,?_⟩
  refine ⟨_,rfl,_,rfl,tl,_,_,_,rfl,rfl,SqL.of gtl3,eat,a,_,0,.int t.1,rfl,rfl,SqT.of ha,dF,?_⟩
  refine ⟨_,rfl,_,rfl,tl,_,_,_,rfl,rfl,SqL.of gtl3,eat,a,_,1,.str t.2,rfl,rfl,SqT.of ha,aG (j:=1) rfl,?_⟩
  have lzr:zr.length<=24:=by
   rw [<- hTr.len,List.length_map]
   exact qM hok.2.2.2.2 ho hqs hql
  refine ⟨_,rfl,_,rfl,fun fm=>fm∈rds o qs mode (0+ (i:Int)),tp,rdl,zr,rfl,tt3,nrdt,grdl,by omega,qL hok.2.2.2.2 ho hqs hql hTr,fun v fm H4 rp wf sz k4 tt4=>?_⟩
  have k24:Kp tp H2 H4:=(Kp.refl.same s3).trans k4
  have grl4:=k24 _ _ grl2 nrt
  have gtl4:=k24 _ _ gtl2 ntt
  refine ⟨(by show 3<=sizeLine;decide),fun p5 hp5=>?_⟩
  have s5:=ai hp5 (.tup [.int t.1,.str t.2,v])
  have g5:(upd H4 p5 (.tup [.int t.1,.str t.2,v])) p5=some (.tup [.int t.1,.str t.2,v]):=ad
  have tt5:=tt4.same s5
  generalize upd H4 p5 (.tup [.int t.1,.str t.2,v])=H5 at s5 g5 tt5 ⊢
  have k25:Kp tp H2 H5:=k24.same s5
  have grl5:=s5 _ _ grl4
  refine ⟨rl,rv,.ref p5,rfl,rfl,grl5,aF (by omega),?_⟩
  have tk:TK H5 (upd H5 rl (.lst (rv++[.ref p5]))):=TK.lst grl5
  have tk26:TK H2 (upd H5 rl (.lst (rv++[.ref p5]))):=(k25.tk tt2).trans tk
  refine ⟨_,_,rv++[.ref p5],rules++[⟨t.1,t.2,fm⟩],rfl,?_,?_,?_,hTt2.mono tk26,ad,?_,?_,?_⟩
  ·intro b oo hb hbn
   rw [ah (ak hb hrl)]
   exact k25 _ _ (k2 _ _ hb hbn) hbn
  ·obtain ⟨t9,e9⟩:=tt5
   exact ⟨t9,by rw [ah (Ne.symm nrt)];exact e9⟩
  ·rw [ah (Ne.symm nrl)]
   exact s5 _ _ gtl4
  ·exact Paired.snoc (hRr.mono tk26) ⟨p5,v,rfl,tk _ _ g5,rp.mono ((aK s5).trans tk)⟩
  ·rw [List.map_append,hmap,List.take_add_one,ht]
   rfl
  ·intro j r hj
   by_cases c:j<i
   ·rw [List.getElem?_append_left (by omega)]at hj
    exact hfm j r hj
   ·rw [List.getElem?_append_right (by omega),lrules]at hj
    have hji:j=i:=by
     by_cases c2:j=i
     ·exact c2
     ·have:j-i≠0:=by omega
      rw [List.getElem?_eq_none (by show 1<=j-i;omega)]at hj
      cases hj
    subst hji
    rw [Nat.sub_self]at hj
    have:r=⟨t.1,t.2,fm⟩:=(Option.some.inj hj).symm
    subst this
    rw [Int.zero_add]at wf
    exact ⟨wf,sz⟩
 ·rintro σ H2 ⟨o8,o9,rv,rules,rfl,k2,tt2,gtl2,hTt2,grl2,hRr,hmap,hfm⟩
  have tk2:=k2.tk hT
  rw [List.take_of_length_le (by omega)]at hmap
  refine ⟨_,rfl,_,rfl,_,rfl,_,rfl,rl,rv,rfl,.inl ⟨SqL.of grl2,fun p3 hp3=>?_⟩⟩
  have s3:=ai hp3 (.tup rv)
  have g3:(upd H2 p3 (.tup rv)) p3=some (.tup rv):=ad
  generalize upd H2 p3 (.tup rv)=H3 at s3 g3 ⊢
  refine ⟨(by show 4<=sizeLine;decide),fun p4 hp4=>?_⟩
  have s4:=ai hp4 (.tup [.str nm,.str o.name,.ref pa,.ref p3])
  refine q (.ref p4) rules _ ⟨p4,pa,p3,rv,rfl,ad,s4 _ _ (s3 _ _ (tk2 _ _ hpa)),s4 _ _ g3,hRr.mono (aK (s3.trans s4))⟩ ⟨hmap,hfm⟩ (k2.same (s3.trans s4)) (tt2.same (s3.trans s4))
structure Bk where
 wheel:Int
 sorts:List Srt
 forms:List Frm
noncomputable def RepFs (H:Hp) (fs:List Frm) (vs:List V):Prop:=Paired (RepF H) fs vs
theorem RepFs.mono {H H':Hp} (t:TK H H') {fs:List Frm} {vs:List V} (h:RepFs H fs vs):RepFs H' fs vs:=Paired.mapP h fun _ _ r=>r.mono t
theorem RepFs.len {H:Hp} {fs:List Frm} {vs:List V} (h:RepFs H fs vs):fs.length=vs.length:=Paired.length h
noncomputable def RepB (H:Hp) (b:Bk) (v:V):Prop:= ∃ a sa fa fv,v=.ref a/\H a=some (.tup [.int b.wheel,.ref sa,.ref fa])/\SrtsAt H sa b.sorts/\H fa=some (.tup fv)/\RepFs H b.forms fv
theorem RepB.mono {H H':Hp} (t:TK H H') {b:Bk} {v:V}:RepB H b v->RepB H' b v:=fun ⟨a,sa,fa,fv,e,h1,h2,h3,h4⟩=>⟨a,sa,fa,fv,e,t _ _ h1,h2.mono t,t _ _ h3,h4.mono t⟩
noncomputable def sd (ss:List Srt) (mode:Int) (fr:Frm):Prop:=fr.own∈ss/\(∀ q∈fr.parts,q∈ss)/\fr.parts.length<=3/\mE fr.own fr.parts mode fr.rules
structure BookOk (b:Bk):Prop where
 so:cU b.sorts
 wh:2<=b.wheel/\b.wheel<=10^30
 few:b.forms.length<=10
 more:b.sorts.length<=b.forms.length
 nd:(b.forms.map Frm.name).Nodup
 wd: ∀ fr∈b.forms,cW fr.name=true
 fo: ∃ mode:Int,(mode=0\/mode=1\/mode=2)/\ ∀ fr∈b.forms,sd b.sorts mode fr
 nil: ∃ fr,fr∈b.forms/\fr.parts=[]
theorem SqL.keep {K:PySem.W.Frag} {H H':Hp} {a:Addr} {xs:List V} (h:SqL K H a xs) (k: ∀ o,H a=some o->H' a=some o):SqL K H' a xs:=by
 rcases h with (h | ⟨o,h⟩) | h
 ·exact .inl (.inl (k _ h))
 ·exact .inl (.inr ⟨o,k _ h⟩)
 ·exact .inr h
theorem gK {H:Hp} {ss:List Srt} {xs:List V} (h:RepSs H ss xs) {d:Int} (h0:0<=d) (h1:d<xs.length): ∃ q a b c,ss[d.toNat]? =some q/\atI xs d=some (.ref a)/\H a=some (.tup [.str (Srt.name q),b,c]):=by
 obtain ⟨x,ex,ex2⟩:=jJ h0 h1
 obtain ⟨q,hq,a,b,c,rfl,ha,_⟩:=aP h ex2
 exact ⟨q,a,.ref b,.ref c,hq,ex,ha⟩
noncomputable def vg (K:PySem.W.Frag):List V->Hp->VK->Prop:=fun xs H Q=> ∃ p ys,xs=[.ref p]/\(SqL K H p ys\/SqT K H p ys)/\Q (.int ys.length) H
noncomputable def oR (K:PySem.W.Frag):Sp:=fun vs H Q _=> ∃ (sc:Addr) (ns:List Int) (st:Int) (few:Bool),vs=[.ref sc,.int st,.bl few]/\SqL K H sc (ns.map V.int)/\ns.length<=63/\0<=st/\st<900/\ ∀ v bk H',RepB H' bk v->BookOk bk->Same H H'->Q v H'
noncomputable def jG (s:Stmt):List Stmt:=match s with
 | .For _ _ b _ _=>b
 | _=>[]
noncomputable def bkFor:List Stmt:=jG ((bz dP).getD 8 (.Pass ⟨0,0,0,0⟩))
noncomputable def kU (H:Hp) (sc hd sa nl fl:Addr) (st wh mode gr mo:Int) (few:Bool) (ss:List Srt) (ws:List Str) (i:Nat) (σ:St) (H':Hp):Prop:= ∃ o11 o12 o13 o14 o15 fv frs,
 σ=[some (.ref sc),some (.int st),some (.bl few),some (.ref hd),some (.int wh),some (.int mode),some (.int gr),some (.int mo),some (.ref sa),some (.ref nl),some (.ref fl),o11,o12,o13,o14,o15]/\
 Same H H'/\SrtsAt H' sa ss/\H' nl=some (.lst (ws.map V.str))/\H' fl=some (.lst fv)/\RepFs H' frs fv/\frs.length=i/\frs.map Frm.name=ws.take i/\(∀ fr∈frs,sd ss mode fr)/\
 (∀ k,k<i->k<ss.length->(frs[k]?).map Frm.own=ss[k]?)/\ ∀ fr,frs[0]? =some fr->fr.parts=[]
theorem oS {α:Type} {l:List α} {x y:α} {j:Nat} (h:(l++[x])[j]? =some y):(j<l.length/\l[j]? =some y)\/(j=l.length/\y=x):=by
 by_cases c:j<l.length
 ·rw [List.getElem?_append_left c]at h
  exact .inl ⟨c,h⟩
 ·rw [List.getElem?_append_right (by omega)]at h
  by_cases c2:j-l.length=0
  ·rw [c2]at h
   exact .inr ⟨by omega,(Option.some.inj h).symm⟩
  ·rw [List.getElem?_eq_none (by show 1<=j-l.length;omega)]at h
   cases h
noncomputable abbrev gD:List Str:=["script","start","few","head","wheel","mode","grown","more","sorts","names","forms","k","tape","own","many","parts"]
theorem scBook:aI gD ["script","start","few"] (aj dP):=fsc
theorem qr {cdv:Value} {A:Around} {outer:List Env} {s:Shared} {H H0:Hp} {E:XK} (G:Gb mg)
  (GD:ay P w K mg base CX0 1 g gd ["tape","many"] cJ) (bD:Binds K gd ["tape","many"] []) (kD:PySem.W.keepIn K (.ref g)=true) (mD:mg "_law_digit"=some (.ref g))
  (GF:ay P w K mg base CX0 5 f2 fd2 ["tape","sorts","name","own","parts","mode"] fw) (bF:Binds K fd2 ["tape","sorts","name","own","parts","mode"] []) (kF:PySem.W.keepIn K (.ref f2)=true) (mF:mg "_law_form"=some (.ref f2))
  (hr:Room 5 (dv CX0 P w K mg base gD "_law_book" (aj dP) f cdv A outer s H0 E).nox.A):
  ∃ t,PSs (dv CX0 P w K mg base gD "_law_book" (aj dP) f cdv A outer s H0 E).nox (bkFor.drop 5) t/\
   ∀ (sc hd sa nl fl:Addr) (st wh mode gr mo:Int) (few:Bool) (ss:List Srt) (ws:List Str),cU ss->ws.length=10->H fl=none->nl≠fl-> ∀ (D:eP) (i:Nat) (σ:St) (H2 H5:Hp) (tp:Addr) (o:Srt) (m:Int) (o15:Option V),kU H sc hd sa nl fl st wh mode gr mo few ss ws i σ H2->i<10->H2 tp=none->Same H2 H5->Tp H5 tp->o∈ss->(i<ss.length->ss[i]? =some o)->0<=m->m<=3->(i=0->m=0)->
    (∀ σ' H',kU H sc hd sa nl fl st wh mode gr mo few ss ws (i+1) σ' H'->D.nx σ' H')->
    t D [some (.ref sc),some (.int st),some (.bl few),some (.ref hd),some (.int wh),some (.int mode),some (.int gr),some (.int mo),some (.ref sa),some (.ref nl),some (.ref fl),some (.int (0+ (i:Int))),some (.ref tp),some (.str o.name),some (.int m),o15] H5:=by
 have hr1:=hr.mono (show 1<=5 by decide)
 refine ⟨_,af (aq (i:=15) scBook.nd rfl (Or.inl rfl) (bc aU rfl G.tuple (by decide +kernel) (ac
   (cA (sc0:=aj dP) (N0:=gD) (ys:=["sorts","tape"]) (fr:=[8,12]) rfl (bM rfl G.range (ac (pv 14) ae)) rfl rfl
    cok
    (fun C s H ex=>ax (r:=iO K) aE (ax (r:=iO K) aE (pv 1) (am GD hr1 rfl mD kD bD .nil aw (ac (pv 2) (ac (ar (r:=vg K) av rfl G.len PySem.boot_len (ac (pv 1) ae)) ae))) (fun _ _=>rfl)) ag (fun _ _=>rfl))) ae)))
  (al (dn (ig PySem.F.plainAttrs_list PySem.F.slot_list_append PySem.F.type_list_append cv (pv 10) (ac
   (am GF hr rfl mF kF bF .nil aw (ac (pv 12) (ac (pv 8) (ac (ax aQ (pv 9) (pv 11) (fun _ _=>rfl)) (ac (pv 13) (ac (pv 15) (ac (pv 5) ae))))))) ae)))),?_⟩
 rintro sc hd sa nl fl st wh mode gr mo few ss ws hok hws hfl0 hnf D i σ H2 H5 tp o m o15 ⟨o11,o12,o13,o14,o15',fv,frs,rfl,sm,hsa,gnl,gfl,hF,hfl,hnm,hfok,hown,hnil⟩ hi htp s5 tt5 ho hoi hm0 hm3 hmi hD
 obtain ⟨xs,gsa,hR⟩:=hsa.mono (aK s5)
 have lxs:=hR.len
 refine ⟨_,rfl,m,rfl,by omega,by omega,?_⟩
 refine eL (n:=m.toNat) (R:=fun i v=>v=.int (0+i)) (by omega) jC fG gO
  (fun p n zs H'=>Kp tp H5 H'/\Tp H' tp/\H' p=some (.lst zs)/\p≠tp/\ ∃ qs,zs=a8 qs/\qs.length=n/\ ∀ q∈qs,q∈ss) ?_ ?_ ?_ ?_
 ·intro p hp
  exact ⟨Kp.refl.new hp,tt5.new hp,ad,dU tt5 hp,[],rfl,rfl,fun q h=>by cases h⟩
 ·rintro p n zs H' ⟨_,_,gp,_,qs,rfl,hl,_⟩
  exact ⟨gp,by unfold a8;rw [List.length_map];exact hl⟩
 ·rintro p n zs H' v k hp hn rfl ⟨k6,tt6,gp,hpn,qs,rfl,hl,hqs⟩ hk
  have tk6:=k6.tk tt5
  have h1:=hok.1
  refine ⟨_,rfl,_,rfl,_,rfl,sa,_,rfl,.inr (SqT.of (tk6 _ _ gsa)),tp,_,rfl,tt6,by omega,by have:=hok.2.1;omega,fun d t hd0 hd1=>?_⟩
  obtain ⟨q,a,b,c,hq,eat,ha⟩:=gK hR hd0 hd1
  have k7:Kp tp H5 (upd H' tp (.lst [.int t])):=k6.trans Kp.tape
  have tk7:=k7.tk tt5
  refine ⟨sa,xs,d,.ref a,rfl,rfl,SqT.of (tk7 _ _ gsa),eat,a,_,0,_,rfl,rfl,SqT.of (tk7 _ _ ha),dF,?_⟩
  have gp7:(upd H' tp (.lst [.int t])) p=some (.lst (a8 qs)):=by rw [ah hpn];exact gp
  refine hk _ _ gp7 ⟨?_,⟨t,?_⟩,ad,hpn,qs++[q],?_,?_,?_⟩
  ·intro b' o' hb hbn
   rw [ah (ak hb hp)]
   exact k7 _ _ hb hbn
  ·rw [ah (Ne.symm hpn),ad]
  ·unfold a8;rw [List.map_append];rfl
  ·rw [List.length_append,hl];rfl
  ·intro x hx
   rw [List.mem_append,List.mem_singleton]at hx
   rcases hx with h | rfl
   ·exact hqs x h
   ·exact List.mem_of_getElem? hq
 ·rintro p zs H6 hp ⟨k6,tt6,gp,hpn,qs,rfl,hl,hqs⟩
  refine ⟨p,_,rfl,.inl ⟨SqL.of gp,fun pa hpa=>?_⟩⟩
  have s7:=ai hpa (.tup (a8 qs))
  have g7:(upd H6 pa (.tup (a8 qs))) pa=some (.tup (a8 qs)):=ad
  have tt7:=tt6.same s7
  generalize upd H6 pa (.tup (a8 qs))=H7 at s7 g7 tt7 ⊢
  have k27:Kp tp H2 H7:=((Kp.refl.same s5).trans k6).same s7
  have S27:Same H2 H7:=fun b oo h=>k27 b oo h (ak h htp)
  have gfl7:=S27 _ _ gfl
  obtain ⟨nm,enm⟩: ∃ nm,ws[i]? =some nm:=⟨ws[i]'(by omega),List.getElem?_eq_getElem (by omega)⟩
  have eat:atI (ws.map V.str) (0+ (i:Int))=some (V.str nm):=by
   rw [Int.zero_add]
   exact aG (by rw [List.getElem?_map,enm];rfl)
  refine ⟨_,rfl,.inl ⟨rfl,_,SqL.of gfl7⟩,?_⟩
  refine ⟨_,rfl,_,rfl,_,rfl,_,rfl,nl,_,_,_,rfl,rfl,SqL.of (S27 _ _ gnl),eat,_,rfl,_,rfl,_,rfl,tp,sa,pa,ss,nm,o,qs,mode,rfl,tt7,hsa.mono (aK S27),hok,ho,g7,hqs,by omega,fun v rules H8 rf rok k8 tt8=>?_⟩
  have S28:Same H2 H8:=fun b oo h=>k8 b oo (S27 b oo h) (ak h htp)
  have gfl8:=S28 _ _ gfl
  have lfv:=hF.len
  refine ⟨fl,fv,v,rfl,rfl,gfl8,aF (by omega),?_⟩
  have tk:TK H8 (upd H8 fl (.lst (fv++[v]))):=TK.lst gfl8
  have tk2:TK H2 (upd H8 fl (.lst (fv++[v]))):=(aK S28).trans tk
  refine hD _ _ ⟨_,_,_,_,_,fv++[v],frs++[⟨nm,o,qs,rules⟩],rfl,?_,hsa.mono tk2,?_,ad,?_,?_,?_,?_,?_,?_⟩
  ·intro b oo h
   rw [ah (ak h hfl0)]
   exact S28 _ _ (sm _ _ h)
  ·rw [ah hnf]
   exact S28 _ _ gnl
  ·exact Paired.snoc (hF.mono tk2) (rf.mono tk)
  ·rw [List.length_append,hfl];rfl
  ·rw [List.map_append,hnm,List.take_add_one,enm];rfl
  ·intro fr hfr
   rw [List.mem_append,List.mem_singleton]at hfr
   rcases hfr with h | rfl
   ·exact hfok fr h
   ·exact ⟨ho,hqs,by show qs.length<=3;omega,rok⟩
  ·intro k hk hks
   by_cases c:k<i
   ·rw [List.getElem?_append_left (by omega)]
    exact hown k c hks
   ·have:k=i:=by omega
    subst this
    rw [List.getElem?_append_right (by omega),hfl,Nat.sub_self]
    show some o=_
    rw [hoi hks]
  ·intro fr hfr
   rcases oS hfr with ⟨h,e⟩ | ⟨h,e⟩
   ·exact hnil fr e
   ·subst e
    have:qs.length=0:=by rw [hl,hmi (by omega)];rfl
    exact List.eq_nil_of_length_eq_zero this
theorem rg {d:Int} (h0:0<=d) (h1:d<5): ∃ m:Int,atI [V.int 2,.int 1,.int 3,.int 2,.int 0] d=some (.int m)/\0<=m/\m<=3:=by
 have h5:d=0\/d=1\/d=2\/d=3\/d=4:=by omega
 rcases h5 with h | h | h | h | h <;> subst h <;> exact ⟨_,rfl,by decide,by decide⟩
theorem rd {d:Int} (h0:0<=d) (h1:d<5): ∃ m:Int,atI [V.int 0,.int 0,.int 1,.int 2,.int 2] d=some (.int m)/\(m=0\/m=1\/m=2):=by
 have h5:d=0\/d=1\/d=2\/d=3\/d=4:=by omega
 rcases h5 with h | h | h | h | h <;> subst h <;> exact ⟨_,rfl,by decide⟩
theorem q9 {d:Int} (h0:0<=d) (h1:d<3): ∃ m:Int,atI [V.int 3,.int 4,.int 7] d=some (.int m)/\3<=m/\m<=7:=by
 have h5:d=0\/d=1\/d=2:=by omega
 rcases h5 with h | h | h <;> subst h <;> exact ⟨_,rfl,by decide,by decide⟩
theorem oB {z d:Int} (hz0:0<=z) (hz1:z<1000) (h0:0<=d) (h1:d<6): ∃ m:Int,atI [V.int 2,.int 7,.int 10,.int 97,.int (10^ (30:Int).toNat),.int (2+z)] d=some (.int m)/\2<=m/\m<=10^30:=by
 have e:(10:Int) ^ (30:Int).toNat=10^30:=rfl
 have b:(2000:Int)<=10^30:=by decide +kernel
 have h5:d=0\/d=1\/d=2\/d=3\/d=4\/d=5:=by omega
 rcases h5 with h | h | h | h | h | h <;> subst h
 ·exact ⟨2,rfl,by omega,by omega⟩
 ·exact ⟨7,rfl,by omega,by omega⟩
 ·exact ⟨10,rfl,by omega,by omega⟩
 ·exact ⟨97,rfl,by omega,by omega⟩
 ·exact ⟨_,rfl,by rw [e];omega,by rw [e];omega⟩
 ·exact ⟨_,rfl,by omega,by omega⟩
theorem qt {cdv:Value} {A:Around} {outer:List Env} {s:Shared} {H H0:Hp} {E:XK} (G:Gb mg)
  (GD:ay P w K mg base CX0 1 g gd ["tape","many"] cJ) (bD:Binds K gd ["tape","many"] []) (kD:PySem.W.keepIn K (.ref g)=true) (mD:mg "_law_digit"=some (.ref g))
  (GF:ay P w K mg base CX0 5 f2 fd2 ["tape","sorts","name","own","parts","mode"] fw) (bF:Binds K fd2 ["tape","sorts","name","own","parts","mode"] []) (kF:PySem.W.keepIn K (.ref f2)=true) (mF:mg "_law_form"=some (.ref f2))
  (hr:Room 5 (dv CX0 P w K mg base gD "_law_book" (aj dP) f cdv A outer s H0 E).nox.A):
  ∃ t,PSs (dv CX0 P w K mg base gD "_law_book" (aj dP) f cdv A outer s H0 E).nox (bkFor.drop 3) t/\
   ∀ (sc hd sa nl fl:Addr) (st wh mode gr mo:Int) (few:Bool) (ss:List Srt) (ws:List Str),cU ss->ws.length=10->H fl=none->nl≠fl-> ∀ (D:eP) (i:Nat) (σ:St) (H2 H5:Hp) (tp:Addr) (o:Srt) (o14 o15:Option V),kU H sc hd sa nl fl st wh mode gr mo few ss ws i σ H2->i<10->H2 tp=none->Same H2 H5->Tp H5 tp->o∈ss->(i<ss.length->ss[i]? =some o)->
    (∀ σ' H',kU H sc hd sa nl fl st wh mode gr mo few ss ws (i+1) σ' H'->D.nx σ' H')->
    t D [some (.ref sc),some (.int st),some (.bl few),some (.ref hd),some (.int wh),some (.int mode),some (.int gr),some (.int mo),some (.ref sa),some (.ref nl),some (.ref fl),some (.int (0+ (i:Int))),some (.ref tp),some (.str o.name),o14,o15] H5:=by
 have hr1:=hr.mono (show 1<=5 by decide)
 obtain ⟨t2,ht2,hread2⟩:=qr (cdv:=cdv) (A:=A) (outer:=outer) (s:=s) (H:=H) (H0:=H0) (E:=E) (f:=f) G GD bD kD mD GF bF kF mF hr
 refine ⟨_,af (aq (i:=14) scBook.nd rfl (Or.inl rfl) (ax aQ (bU (ac ag (ac ag (ac ag (ac ag (ac ag ae)))))) (am GD hr1 rfl mD kD bD .nil aw (ac (pv 12) (ac ag ae))) (fun _ _=>rfl)))
  (af (aW (PW.pt (dQ (aD cB (pv 11) ag (aH _)) (el (PW.pt (er (aD cB (pv 6) ag (aH _)) (dl (aD i3 (pv 11) (ar av rfl G.len PySem.boot_len (ac (pv 8) ae)) (aH _))))))))
   (al (aq (i:=14) scBook.nd rfl (Or.inl rfl) ag)) aM) ht2),?_⟩
 intro sc hd sa nl fl st wh mode gr mo few ss ws hok hws hfl0 hnf D i σ H2 H5 tp o o14 o15 hB hi htp s5 tt5 ho hoi hD
 obtain ⟨xs,gsa,hR⟩:SrtsAt H5 sa ss:=by
  obtain ⟨_,_,_,_,_,_,_,_,_,h,_⟩:=hB
  exact h.mono (aK s5)
 refine ⟨(by show 5<=sizeLine;decide),fun p hp=>?_⟩
 have npt:=dU tt5 hp
 refine ⟨_,rfl,tp,5,rfl,tt5.new hp,by decide,by decide,fun d t hd0 hd1=>?_⟩
 obtain ⟨m,em,hm0,hm3⟩:=rg hd0 hd1
 refine ⟨p,_,d,.int m,rfl,rfl,SqL.of (by rw [ah npt];exact ad),em,?_⟩
 have k6:Kp tp H5 (upd (upd H5 p (.lst [.int 2,.int 1,.int 3,.int 2,.int 0])) tp (.lst [.int t])):=(Kp.refl.new hp).trans Kp.tape
 have tt6:Tp (upd (upd H5 p (.lst [.int 2,.int 1,.int 3,.int 2,.int 0])) tp (.lst [.int t])) tp:=⟨t,ad⟩
 generalize upd (upd H5 p (.lst [.int 2,.int 1,.int 3,.int 2,.int 0])) tp (.lst [.int t])=H6 at k6 tt6 ⊢
 have s6:Same H2 H6:=fun b oo h=>k6 b oo (s5 b oo h) (ak h htp)
 have gsa6:=k6.tk tt5 _ _ gsa
 refine ⟨_,rfl,rfl,_,rfl,?_⟩
 refine dE (fun c=>bd ?_) (fun c=>?_)
 ·exact hread2 sc hd sa nl fl st wh mode gr mo few ss ws hok hws hfl0 hnf D i σ H2 H6 tp o 0 o15 hB hi htp s6 tt6 ho hoi (by decide) (by decide) (fun _=>rfl) hD
 have hne:i=0->m=0:=fun e=>by
  subst e
  exact absurd (decide_eq_true rfl) c
 refine ⟨_,rfl,rfl,_,rfl,?_⟩
 refine dE (fun c2=>?_) (fun c2=>bi ?_)
 ·refine ⟨_,rfl,_,rfl,sa,xs,rfl,.inr (SqT.of gsa6),_,_,rfl,rfl,_,rfl,?_⟩
  refine dE (fun c3=>?_) (fun c3=>?_)
  ·exact hread2 sc hd sa nl fl st wh mode gr mo few ss ws hok hws hfl0 hnf D i σ H2 H6 tp o 0 o15 hB hi htp s6 tt6 ho hoi (by decide) (by decide) (fun _=>rfl) hD
  ·exact hread2 sc hd sa nl fl st wh mode gr mo few ss ws hok hws hfl0 hnf D i σ H2 H6 tp o m o15 hB hi htp s6 tt6 ho hoi hm0 hm3 hne hD
 ·exact hread2 sc hd sa nl fl st wh mode gr mo few ss ws hok hws hfl0 hnf D i σ H2 H6 tp o m o15 hB hi htp s6 tt6 ho hoi hm0 hm3 hne hD
theorem rM {cdv:Value} {A:Around} {outer:List Env} {s:Shared} {H:Hp} {Q:VK} {E:XK} {sc:Addr} {ns:List Int} {st:Int} {few:Bool} (G:Gb mg)
  (GD:ay P w K mg base CX0 1 g gd ["tape","many"] cJ) (bD:Binds K gd ["tape","many"] []) (kD:PySem.W.keepIn K (.ref g)=true) (mD:mg "_law_digit"=some (.ref g))
  (GF:ay P w K mg base CX0 5 f2 fd2 ["tape","sorts","name","own","parts","mode"] fw) (bF:Binds K fd2 ["tape","sorts","name","own","parts","mode"] []) (kF:PySem.W.keepIn K (.ref f2)=true) (mF:mg "_law_form"=some (.ref f2))
  (GT:ay P w K mg base CX0 2 f3 fd3 ["script","k"] (lm K)) (bT:Binds K fd3 ["script","k"] []) (kT:PySem.W.keepIn K (.ref f3)=true) (mT:mg "_law_tape"=some (.ref f3))
  (hS:SqL K H sc (ns.map V.int)) (hns:ns.length<=63) (hst0:0<=st) (hst1:st<900) (q: ∀ v bk H',RepB H' bk v->BookOk bk->Same H H'->Q v H')
  (hr:Room 5 (dv CX0 P w K mg base gD "_law_book" (aj dP) f cdv A outer s H E).nox.A):
  ∃ t,PSs (dv CX0 P w K mg base gD "_law_book" (aj dP) f cdv A outer s H E).nox ((bz dP).drop 8) t/\
   ∀ (hd sa nl fl:Addr) (wh mode gr mo:Int) (ss:List Srt) (ws:List Str) (H5:Hp),cU ss->NamesAre 10 ws->2<=wh->wh<=10^30->(mode=0\/mode=1\/mode=2)->0<=mo->mo<=7->H fl=none->nl≠fl->H fl=none->
    Same H H5->SrtsAt H5 sa ss->H5 nl=some (.lst (ws.map V.str))->H5 fl=some (.lst [])->
    t {nx:=fun _ H'=>Q .non H',rt:=Q} [some (.ref sc),some (.int st),some (.bl few),some (.ref hd),some (.int wh),some (.int mode),some (.int gr),some (.int mo),some (.ref sa),some (.ref nl),some (.ref fl),none,none,none,none,none] H5:=by
 have hr1:=hr.mono (show 1<=5 by decide)
 have hr2:=hr.mono (show 2<=5 by decide)
 obtain ⟨t1,ht1,hread1⟩:=qt (cdv:=cdv) (A:=A) (outer:=outer) (s:=s) (H:=H) (H0:=H) (E:=E) (f:=f) G GD bD kD mD GF bF kF mF hr
 refine ⟨_,af (ce PassesOwn.never rfl (bM rfl G.range (ac (ar (jb rfl) rfl G.min (by decide +kernel) (ac ag (ac (au aS (ar av rfl G.len PySem.boot_len (ac (pv 8) ae)) (pv 7)) ae))) ae)) (aL (i:=11) scBook.nd rfl (Or.inl rfl))
   (af (aq (i:=12) scBook.nd rfl (Or.inr rfl) (am GT hr2 rfl mT kT bT .nil aw (ac (pv 0) (ac (au aS (au aS (pv 1) ag) (pv 11)) ae))))
   (af (aq (i:=13) scBook.nd rfl (Or.inl rfl) (ax aE (ax aE (pv 8) (au cg (pv 11) (ar av rfl G.len PySem.boot_len (ac (pv 8) ae))) (fun _ _=>rfl)) ag (fun _ _=>rfl)))
   (af (aW (aD uu (pv 11) (ar av rfl G.len PySem.boot_len (ac (pv 8) ae)) (aH _))
    (al (aq (i:=13) scBook.nd rfl (Or.inl rfl) (ax aE (ax aE (pv 8) (am GD hr1 rfl mD kD bD .nil aw (ac (pv 12) (ac (ar av rfl G.len PySem.boot_len (ac (pv 8) ae)) ae))) (fun _ _=>rfl)) ag (fun _ _=>rfl)))) aM) ht1))))
  (al (aJ (aY (ac (pv 4) (ac (pv 8) (ac (bc aU rfl G.tuple (by decide +kernel) (ac (pv 10) ae)) ae)))))),?_⟩
 intro hd sa nl fl wh mode gr mo ss ws H5 hok hN hw2 hw3 hmode hmo0 hmo7 hfl0 hnf _ S5 hsa gnl gfl
 obtain ⟨nLen,nNd,nWd⟩:=hN.ok (by decide)
 obtain ⟨xs,gsa,hR⟩:=hsa
 have lxs:=hR.len
 have l1:=hok.1
 have l4:=hok.2.1
 obtain ⟨n,en,hn1,hn2⟩: ∃ n:Int,(if (xs.length:Int) +mo<10 then (xs.length:Int) +mo else 10)=n/\(xs.length:Int)<=n/\n<=10:=⟨_,rfl,by split <;> omega,by split <;> omega⟩
 refine ⟨_,rfl,sa,xs,rfl,.inr (SqT.of gsa),_,rfl,_,_,rfl,rfl,_,_,rfl,?_⟩
 rw [en]
 refine ⟨n,rfl,by omega,by omega,?_⟩
 refine cV (fun i σ H'=>kU H sc hd sa nl fl st wh mode gr mo few ss ws i σ H')
  ⟨none,none,none,none,none,[],[],rfl,S5,⟨xs,gsa,hR⟩,gnl,gfl,.nil,rfl,rfl,fun _ h=>(by cases h),fun k h=>(by omega),fun fr h=>(by cases h)⟩ ?_ ?_
 ·intro i σ H6 hi hB
  have hB':=hB
  obtain ⟨o11,o12,o13,o14,o15,fv,frs,rfl,S6,hsa6,gnl6,gfl6,hF6,_⟩:=hB'
  obtain ⟨xs6,gsa6,hR6⟩:=hsa6
  have lx6:=hR6.len
  refine ⟨_,rfl,_,rfl,_,_,rfl,rfl,_,rfl,_,_,rfl,rfl,sc,ns,_,rfl,SqL.keep hS (fun oo h=>S6 _ _ h),hns,by omega,by omega,fun tp t0 htp=>?_⟩
  have s7:=ai htp (.lst [.int t0])
  have tt7:Tp (upd H6 tp (.lst [.int t0])) tp:=⟨t0,ad⟩
  generalize upd H6 tp (.lst [.int t0])=H7 at s7 tt7 ⊢
  have gsa7:=s7 _ _ gsa6
  have hR7:=hR6.mono (aK s7)
  have hm0:0<=(0+ (i:Int)) % (xs6.length:Int):=Int.emod_nonneg _ (by omega)
  have hm1:(0+ (i:Int)) % (xs6.length:Int) <xs6.length:=Int.emod_lt_of_pos _ (by omega)
  obtain ⟨o,a,b,c,ho,eat,ha⟩:=gK hR7 hm0 hm1
  refine ⟨_,rfl,_,rfl,_,rfl,sa,xs6,rfl,.inr (SqT.of gsa7),_,_,rfl,rfl,(by show (0:Int) <xs6.length;omega),sa,xs6,_,.ref a,rfl,rfl,SqT.of gsa7,eat,a,_,0,_,rfl,rfl,SqT.of ha,dF,?_⟩
  refine ⟨_,rfl,_,rfl,sa,xs6,rfl,.inr (SqT.of gsa7),_,_,rfl,rfl,_,rfl,?_⟩
  refine dE (fun c=>?_) (fun c=>?_)
  ·have c':(xs6.length:Int)<=0+ (i:Int):=of_decide_eq_true c
   refine ⟨_,rfl,_,rfl,_,rfl,sa,xs6,rfl,.inr (SqT.of gsa7),tp,_,rfl,tt7,by omega,by omega,fun d t1 hd0 hd1=>?_⟩
   have k8:Kp tp H7 (upd H7 tp (.lst [.int t1])):=Kp.tape
   have tt8:Tp (upd H7 tp (.lst [.int t1])) tp:=⟨t1,ad⟩
   generalize upd H7 tp (.lst [.int t1])=H8 at k8 tt8 ⊢
   have tk8:=k8.tk tt7
   obtain ⟨o2,a2,b2,c2,ho2,eat2,ha2⟩:=gK hR7 hd0 hd1
   refine ⟨sa,xs6,d,.ref a2,rfl,rfl,SqT.of (tk8 _ _ gsa7),eat2,a2,_,0,_,rfl,rfl,SqT.of (tk8 _ _ ha2),dF,?_⟩
   exact hread1 sc hd sa nl fl st wh mode gr mo few ss ws hok nLen hfl0 hnf _ i _ H6 H8 tp o2 _ _ hB (by omega) htp (fun y oo h=>k8 y oo (s7 y oo h) (ak h htp)) tt8 (List.mem_of_getElem? ho2) (fun h=>by omega) (fun σ' H' h=>h)
  ·have c': ¬ (xs6.length:Int)<=0+ (i:Int):=fun e=>c (decide_eq_true e)
   have ei:((0+ (i:Int)) % (xs6.length:Int)).toNat=i:=by
    rw [Int.emod_eq_of_lt (by omega) (by omega)]
    omega
   rw [ei]at ho
   exact hread1 sc hd sa nl fl st wh mode gr mo few ss ws hok nLen hfl0 hnf _ i _ H6 H7 tp o _ _ hB (by omega) htp s7 tt7 (List.mem_of_getElem? ho) (fun _=>ho) (fun σ' H' h=>h)
 ·rintro σ H6 ⟨o11,o12,o13,o14,o15,fv,frs,rfl,S6,hsa6,gnl6,gfl6,hF6,lfr,hnm,hfok,hown,hnil⟩
  refine ⟨_,rfl,_,rfl,_,rfl,fl,fv,rfl,.inl ⟨SqL.of gfl6,fun fa hfa=>?_⟩⟩
  have s7:=ai hfa (.tup fv)
  have g7:(upd H6 fa (.tup fv)) fa=some (.tup fv):=ad
  generalize upd H6 fa (.tup fv)=H7 at s7 g7 ⊢
  refine ⟨(by show 3<=sizeLine;decide),fun pb hpb=>?_⟩
  have s8:=ai hpb (.tup [.int wh,.ref sa,.ref fa])
  have tk68:=aK (s7.trans s8)
  refine q (.ref pb) ⟨wh,ss,frs⟩ _ ⟨pb,sa,fa,fv,rfl,ad,hsa6.mono tk68,s8 _ _ g7,hF6.mono tk68⟩ ?_ (S6.trans (s7.trans s8))
  refine ⟨hok,⟨hw2,hw3⟩,?_,?_,?_,?_,⟨mode,hmode,hfok⟩,?_⟩
  ·show frs.length<=10
   omega
  ·show ss.length<=frs.length
   omega
  ·show (frs.map Frm.name).Nodup
   rw [hnm]
   exact nNd.sublist (List.take_sublist _ _)
  ·intro fr hfr
   refine nWd _ (List.mem_of_mem_take (i:=n.toNat) ?_)
   rw [<- hnm]
   exact List.mem_map_of_mem hfr
  ·have l0:0<frs.length:=by have:=hok.1;omega
   exact ⟨frs[0],List.getElem_mem l0,hnil _ (List.getElem?_eq_getElem l0)⟩
theorem qZ (F:Fun K "_law_book" "_law_book" dP f fd) (G:Gb mg)
  (GD:ay P w K mg base CX0 1 g gd ["tape","many"] cJ) (bD:Binds K gd ["tape","many"] []) (kD:PySem.W.keepIn K (.ref g)=true) (mD:mg "_law_digit"=some (.ref g))
  (GF:ay P w K mg base CX0 5 f2 fd2 ["tape","sorts","name","own","parts","mode"] fw) (bF:Binds K fd2 ["tape","sorts","name","own","parts","mode"] []) (kF:PySem.W.keepIn K (.ref f2)=true) (mF:mg "_law_form"=some (.ref f2))
  (GT:ay P w K mg base CX0 2 f3 fd3 ["script","k"] (lm K)) (bT:Binds K fd3 ["script","k"] []) (kT:PySem.W.keepIn K (.ref f3)=true) (mT:mg "_law_tape"=some (.ref f3))
  (GS:ay P w K mg base CX0 3 f4 fd4 ["tape","few"] l9) (bS:Binds K fd4 ["tape","few"] []) (kS:PySem.W.keepIn K (.ref f4)=true) (mS:mg "_law_sorts"=some (.ref f4))
  (GN:ay P w K mg base CX0 2 f5 fd5 ["tape","many"] hU) (bN:Binds K fd5 ["tape","many"] []) (kN:PySem.W.keepIn K (.ref f5)=true) (mN:mg "_law_names"=some (.ref f5)):
  ay P w K mg base CX0 6 f fd ["script","start","few"] (oR K):=by
 refine F.ok scBook (fun vs H Q E h=>?_) (fun cdv A outer s H vs Q E hr h=>?_)
 ·obtain ⟨sc,ns,st,few,rfl,_⟩:=h
  rfl
 obtain ⟨sc,ns,st,few,rfl,hS,hns,hst0,hst1,q⟩:=h
 have hr1:=hr.mono (show 1<=5 by decide)
 have hr2:=hr.mono (show 2<=5 by decide)
 have hr3:=hr.mono (show 3<=5 by decide)
 obtain ⟨t,ht,hread⟩:=rM (cdv:=cdv) (A:=A) (outer:=outer) (s:=s) (H:=H) (Q:=Q) (E:=E) (f:=f) (few:=few) G GD bD kD mD GF bF kF mF GT bT kT mT hS hns hst0 hst1 q hr
 refine ⟨_,af (aq (i:=3) scBook.nd rfl (Or.inl rfl) (am GT hr2 rfl mT kT bT .nil aw (pac (pv 0) (pac (pv 1) ae))))
  (af (aq (i:=4) scBook.nd rfl (Or.inl rfl) (ax aQ (bU (pac ag (pac ag (pac ag (pac ag (pac (au sQ ag ag) (pac (au aS ag (am GD hr1 rfl mD kD bD .nil aw (pac (pv 3) (pac ag ae)))) ae)))))))
   (am GD hr1 rfl mD kD bD .nil aw (pac (pv 3) (pac ag ae))) (fun _ _=>rfl)))
  (af (aq (i:=5) scBook.nd rfl (Or.inl rfl) (ax aQ (bU (pac ag (pac ag (pac ag (pac ag (pac ag ae)))))) (am GD hr1 rfl mD kD bD .nil aw (pac (pv 3) (pac ag ae))) (fun _ _=>rfl)))
  (af (aq (i:=6) scBook.nd rfl (Or.inl rfl) (am GD hr1 rfl mD kD bD .nil aw (pac (pv 3) (pac ag ae))))
  (af (aq (i:=7) scBook.nd rfl (Or.inl rfl) (am GD hr1 rfl mD kD bD .nil aw (pac (pv 3) (pac (ax aQ (bU (pac ag (pac ag (pac ag ae)))) (am GD hr1 rfl mD kD bD .nil aw (pac (pv 3) (pac ag ae))) (fun _ _=>rfl)) ae))))
  (af (aq (i:=8) scBook.nd rfl (Or.inr rfl) (am GS hr3 rfl mS kS bS .nil aw (pac (pv 3) (pac (pv 2) ae))))
  (af (aq (i:=9) scBook.nd rfl (Or.inl rfl) (am GN hr2 rfl mN kN bN .nil aw (pac (pv 3) (pac ag ae))))
  (af (aq (i:=10) scBook.nd rfl (Or.inl rfl) (bU ae)) ht))))))),?_⟩
 refine ⟨_,rfl,_,rfl,sc,ns,st,rfl,hS,hns,hst0,by omega,fun hd t0 hhd=>?_⟩
 have S1:=ai hhd (.lst [.int t0])
 have tt1:Tp (upd H hd (.lst [.int t0])) hd:=⟨t0,ad⟩
 generalize upd H hd (.lst [.int t0])=H1 at S1 tt1 ⊢
 refine ⟨10,30,rfl,rfl,⟨by decide,by decide,by decide +kernel⟩,?_⟩
 rw [show ((fun (i j:Int)=>V.int (i^j.toNat)) 10 30)=V.int (10^ (30:Int).toNat)from rfl]
 refine ⟨_,rfl,hd,1000,rfl,tt1,by decide,by decide,fun z t1 hz0 hz1=>⟨2,z,rfl,rfl,?_⟩⟩
 rw [show ((fun (i j:Int)=>V.int (i+j)) 2 z)=V.int (2+z)from rfl]
 have k2:Kp hd H1 (upd H1 hd (.lst [.int t1])):=Kp.tape
 have tt2:Tp (upd H1 hd (.lst [.int t1])) hd:=⟨t1,ad⟩
 generalize upd H1 hd (.lst [.int t1])=H2 at k2 tt2 ⊢
 refine ⟨(by show 6<=sizeLine;decide),fun p hp=>?_⟩
 have np:=dU tt2 hp
 refine ⟨_,rfl,hd,6,rfl,tt2.new hp,by decide,by decide,fun d t2 hd0 hd1=>?_⟩
 obtain ⟨wh,ewh,hw2,hw3⟩:=oB hz0 hz1 hd0 hd1
 refine ⟨p,_,d,.int wh,rfl,rfl,SqL.of (by rw [ah np];exact ad),ewh,?_⟩
 have k3:Kp hd H1 (upd (upd H2 p (.lst [.int 2,.int 7,.int 10,.int 97,.int (10^ (30:Int).toNat),.int (2+z)])) hd (.lst [.int t2])):=(k2.new hp).trans Kp.tape
 have tt3:Tp (upd (upd H2 p (.lst [.int 2,.int 7,.int 10,.int 97,.int (10^ (30:Int).toNat),.int (2+z)])) hd (.lst [.int t2])) hd:=⟨t2,ad⟩
 generalize upd (upd H2 p (.lst [.int 2,.int 7,.int 10,.int 97,.int (10^ (30:Int).toNat),.int (2+z)])) hd (.lst [.int t2])=H3 at k3 tt3 ⊢
 refine ⟨(by show 5<=sizeLine;decide),fun p hp=>?_⟩
 have np:=dU tt3 hp
 refine ⟨_,rfl,hd,5,rfl,tt3.new hp,by decide,by decide,fun d t2 hd0 hd1=>?_⟩
 obtain ⟨mode,emo,hmode⟩:=rd hd0 hd1
 refine ⟨p,_,d,.int mode,rfl,rfl,SqL.of (by rw [ah np];exact ad),emo,?_⟩
 have k4:Kp hd H1 (upd (upd H3 p (.lst [.int 0,.int 0,.int 1,.int 2,.int 2])) hd (.lst [.int t2])):=(k3.new hp).trans Kp.tape
 have tt4:Tp (upd (upd H3 p (.lst [.int 0,.int 0,.int 1,.int 2,.int 2])) hd (.lst [.int t2])) hd:=⟨t2,ad⟩
 generalize upd (upd H3 p (.lst [.int 0,.int 0,.int 1,.int 2,.int 2])) hd (.lst [.int t2])=H4 at k4 tt4 ⊢
 refine ⟨_,rfl,hd,2,rfl,tt4,by decide,by decide,fun gr t3 _ _=>?_⟩
 have k5:Kp hd H1 (upd H4 hd (.lst [.int t3])):=k4.trans Kp.tape
 have tt5:Tp (upd H4 hd (.lst [.int t3])) hd:=⟨t3,ad⟩
 generalize upd H4 hd (.lst [.int t3])=H5 at k5 tt5 ⊢
 refine ⟨_,rfl,(by show 3<=sizeLine;decide),fun p hp=>?_⟩
 have np:=dU tt5 hp
 refine ⟨_,rfl,hd,3,rfl,tt5.new hp,by decide,by decide,fun d t4 hd0 hd1=>?_⟩
 obtain ⟨mm,emm,hmm3,hmm7⟩:=q9 hd0 hd1
 refine ⟨p,_,d,.int mm,rfl,rfl,SqL.of (by rw [ah np];exact ad),emm,?_⟩
 have k6:Kp hd H1 (upd (upd H5 p (.lst [.int 3,.int 4,.int 7])) hd (.lst [.int t4])):=(k5.new hp).trans Kp.tape
 have tt6:Tp (upd (upd H5 p (.lst [.int 3,.int 4,.int 7])) hd (.lst [.int t4])) hd:=⟨t4,ad⟩
 generalize upd (upd H5 p (.lst [.int 3,.int 4,.int 7])) hd (.lst [.int t4])=H6 at k6 tt6 ⊢
 refine ⟨hd,mm,rfl,tt6,by omega,by omega,fun mo t5 hmo0 hmo1=>?_⟩
 have k7:Kp hd H1 (upd H6 hd (.lst [.int t5])):=k6.trans Kp.tape
 have tt7:Tp (upd H6 hd (.lst [.int t5])) hd:=⟨t5,ad⟩
 generalize upd H6 hd (.lst [.int t5])=H7 at k7 tt7 ⊢
 refine ⟨_,rfl,_,rfl,hd,few,rfl,tt7,fun sa ss xs H8 gsa hR hok k8 tt8=>?_⟩
 refine ⟨_,rfl,hd,10,rfl,tt8,by decide,by decide,fun nl ws H9 gnl hnl hN hnh k9 tt9=>?_⟩
 refine ⟨(by show 0<=sizeLine;decide),fun fl hfl=>?_⟩
 have k19:Kp hd H1 H9:=k7.trans (k8.trans k9)
 have S9:Same H H9:=fun b oo h=>k19 b oo (S1 b oo h) (ak h hhd)
 have s10:=ai hfl (.lst [])
 exact hread hd sa nl fl wh mode gr mo ss ws _ hok hN hw2 hw3 hmode hmo0 (by omega) (S9.free hfl) (ak gnl hfl) (S9.free hfl) (S9.trans s10) (SrtsAt.mono (aK s10) (SrtsAt.mono (k9.tk tt8) ⟨xs,gsa,hR⟩)) (s10 _ _ gnl) ad
noncomputable def cD (nm:Str):List Frm->Option Frm
 | []=>none
 | f::r=>match cD nm r with
  | some x=>some x
  | none=>if f.name=nm then some f else none
theorem fe (nm:Str) (f:Frm): ∀ l:List Frm,cD nm (l++[f])=if f.name=nm then some f else cD nm l
 | []=>by show (if f.name=nm then some f else none)=_;rfl
 | g::r=>by
  show (match cD nm (r++[f])with | some x=>some x | none=>if g.name=nm then some g else none)=_
  rw [fe nm f r]
  by_cases c:f.name=nm
  ·rw [if_pos c,if_pos c]
  ·rw [if_neg c,if_neg c];rfl
theorem kj {nm:Str} {f:Frm}: ∀ {l:List Frm},(l.map Frm.name).Nodup->f∈l->f.name=nm->cD nm l=some f
 | [],_,h,_=>by cases h
 | g::r,nd,h,e=>by
  rw [List.map_cons,List.nodup_cons]at nd
  have none_of: ∀ {l:List Frm},nm∉l.map Frm.name->cD nm l=none:=by
   intro l
   induction l with
   | nil=>intro _;rfl
   | cons x t ih=>
    intro hn
    rw [List.map_cons,List.mem_cons,not_or]at hn
    show (match cD nm t with | some x=>some x | none=>if x.name=nm then some x else none)=none
    rw [ih hn.2]
    exact if_neg (fun z=>hn.1 z.symm)
  rcases List.mem_cons.mp h with rfl | h
  ·show (match cD nm r with | some x=>some x | none=>if f.name=nm then some f else none)=some f
   rw [none_of (by rw [<- e];exact nd.1)]
   exact if_pos e
  ·show (match cD nm r with | some x=>some x | none=>if g.name=nm then some g else none)=some f
   rw [kj nd.2 h e]
noncomputable def uQ (H:Hp) (o:Option Frm) (v:V):Prop:=match o with
 | none=>v=.non
 | some f=>RepF H f v
noncomputable def hV:Sp:=fun vs H Q _=> ∃ bv bk nm,vs=[bv,.str nm]/\RepB H bk bv/\bk.forms.length<=1000/\ ∀ v,uQ H (cD nm bk.forms) v->Q v H
theorem scFormOf:aI ["book","name","found","form"] ["book","name"] (aj js):=fsc
theorem nF (F:Fun K "_law_form_of" "_law_form_of" js f fd):ay P w K mg base CX0 1 f fd ["book","name"] hV:=by
 refine F.ok scFormOf (fun vs H Q E h=>?_) (fun cdv A outer s H vs Q E hr h=>?_)
 ·obtain ⟨bv,bk,nm,rfl,_⟩:=h
  rfl
 obtain ⟨bv,bk,nm,rfl,⟨a,sa,fa,fv,rfl,ha,_,hfa,hF⟩,hl,q⟩:=h
 refine ⟨_,af (aq (i:=2) scFormOf.nd rfl (Or.inl rfl) cP)
  (af (ce PassesOwn.never rfl (bu (ax aE (pv 0) ag (fun _ _=>rfl))) (aL (i:=3) scFormOf.nd rfl (Or.inl rfl))
   (al (aW (aD cB (ax aE (pv 3) ag (fun _ _=>rfl)) (pv 1) (aH _)) (al (aq (i:=2) scFormOf.nd rfl (Or.inl rfl) (pv 3))) aM)))
  (al (aJ (pv 2)))),?_⟩
 refine ⟨_,rfl,a,_,2,.ref fa,rfl,rfl,SqT.of ha,aG (j:=2) rfl,fa,rfl,⟨fv,SqT.of hfa⟩,?_⟩
 refine fJ (xs:=fv) (fun i σ H'=> ∃ v o3,σ=[some (.ref a),some (.str nm),some v,o3]/\H'=H/\uQ H (cD nm (bk.forms.take i)) v)
  ⟨.non,none,rfl,rfl,rfl⟩ (fun i σ H' _ h=>by obtain ⟨_,_,_,rfl,_⟩:=h;exact SqT.of hfa) ?_ ?_
 ·rintro i x σ _ hx ⟨v,o3,rfl,rfl,hv⟩
  obtain ⟨fr,hfr,b,pa,ra,rv,rfl,hb,hrest⟩:=aP hF hx
  refine ⟨_,rfl,b,_,0,_,rfl,rfl,SqT.of hb,dF,_,rfl,rfl,_,rfl,?_⟩
  have e1:bk.forms.take (i+1)=bk.forms.take i++[fr]:=by rw [List.take_add_one,hfr];rfl
  refine dE (fun c=>?_) (fun c=>?_)
  ·have c':fr.name=nm:=V.str.inj (of_decide_eq_true c)
   refine ⟨_,rfl,_,_,rfl,rfl,?_⟩
   rw [e1,fe,if_pos c']
   exact ⟨b,pa,ra,rv,rfl,hb,hrest⟩
  ·have c': ¬ fr.name=nm:=fun e=>c (decide_eq_true (by rw [e]))
   refine ⟨_,_,rfl,rfl,?_⟩
   rw [e1,fe,if_neg c']
   exact hv
 ·rintro σ _ ⟨v,o3,rfl,rfl,hv⟩
  rw [<- hF.len,List.take_length]at hv
  exact ⟨_,rfl,q v hv⟩
structure BkG (b:Bk):Prop where
 so:cU b.sorts
 few:b.forms.length<=10
 nd:(b.forms.map Frm.name).Nodup
 wd: ∀ fr∈b.forms,cW fr.name=true
 ok: ∀ fr∈b.forms,fr.own∈b.sorts/\(∀ q∈fr.parts,q∈b.sorts)/\fr.parts.length<=3
noncomputable abbrev Sz:=List (Str×Nat)
noncomputable def ao (m:Sz) (x:Str):Option Nat:=(m.find? fun q=>decide (q.1=x)).map (·.2)
noncomputable def kvS (m:Sz):List (Key×V):=m.map fun q=>(Sum.inr q.1,.int (q.2:Int))
theorem cx (q:Str×Nat) (m:Sz) (x:Str):ao (q::m) x=if q.1=x then some q.2 else ao m x:=by
 unfold ao
 rw [List.find?_cons]
 by_cases c:q.1=x
 ·rw [if_pos c,decide_eq_true c];rfl
 ·rw [if_neg c,decide_eq_false c]
theorem bf (m:Sz) (x:Str):bn (kvS m) (.inr x)=(ao m x).map fun n=>V.int (n:Int):=by
 induction m with
 | nil=>rfl
 | cons q r ih=>
  rw [cx]
  show bn ((Sum.inr q.1,V.int (q.2:Int))::kvS r) (.inr x)=_
  by_cases c:q.1=x
  ·rw [if_pos c,bI (show (Sum.inr q.1:Key)=.inr x by rw [c])];rfl
  ·rw [if_neg c,bJ (fun z=>c (Sum.inr.inj z)),ih]
theorem da (m:Sz):iL (kvS m):=fun kv h=>by
 obtain ⟨q,_,rfl⟩:=List.mem_map.mp h
 exact ⟨_,rfl⟩
theorem iz {m:Sz} {x:Str} {n:Nat} (h:ao m x=some n):(x,n)∈m:=by
 induction m with
 | nil=>cases h
 | cons q r ih=>
  rw [cx]at h
  by_cases c:q.1=x
  ·rw [if_pos c]at h
   cases h
   rw [<- c]
   exact List.mem_cons_self
  ·rw [if_neg c]at h
   exact List.mem_cons_of_mem _ (ih h)
theorem gP {m:Sz} (nd:(m.map (·.1)).Nodup) {x:Str} {n:Nat} (h:(x,n)∈m):ao m x=some n:=by
 induction m with
 | nil=>cases h
 | cons q r ih=>
  rw [List.map_cons,List.nodup_cons]at nd
  rw [cx]
  rcases List.mem_cons.mp h with e | h
  ·subst e;rw [if_pos rfl]
  ·rw [if_neg (fun z=>nd.1 (by rw [z];exact List.mem_map.mpr ⟨_,h,rfl⟩))]
   exact ih nd.2 h
theorem getS_key {m:Sz} {x:Str}:(ao m x).isSome=true↔x∈m.map (·.1):=by
 induction m with
 | nil=>exact ⟨fun h=>(by cases h),fun h=>(by cases h)⟩
 | cons q r ih=>
  rw [cx,List.map_cons,List.mem_cons]
  by_cases c:q.1=x
  ·rw [if_pos c];exact ⟨fun _=>.inl c.symm,fun _=>rfl⟩
  ·rw [if_neg c,ih];exact ⟨.inr,fun h=>h.resolve_left fun z=>c z.symm⟩
theorem fY {α:Type} [DecidableEq α]: ∀ {l r:List α},l.Nodup->(∀ a∈l,a∈r)->l.length<=r.length
 | [],_,_,_=>Nat.zero_le _
 | a::l,r,nd,h=>by
  rw [List.nodup_cons]at nd
  have ha:=h a List.mem_cons_self
  have:=fY (r:=r.erase a) nd.2 fun b hb=>(List.mem_erase_of_ne (fun z=>nd.1 (by rw [<- z];exact hb))).mpr (h b (List.mem_cons_of_mem _ hb))
  rw [List.length_erase_of_mem ha]at this
  have:0<r.length:=List.length_pos_of_mem ha
  rw [List.length_cons]
  omega
theorem gQ {m m':Sz} (nd:(m.map (·.1)).Nodup) (nd':(m'.map (·.1)).Nodup):eqD (kvS m) (kvS m')=true↔ ∀ x,ao m x=ao m' x:=by
 have hl:(kvS m).length=(m.map (·.1)).length:=by unfold kvS;rw [List.length_map,List.length_map]
 have hl':(kvS m').length=(m'.map (·.1)).length:=by unfold kvS;rw [List.length_map,List.length_map]
 unfold eqD
 rw [Bool.and_eq_true,beq_iff_eq,List.all_eq_true]
 constructor
 ·rintro ⟨h1,h2⟩
  have h2: ∀ x n,ao m x=some n->ao m' x=some n:=fun x n h=>by
   have:=of_decide_eq_true (h2 (Sum.inr x,.int (n:Int)) (List.mem_map.mpr ⟨(x,n),iz h,rfl⟩))
   rw [bf]at this
   cases hg:ao m' x with
   | none=>rw [hg]at this;cases this
   | some k=>
    rw [hg]at this
    have:=V.int.inj (Option.some.inj this)
    rw [show k=n by omega]
  intro x
  cases hx:ao m x with
  | some n=>exact (h2 x n hx).symm
  | none=>
   cases hx':ao m' x with
   | none=>rfl
   | some n=>
    exfalso
    have sub: ∀ a∈m.map (·.1),a∈(m'.map (·.1)).erase x:=fun a ha=>by
     obtain ⟨k,hk⟩:=Option.isSome_iff_exists.mp (getS_key.mpr ha)
     refine (List.mem_erase_of_ne (fun z=>?_)).mpr (getS_key.mp (by rw [h2 a k hk];rfl))
     rw [z,hx]at hk;cases hk
    have hp:=fY nd sub
    have hm:=getS_key.mp (show (ao m' x).isSome=true by rw [hx'];rfl)
    rw [List.length_erase_of_mem hm]at hp
    have:=List.length_pos_of_mem hm
    omega
 ·intro h
  refine ⟨?_,fun kv hkv=>?_⟩
  ·have a:=fY (r:=m'.map (·.1)) nd fun a ha=>getS_key.mp (by rw [<- h];exact getS_key.mpr ha)
   have b:=fY (r:=m.map (·.1)) nd' fun a ha=>getS_key.mp (by rw [h];exact getS_key.mpr ha)
   omega
  ·obtain ⟨q,hq,rfl⟩:=List.mem_map.mp hkv
   refine decide_eq_true ?_
   show bn (kvS m') (.inr q.1)=some (.int (q.2:Int))
   rw [bf,<- h,gP nd (x:=q.1) (n:=q.2) hq]
   rfl
noncomputable def aA (m:Sz) (fr:Frm):Bool:=fr.parts.all fun p=>(ao m p.name).isSome
noncomputable def szB (m:Sz) (fr:Frm):Nat:=1+ (fr.parts.map fun p=>(ao m p.name).getD 0).sum
noncomputable def bt (bk:Bk) (m:Sz) (x:Str):List Nat:=(bk.forms.filter fun fr=>aA m fr&&decide (fr.own.name=x)).map (szB m)
noncomputable def fc:List Nat->Option Nat
 | []=>none
 | a::r=>some (r.foldl min a)
theorem gj: ∀ (r:List Nat) (a:Nat),r.foldl min a∈a::r/\ ∀ k∈a::r,r.foldl min a<=k
 | [],a=>⟨List.mem_cons_self,fun k hk=>by rw [List.mem_singleton.mp hk];exact Nat.le_refl _⟩
 | b::r,a=>by
  obtain ⟨h1,h2⟩:=gj r (min a b)
  show r.foldl min (min a b)∈a::b::r/\ ∀ k∈a::b::r,r.foldl min (min a b)<=k
  have hm:=h2 (min a b) List.mem_cons_self
  refine ⟨?_,fun k hk=>?_⟩
  ·rcases List.mem_cons.mp h1 with e | h1
   ·rw [e]
    rcases Nat.le_total a b with h | h
    ·rw [Nat.min_eq_left h];exact List.mem_cons_self
    ·rw [Nat.min_eq_right h];exact List.mem_cons_of_mem _ List.mem_cons_self
   ·exact List.mem_cons_of_mem _ (List.mem_cons_of_mem _ h1)
  ·rcases List.mem_cons.mp hk with rfl | hk
   ·exact Nat.le_trans hm (Nat.min_le_left ..)
   ·rcases List.mem_cons.mp hk with rfl | hk
    ·exact Nat.le_trans hm (Nat.min_le_right ..)
    ·exact h2 k (List.mem_cons_of_mem _ hk)
theorem eJ {l:List Nat} {n:Nat} (h:fc l=some n):n∈l/\ ∀ k∈l,n<=k:=by
 cases l with
 | nil=>cases h
 | cons a r=>
  cases h
  exact gj r a
theorem jy {l:List Nat} {k:Nat} (h:k∈l): ∃ n,fc l=some n/\n<=k:=by
 cases l with
 | nil=>cases h
 | cons a r=>exact ⟨_,rfl,(gj r a).2 k h⟩
noncomputable def RdS (bk:Bk) (m:Sz):Sz:=bk.sorts.filterMap fun s=>(fc (bt bk m s.name)).map fun n=>(s.name,n)
theorem cf (bk:Bk) (m:Sz) (hs:(bk.sorts.map Srt.name).Nodup):((RdS bk m).map (·.1)).Nodup/\ ∀ x n,ao (RdS bk m) x=some n↔(∃ s∈bk.sorts,s.name=x)/\fc (bt bk m x)=some n:=by
 unfold RdS
 generalize bk.sorts=ss at hs
 induction ss with
 | nil=>exact ⟨List.nodup_nil,fun x n=>⟨fun h=>(by cases h),fun ⟨⟨s,h,_⟩,_⟩=>(by cases h)⟩⟩
 | cons s r ih=>
  rw [List.map_cons,List.nodup_cons]at hs
  obtain ⟨i1,i2⟩:=ih hs.2
  have sub: ∀ y∈(r.filterMap fun s=>(fc (bt bk m s.name)).map fun n=>(s.name,n)).map (·.1),y∈r.map Srt.name:=fun y hy=>by
   obtain ⟨q,hq,rfl⟩:=List.mem_map.mp hy
   obtain ⟨t,ht,e⟩:=List.mem_filterMap.mp hq
   cases hm:fc (bt bk m t.name)with
   | none=>rw [hm]at e;cases e
   | some k=>rw [hm]at e;cases e;exact List.mem_map.mpr ⟨t,ht,rfl⟩
  cases hm:fc (bt bk m s.name)with
  | none=>
   rw [List.filterMap_cons_none (by rw [hm];rfl)]
   refine ⟨i1,fun x n=>(i2 x n).trans ⟨fun ⟨⟨t,ht,e⟩,h⟩=>⟨⟨t,List.mem_cons_of_mem _ ht,e⟩,h⟩,fun ⟨⟨t,ht,e⟩,h⟩=>?_⟩⟩
   rcases List.mem_cons.mp ht with rfl | ht
   ·rw [<- e,hm]at h;cases h
   ·exact ⟨⟨t,ht,e⟩,h⟩
  | some k=>
   rw [List.filterMap_cons_some (b:=(s.name,k)) (by rw [hm];rfl)]
   refine ⟨?_,fun x n=>?_⟩
   ·rw [List.map_cons,List.nodup_cons]
    exact ⟨fun h=>hs.1 (sub _ h),i1⟩
   ·rw [cx]
    by_cases c:s.name=x
    ·rw [if_pos c]
     constructor
     ·intro h
      cases h
      exact ⟨⟨s,List.mem_cons_self,c⟩,by rw [<- c];exact hm⟩
     ·rintro ⟨_,h⟩
      rw [<- c,hm]at h
      exact h
    ·rw [if_neg c,i2]
     constructor
     ·rintro ⟨⟨t,ht,e⟩,h⟩
      exact ⟨⟨t,List.mem_cons_of_mem _ ht,e⟩,h⟩
     ·rintro ⟨⟨t,ht,e⟩,h⟩
      rcases List.mem_cons.mp ht with rfl | ht
      ·exact absurd e c
      ·exact ⟨⟨t,ht,e⟩,h⟩
theorem cands_mem {bk:Bk} {m:Sz} {x:Str} {n:Nat}:n∈bt bk m x↔ ∃ fr∈bk.forms,aA m fr=true/\fr.own.name=x/\szB m fr=n:=by
 unfold bt
 rw [List.mem_map]
 constructor
 ·rintro ⟨fr,h,e⟩
  obtain ⟨h1,h2⟩:=List.mem_filter.mp h
  rw [Bool.and_eq_true]at h2
  exact ⟨fr,h1,h2.1,of_decide_eq_true h2.2,e⟩
 ·rintro ⟨fr,h1,h2,h3,h4⟩
  exact ⟨fr,List.mem_filter.mpr ⟨h1,by rw [Bool.and_eq_true];exact ⟨h2,decide_eq_true h3⟩⟩,h4⟩
theorem cI {m:Sz} {fr:Frm} (h:aA m fr=true) {p:Srt} (hp:p∈fr.parts): ∃ k,ao m p.name=some k/\k<szB m fr:=by
 obtain ⟨k,hk⟩:=Option.isSome_iff_exists.mp (List.all_eq_true.mp h p hp)
 refine ⟨k,hk,?_⟩
 unfold szB
 have: ∀ l:List Srt,p∈l->k<=(l.map fun p=>(ao m p.name).getD 0).sum:=by
  intro l
  induction l with
  | nil=>intro h;cases h
  | cons q r ih=>
   intro h
   rw [List.map_cons,List.sum_cons]
   rcases List.mem_cons.mp h with rfl | h
   ·rw [hk];show k<=k+_;omega
   ·have:=ih h;omega
 have:=this fr.parts hp
 omega
noncomputable def LeS (m m':Sz):Prop:= ∀ x n,ao m x=some n-> ∃ n',ao m' x=some n'/\n'<=n
theorem pU {m m':Sz} (h:LeS m m') {fr:Frm} (hg:aA m fr=true):aA m' fr=true/\szB m' fr<=szB m fr:=by
 unfold szB aA at *
 have go: ∀ l:List Srt,(l.all fun p=>(ao m p.name).isSome)=true->(l.all fun p=>(ao m' p.name).isSome)=true/\(l.map fun p=>(ao m' p.name).getD 0).sum<=(l.map fun p=>(ao m p.name).getD 0).sum:=by
  intro l
  induction l with
  | nil=>intro _;exact ⟨rfl,Nat.le_refl _⟩
  | cons p r ih=>
   intro hp
   rw [List.all_cons,Bool.and_eq_true]at hp
   obtain ⟨k,hk⟩:=Option.isSome_iff_exists.mp hp.1
   obtain ⟨k',hk',hle⟩:=h _ _ hk
   obtain ⟨i1,i2⟩:=ih hp.2
   refine ⟨by rw [List.all_cons,i1,hk'];rfl,?_⟩
   rw [List.map_cons,List.map_cons,List.sum_cons,List.sum_cons,hk,hk']
   show k'+_<=k+_
   omega
 obtain ⟨a,b⟩:=go fr.parts hg
 exact ⟨a,by omega⟩
structure FixS (bk:Bk) (m:Sz):Prop where
 key: ∀ x,(ao m x).isSome=true-> ∃ s∈bk.sorts,s.name=x
 fix: ∀ s∈bk.sorts,ao m s.name=fc (bt bk m s.name)
theorem FixS.wit {bk:Bk} {m:Sz} (h:FixS bk m) {x:Str} {n:Nat} (e:ao m x=some n): ∃ fr∈bk.forms,aA m fr=true/\fr.own.name=x/\szB m fr=n:=by
 obtain ⟨s,hs,rfl⟩:=h.key x (by rw [e];rfl)
 rw [h.fix s hs]at e
 exact cands_mem.mp (eJ e).1
theorem FixS.low {bk:Bk} {m:Sz} (hb:BkG bk) (h:FixS bk m) {fr:Frm} (hf:fr∈bk.forms) (hg:aA m fr=true): ∃ n,ao m fr.own.name=some n/\n<=szB m fr:=by
 rw [h.fix fr.own (hb.ok fr hf).1]
 exact jy (cands_mem.mpr ⟨fr,hf,hg,rfl,rfl⟩)
theorem lU {bk:Bk} {m m':Sz} (hb:BkG bk) (h:FixS bk m) (h':FixS bk m'): ∀ n x,ao m x=some n-> ∃ n',ao m' x=some n'/\n'<=n:=by
 intro n
 induction n using Nat.strongRecOn with
 | _ n ih=>
  intro x e
  obtain ⟨fr,hf,hg,ho,hz⟩:=h.wit e
  have go: ∀ l:List Srt,(∀ p∈l,∃ k,ao m p.name=some k/\k<n)->(l.all fun p=>(ao m' p.name).isSome)=true/\(l.map fun p=>(ao m' p.name).getD 0).sum<=(l.map fun p=>(ao m p.name).getD 0).sum:=by
   intro l
   induction l with
   | nil=>intro _;exact ⟨rfl,Nat.le_refl _⟩
   | cons p r ih2=>
    intro hp
    obtain ⟨k,hk,hlt⟩:=hp p List.mem_cons_self
    obtain ⟨k',hk',hle⟩:=ih k hlt p.name hk
    obtain ⟨i1,i2⟩:=ih2 fun q hq=>hp q (List.mem_cons_of_mem _ hq)
    refine ⟨by rw [List.all_cons,i1,hk'];rfl,?_⟩
    rw [List.map_cons,List.map_cons,List.sum_cons,List.sum_cons,hk,hk']
    show k'+_<=k+_
    omega
  obtain ⟨a,b⟩:=go fr.parts fun p hp=>by
   obtain ⟨k,h1,h2⟩:=cI hg hp
   exact ⟨k,h1,by omega⟩
  obtain ⟨n',h1,h2⟩:=h'.low hb hf a
  rw [ho]at h1
  refine ⟨n',h1,?_⟩
  unfold szB at h2 hz
  omega
theorem ff {bk:Bk} {m m':Sz} (hb:BkG bk) (h:FixS bk m) (h':FixS bk m'): ∀ x,ao m x=ao m' x:=by
 intro x
 cases e:ao m x with
 | some n=>
  obtain ⟨n',h1,h2⟩:=lU hb h h' n x e
  obtain ⟨n2,h3,h4⟩:=lU hb h' h n' x h1
  rw [e]at h3
  cases h3
  rw [h1,show n'=n by omega]
 | none=>
  cases e':ao m' x with
  | none=>rfl
  | some n=>
   obtain ⟨n',h1,_⟩:=lU hb h' h n x e'
   rw [e]at h1
   cases h1
theorem gh {bk:Bk} {m m':Sz} (h: ∀ x,ao m x=ao m' x):(∀ fr,aA m fr=aA m' fr/\szB m fr=szB m' fr)/\ ∀ x,bt bk m x=bt bk m' x:=by
 have a: ∀ fr,aA m fr=aA m' fr/\szB m fr=szB m' fr:=fun fr=>by
  unfold aA szB
  constructor <;> simp only [h]
 refine ⟨a,fun x=>?_⟩
 unfold bt
 have e1:(fun fr=>aA m fr&&decide (fr.own.name=x))=(fun fr=>aA m' fr&&decide (fr.own.name=x)):=funext fun fr=>by rw [(a fr).1]
 have e2:szB m=szB m':=funext fun fr=>(a fr).2
 rw [e1,e2]
theorem lT {bk:Bk} {m:Sz} (hb:BkG bk) (h: ∀ x,ao (RdS bk m) x=ao m x):FixS bk (RdS bk m):=by
 have hk:=(cf bk m hb.so.2.2.1).2
 refine ⟨fun x hx=>?_,fun s hs=>?_⟩
 ·obtain ⟨n,hn⟩:=Option.isSome_iff_exists.mp hx
  exact ((hk x n).mp hn).1
 ·rw [(gh h).2]
  cases e:fc (bt bk m s.name)with
  | some n=>exact (hk _ _).mpr ⟨⟨s,hs,rfl⟩,e⟩
  | none=>
   cases e2:ao (RdS bk m) s.name with
   | none=>rfl
   | some n=>
    have:=((hk _ _).mp e2).2
    rw [e]at this
    cases this
theorem kQ {bk:Bk} {m m':Sz} (hb:BkG bk) (h:LeS m m'):LeS (RdS bk m) (RdS bk m'):=fun x n e=>by
 have hk:=(cf bk m hb.so.2.2.1).2
 have hk':=(cf bk m' hb.so.2.2.1).2
 obtain ⟨hs,hm⟩:=(hk x n).mp e
 obtain ⟨h1,h2⟩:=eJ hm
 obtain ⟨fr,hf,hg,ho,hz⟩:=cands_mem.mp h1
 obtain ⟨a,b⟩:=pU h hg
 obtain ⟨n',h3,h4⟩:=jy (cands_mem.mpr ⟨fr,hf,a,ho,rfl⟩)
 exact ⟨n',(hk' x n').mpr ⟨hs,h3⟩,by omega⟩
noncomputable def gG (bk:Bk) (m:Sz):Nat:=bk.sorts.countP fun s=>(ao m s.name).isSome
noncomputable def gB:Nat->Nat
 | 0=>0
 | c+1=>1+3*gB c
theorem jF: ∀ {a b:Nat},a<=b->gB a<=gB b:=by
 intro a b h
 induction h with
 | refl=>exact Nat.le_refl _
 | step _ ih=>show gB a<=1+3*gB _;omega
noncomputable def BdS (bk:Bk) (m:Sz):Prop:= ∀ x n,ao m x=some n->n<=gB (gG bk m)
theorem tH {bk:Bk} (hb:BkG bk) (m:Sz):gG bk m<=4:=Nat.le_trans List.countP_le_length hb.so.2.1
theorem lY {bk:Bk} {m:Sz} (hb:BkG bk) (h:BdS bk m) {x:Str} {n:Nat} (e:ao m x=some n):n<=40:=Nat.le_trans (h x n e) (Nat.le_trans (jF (tH hb m)) (by decide))
theorem qo {bk:Bk} {m m':Sz} (h:LeS m m'):gG bk m<=gG bk m':=by
 unfold gG
 refine List.countP_mono_left fun s _ hs=>?_
 obtain ⟨n,hn⟩:=Option.isSome_iff_exists.mp hs
 obtain ⟨n',h',_⟩:=h _ _ hn
 rw [h'];rfl
theorem tG {bk:Bk} {m m':Sz} (h:LeS m m') {s:Srt} (hs:s∈bk.sorts) (h0:ao m s.name=none) (h1:(ao m' s.name).isSome=true):gG bk m<gG bk m':=by
 unfold gG
 have go: ∀ l:List Srt,s∈l->l.countP (fun s=>(ao m s.name).isSome) <l.countP (fun s=>(ao m' s.name).isSome):=by
  intro l
  induction l with
  | nil=>intro h;cases h
  | cons q r ih=>
   intro hm
   have hle:r.countP (fun s=>(ao m s.name).isSome)<=r.countP (fun s=>(ao m' s.name).isSome):=List.countP_mono_left fun s _ hs=>by
    obtain ⟨n,hn⟩:=Option.isSome_iff_exists.mp hs
    obtain ⟨n',h',_⟩:=h _ _ hn
    rw [h'];rfl
   rw [List.countP_cons,List.countP_cons]
   rcases List.mem_cons.mp hm with rfl | hm
   ·rw [h0,h1]
    simp only [Option.isSome_none,Bool.false_eq_true,if_false,if_true]
    omega
   ·have:=ih hm
    have:(if (ao m q.name).isSome=true then 1 else 0)<=(if (ao m' q.name).isSome=true then 1 else 0):=by
     by_cases c:(ao m q.name).isSome=true
     ·obtain ⟨n,hn⟩:=Option.isSome_iff_exists.mp c
      obtain ⟨n',h',_⟩:=h _ _ hn
      rw [if_pos c,if_pos (by rw [h'];rfl)]
      exact Nat.le_refl _
     ·rw [if_neg c];exact Nat.zero_le _
    omega
 exact go _ hs
theorem jI {bk:Bk} {m:Sz} (hb:BkG bk) (h:LeS m (RdS bk m)) (hbd:BdS bk m):BdS bk (RdS bk m):=fun x n e=>by
 cases e0:ao m x with
 | some k=>
  obtain ⟨n',h1,h2⟩:=h x k e0
  rw [e]at h1
  cases h1
  exact Nat.le_trans h2 (Nat.le_trans (hbd x k e0) (jF (qo h)))
 | none=>
  obtain ⟨⟨s,hs,rfl⟩,hm⟩:=((cf bk m hb.so.2.2.1).2 x n).mp e
  obtain ⟨fr,hf,hg,ho,hz⟩:=cands_mem.mp (eJ hm).1
  have hlt:=tG h hs e0 (by rw [e];rfl)
  refine Nat.le_trans ?_ (jF hlt)
  show n<=1+3*gB (gG bk m)
  have hp3:=(hb.ok fr hf).2.2
  have: ∀ l:List Srt,(l.all fun p=>(ao m p.name).isSome)=true->(l.map fun p=>(ao m p.name).getD 0).sum<=l.length*gB (gG bk m):=by
   intro l
   induction l with
   | nil=>intro _;exact Nat.zero_le _
   | cons p r ih=>
    intro hp
    rw [List.all_cons,Bool.and_eq_true]at hp
    obtain ⟨k,hk⟩:=Option.isSome_iff_exists.mp hp.1
    have i1:=ih hp.2
    have i2:=hbd _ _ hk
    rw [List.map_cons,List.sum_cons,hk,List.length_cons,Nat.succ_mul]
    show k+_<=_
    omega
  have hs:=this fr.parts hg
  have:fr.parts.length*gB (gG bk m)<=3*gB (gG bk m):=Nat.mul_le_mul_right _ hp3
  unfold szB at hz
  omega
noncomputable def muS (bk:Bk) (m:Sz):Nat:=(bk.sorts.map fun s=>(ao m s.name).getD 64).sum
theorem pQ {bk:Bk} {m m':Sz} (hb:BkG bk) (h:LeS m m') (hk: ∀ x,(ao m x).isSome=true-> ∃ s∈bk.sorts,s.name=x) (hk': ∀ x,(ao m' x).isSome=true-> ∃ s∈bk.sorts,s.name=x) (h40: ∀ x n,ao m' x=some n->n<=40)
  (hne: ¬ ∀ x,ao m' x=ao m x):muS bk m'<muS bk m:=by
 have pt: ∀ s:Srt,(ao m' s.name).getD 64<=(ao m s.name).getD 64/\((ao m' s.name).getD 64=(ao m s.name).getD 64->ao m' s.name=ao m s.name):=by
  intro s
  cases e:ao m s.name with
  | some n=>
   obtain ⟨n',h1,h2⟩:=h _ _ e
   rw [h1]
   refine ⟨h2,fun (z:n'=n)=>by rw [z]⟩
  | none=>
   cases e':ao m' s.name with
   | none=>exact ⟨Nat.le_refl _,fun _=>rfl⟩
   | some n=>
    have:=h40 _ _ e'
    exact ⟨by show n<=64;omega,fun (z:n=64)=>by omega⟩
 have go: ∀ l:List Srt,(l.map fun s=>(ao m' s.name).getD 64).sum<=(l.map fun s=>(ao m s.name).getD 64).sum/\((l.map fun s=>(ao m' s.name).getD 64).sum=(l.map fun s=>(ao m s.name).getD 64).sum-> ∀ s∈l,ao m' s.name=ao m s.name):=by
  intro l
  induction l with
  | nil=>exact ⟨Nat.le_refl _,fun _ s h=>by cases h⟩
  | cons q r ih=>
   obtain ⟨i1,i2⟩:=ih
   obtain ⟨p1,p2⟩:=pt q
   rw [List.map_cons,List.map_cons,List.sum_cons,List.sum_cons]
   refine ⟨by omega,fun z s hs=>?_⟩
   rcases List.mem_cons.mp hs with rfl | hs
   ·exact p2 (by omega)
   ·exact i2 (by omega) s hs
 obtain ⟨g1,g2⟩:=go bk.sorts
 unfold muS
 rcases Nat.lt_or_ge (bk.sorts.map fun s=>(ao m' s.name).getD 64).sum (bk.sorts.map fun s=>(ao m s.name).getD 64).sum with z | z
 ·exact z
 ·exfalso
  refine hne fun x=>?_
  have g:=g2 (by omega)
  cases e':ao m' x with
  | some n=>
   obtain ⟨s,hs,rfl⟩:=hk' x (by rw [e'];rfl)
   rw [<- e',g s hs]
  | none=>
   cases e:ao m x with
   | none=>rfl
   | some n=>
    obtain ⟨s,hs,rfl⟩:=hk x (by rw [e];rfl)
    rw [<- e,<- g s hs,e']
theorem ux {bk:Bk} (hb:BkG bk) (m:Sz) (h40: ∀ x n,ao m x=some n->n<=40):muS bk m<=256:=by
 unfold muS
 have go: ∀ l:List Srt,(l.map fun s=>(ao m s.name).getD 64).sum<=64*l.length:=by
  intro l
  induction l with
  | nil=>exact Nat.le_refl _
  | cons q r ih=>
   have:(ao m q.name).getD 64<=64:=by
    cases e:ao m q.name with
    | none=>exact Nat.le_refl _
    | some n=>have:=h40 _ _ e;show n<=64;omega
   rw [List.map_cons,List.sum_cons,List.length_cons]
   omega
 have:=go bk.sorts
 have:=hb.so.2.1
 omega
theorem tw {bk:Bk} (hb:BkG bk): ∃ m,FixS bk m/\(m.map (·.1)).Nodup/\ ∀ x n,ao m x=some n->n<=40:=by
 have go: ∀ k m,muS bk m<=k->(m.map (·.1)).Nodup->(∀ x,(ao m x).isSome=true-> ∃ s∈bk.sorts,s.name=x)->LeS m (RdS bk m)->BdS bk m-> ∃ m,FixS bk m/\(m.map (·.1)).Nodup/\ ∀ x n,ao m x=some n->n<=40:=by
  intro k
  induction k with
  | zero=>
   intro m hm nd hk hle hbd
   have hb2:=jI hb hle hbd
   by_cases c: ∀ x,ao (RdS bk m) x=ao m x
   ·exact ⟨_,lT hb c,(cf bk m hb.so.2.2.1).1,fun x n e=>lY hb hb2 e⟩
   ·have:=pQ hb hle hk (fun x hx=>by
     obtain ⟨n,hn⟩:=Option.isSome_iff_exists.mp hx
     exact (((cf bk m hb.so.2.2.1).2 x n).mp hn).1) (fun x n e=>lY hb hb2 e) c
    omega
  | succ k ih=>
   intro m hm nd hk hle hbd
   have hb2:=jI hb hle hbd
   have hk2: ∀ x,(ao (RdS bk m) x).isSome=true-> ∃ s∈bk.sorts,s.name=x:=fun x hx=>by
    obtain ⟨n,hn⟩:=Option.isSome_iff_exists.mp hx
    exact (((cf bk m hb.so.2.2.1).2 x n).mp hn).1
   by_cases c: ∀ x,ao (RdS bk m) x=ao m x
   ·exact ⟨_,lT hb c,(cf bk m hb.so.2.2.1).1,fun x n e=>lY hb hb2 e⟩
   ·have:=pQ hb hle hk hk2 (fun x n e=>lY hb hb2 e) c
    exact ih _ (by omega) (cf bk m hb.so.2.2.1).1 hk2 (kQ hb hle) hb2
 exact go _ [] (Nat.le_refl _) List.nodup_nil (fun x h=>by cases h) (fun x n h=>by cases h) (fun x n h=>by cases h)
theorem cN {J:It} {α:Type} {as:List α} {A:α->V->Prop} {xs:List V} {fr:List Nat} {te:TE} {σ:St} {H1:Hp} {Q:VK} (hn:xs.length<=1000) (hP:Paired A as xs)
  (hgo: ∀ i H,Same H1 H->i<xs.length->J.go i H) (hst: ∀ H,Same H1 H->J.stop xs.length H) (hy: ∀ i H v H',Same H1 H->J.yld i H v H'->H'=H/\xs[i]? =some v)
  (R:Hp->α->V->Prop) (mono: ∀ {H H':Hp} {a:α} {v:V},TK H H'->R H a v->R H' a v)
  (hte: ∀ a v H (k:VK),a∈as->A a v->Same H1 H->(∀ u H',Same H H'->R H' a u->k u H')->te (some v::bH fr σ) H k)
  (hd: ∀ p zs H',H1 p=none->Same H1 H'->H' p=some (.lst zs)->Paired (R H') as zs->Q (.ref p) H'):gY fr te σ J H1 Q:=by
 intro p hp
 have hl:as.length=xs.length:=Paired.length hP
 refine ⟨fun i m zs H=>i<=xs.length/\m=xs.length-i/\Same H1 H/\H p=some (.lst zs)/\zs.length=i/\Paired (R H) (as.take i) zs,⟨_,Nat.zero_le _,rfl,ai hp _,ad,rfl,.nil⟩,?_⟩
 rintro i m zs H ⟨hi,hm,sm,gp,hz,hT⟩
 refine ⟨gp,?_⟩
 by_cases e:i=xs.length
 ·subst e
  rw [<- hl,List.take_length]at hT
  exact .inl ⟨hst H sm,hd p zs H hp sm gp hT⟩
 ·have hlt:i<xs.length:=by omega
  refine .inr ⟨hgo i H sm hlt,aF (by omega),fun v H' hv=>?_⟩
  obtain ⟨rfl,hv2⟩:=hy i H v H' sm hv
  obtain ⟨a,ha,hA⟩:=aP hP hv2
  refine hte a v _ _ (List.mem_of_getElem? ha) hA sm fun u H2 s2 r=>?_
  have gp2:=s2 _ _ gp
  have tk:TK H2 (upd H2 p (.lst (zs++[u]))):=TK.lst gp2
  refine ⟨gp2,xs.length- (i+1),by omega,by omega,rfl,?_,ad,by rw [List.length_append,hz];rfl,?_⟩
  ·intro b o hb
   rw [ah (ak hb hp)]
   exact s2 _ _ (sm _ _ hb)
  ·rw [List.take_add_one,ha]
   exact Paired.snoc (Paired.mapP hT fun _ _ r=>mono ((aK s2).trans tk) r) (mono tk r)
theorem eN {α:Type} {J:It} {as:List α} {xs:List V} {A:α->V->Prop} {fr:List Nat} {tc:TT} {te:TE} {σ:St} {H1:Hp} {Q:VK} (hn:xs.length<=1000) (hP:Paired A as xs)
  (hgo: ∀ i H,Same H1 H->i<xs.length->J.go i H) (hst: ∀ H,Same H1 H->J.stop xs.length H) (hy: ∀ i H v H',Same H1 H->J.yld i H v H'->H'=H/\xs[i]? =some v)
  (c:α->Bool) (R:Hp->α->V->Prop) (mono: ∀ {H H':Hp} {a:α} {v:V},TK H H'->R H a v->R H' a v)
  (htc: ∀ a v H (k:Bool->Hp->Prop),a∈as->A a v->Same H1 H->(∀ H',Same H H'->k (c a) H')->tc (some v::bH fr σ) H k)
  (hte: ∀ a v H (k:VK),a∈as->A a v->c a=true->Same H1 H->(∀ u H',Same H H'->R H' a u->k u H')->te (some v::bH fr σ) H k)
  (hd: ∀ p zs H',H1 p=none->Same H1 H'->H' p=some (.lst zs)->Paired (R H') (as.filter c) zs->Q (.ref p) H'):l8 fr tc te σ J H1 Q:=by
 intro p hp
 refine ⟨fun i m zs H=>i<=xs.length/\m=xs.length-i/\Same H1 H/\H p=some (.lst zs)/\zs.length<=i/\Paired (R H) ((as.take i).filter c) zs,⟨_,Nat.zero_le _,rfl,ai hp _,ad,Nat.le_refl _,.nil⟩,?_⟩
 rintro i m zs H ⟨hi,hm,sm,gp,hz,hT⟩
 refine ⟨gp,?_⟩
 by_cases e:i=xs.length
 ·subst e
  rw [<- Paired.length hP,List.take_length]at hT
  exact .inl ⟨hst H sm,hd p zs H hp sm gp hT⟩
 ·have hlt:i<xs.length:=by omega
  refine .inr ⟨hgo i H sm hlt,aF (by omega),fun v H' hv=>?_⟩
  obtain ⟨rfl,hv2⟩:=hy i H v H' sm hv
  obtain ⟨a,ha,hA⟩:=aP hP hv2
  have etk:(as.take (i+1)).filter c=(as.take i).filter c++(if c a then [a]else []):=by
   rw [List.take_add_one,ha,List.filter_append]
   congr 1
   show List.filter c [a]=_
   by_cases hc:c a=true
   ·rw [if_pos hc,List.filter_cons_of_pos hc];rfl
   ·rw [if_neg hc,List.filter_cons_of_neg hc];rfl
  refine htc a v _ _ (List.mem_of_getElem? ha) hA sm fun H0 s0=>?_
  have sm0:=sm.trans s0
  have gp0:=s0 _ _ gp
  by_cases hc:c a=true
  ·rw [if_pos hc]at etk
   rw [if_pos hc]
   refine hte a v _ _ (List.mem_of_getElem? ha) hA hc sm0 fun u H2 s2 r=>?_
   have gp2:=s2 _ _ gp0
   have tk:TK H2 (upd H2 p (.lst (zs++[u]))):=TK.lst gp2
   refine ⟨gp2,xs.length- (i+1),by omega,by omega,rfl,?_,ad,by rw [List.length_append];show zs.length+1<=i+1;omega,?_⟩
   ·intro b o hb
    rw [ah (ak hb hp)]
    exact s2 _ _ (sm0 _ _ hb)
   ·rw [etk]
    exact Paired.snoc (Paired.mapP hT fun _ _ r=>mono ((aK (s0.trans s2)).trans tk) r) (mono tk r)
  ·rw [if_neg hc,List.append_nil]at etk
   rw [if_neg hc]
   exact ⟨xs.length- (i+1),by omega,by omega,rfl,sm0,gp0,by omega,by rw [etk];exact Paired.mapP hT fun _ _ r=>mono (aK s0) r⟩
theorem jE {K:PySem.W.Frag} {a:Addr} {xs:List V} {H1:Hp} (ha:H1 a=some (.lst xs)): ∀ i H,Same H1 H->i<xs.length->(Itl K a).go i H:=fun i H s h=>⟨xs,xs[i],SqL.of (s _ _ ha),List.getElem?_eq_getElem h⟩
theorem jD {K:PySem.W.Frag} {a:Addr} {xs:List V} {H1:Hp} (ha:H1 a=some (.lst xs)): ∀ H,Same H1 H->(Itl K a).stop xs.length H:=fun H s=>⟨xs,SqL.of (s _ _ ha),Nat.le_refl _⟩
theorem lQ {K:PySem.W.Frag} {a:Addr} {xs:List V} {H1:Hp} (ha:H1 a=some (.lst xs)): ∀ i H v H',Same H1 H->(Itl K a).yld i H v H'->H'=H/\xs[i]? =some v:=fun i H v H' s hv=>⟨hv.1,by obtain ⟨rfl,hv⟩:=hv;exact hv xs (SqL.of (s _ _ ha))⟩
theorem cF {K:PySem.W.Frag} {a:Addr} {xs:List V} {H1:Hp} (ha:H1 a=some (.tup xs)): ∀ i H,Same H1 H->i<xs.length->(Itt K a).go i H:=fun i H s h=>⟨xs,xs[i],SqT.of (s _ _ ha),List.getElem?_eq_getElem h⟩
theorem cE {K:PySem.W.Frag} {a:Addr} {xs:List V} {H1:Hp} (ha:H1 a=some (.tup xs)): ∀ H,Same H1 H->(Itt K a).stop xs.length H:=fun H s=>⟨xs,SqT.of (s _ _ ha),Nat.le_refl _⟩
theorem db {K:PySem.W.Frag} {a:Addr} {xs:List V} {H1:Hp} (ha:H1 a=some (.tup xs)): ∀ i H v H',Same H1 H->(Itt K a).yld i H v H'->H'=H/\xs[i]? =some v:=fun i H v H' s hv=>⟨hv.1,by obtain ⟨rfl,hv⟩:=hv;exact hv xs (SqT.of (s _ _ ha))⟩
noncomputable def iV:Sp:=fun vs H Q _=> ∃ bv bk,vs=[bv]/\RepB H bk bv/\ ∀ fa fv,H fa=some (.tup fv)->RepFs H bk.forms fv->Q (.ref fa) H
noncomputable def dH:Sp:=fun vs H Q _=> ∃ v fr,vs=[v]/\RepF H fr v/\Q (.str fr.own.name) H
noncomputable def dz:Sp:=fun vs H Q _=> ∃ v fr,vs=[v]/\RepF H fr v/\ ∀ pa,H pa=some (.tup (a8 fr.parts))->Q (.ref pa) H
noncomputable def iU:Sp:=fun vs H Q _=> ∃ bv bk,vs=[bv]/\RepB H bk bv/\ ∀ sa xs,H sa=some (.tup xs)->RepSs H bk.sorts xs->Q (.ref sa) H
noncomputable def uA:Expr->Scope
 | .ListComp _ _ s _=>s
 | _=>{kind:=.function,names:=[],isGenerator:=false,isCoroutine:=false}
noncomputable def u8:List Stmt->Expr
 | [.Return (some e) _]=>e
 | _=>.Constant .none 0 ⟨0,0,0,0⟩
noncomputable def uj (sc0 scope:Scope):Scope:={scope with names:=aV sc0 scope}
noncomputable def vj (K:PySem.W.Frag):List V->Hp->VK->Prop:=fun xs H Q=> ∃ (p:Addr) (bs:List Bool),xs=[.ref p]/\SqL K H p (bs.map V.bl)/\Q (.bl (bs.all id)) H
noncomputable def ft:Sp:=fun vs H Q _=> ∃ v fr d m,vs=[v,.ref d]/\RepF H fr v/\fr.parts.length<=3/\H d=some (.dK (kvS m))/\(∀ x n,ao m x=some n->n<=40)/\aA m fr=true/\ ∀ H',Same H H'->Q (.int ((szB m fr:Nat):Int)) H'
noncomputable def fz:Sp:=fun vs H Q _=> ∃ bv bk d m,vs=[bv,.ref d]/\RepB H bk bv/\BkG bk/\H d=some (.dK (kvS m))/\ ∀ p zs H',H p=none->Same H H'->H' p=some (.lst zs)->Paired (RepF H') (bk.forms.filter (aA m)) zs->Q (.ref p) H'
theorem bo: ∀ ps:List Srt,Paired (fun (p:Srt) (v:V)=>v=.str p.name) ps (a8 ps)
 | []=>.nil
 | _::r=>.cons rfl (bo r)
theorem bQ {α:Type} {g:α->V}: ∀ {l:List α} {zs:List V},Paired (fun a v=>v=g a) l zs->zs=l.map g
 | _,_,.nil=>rfl
 | _,_,.cons h t=>by rw [h,bQ t];rfl
theorem jT (ms:List Nat):gE (ms.map fun m=>((m:Nat):Int))=((ms.sum:Nat):Int):=by
 induction ms with
 | nil=>rfl
 | cons m r ih=>
  show (m:Int) +gE (r.map fun m=>((m:Nat):Int))=(((m::r).sum:Nat):Int)
  rw [ih,List.sum_cons]
  omega
theorem ng:aI ["book"] ["book"] (aj h9):=fsc
theorem lM (F:Fun K "forms_of" "forms_of" h9 f fd):ay P w K mg base CX0 1 f fd ["book"] iV:=by
 refine F.ok ng (fun vs H Q E h=>?_) (fun cdv A outer s H vs Q E hr h=>?_)
 ·obtain ⟨bv,bk,rfl,_⟩:=h
  rfl
 obtain ⟨bv,bk,rfl,⟨a,sa,fa,fv,rfl,ha,_,hfa,hF⟩,q⟩:=h
 refine ⟨_,al (aJ (ax aE (pv 0) ag (fun _ _=>rfl))),?_⟩
 exact ⟨_,rfl,a,_,2,_,rfl,rfl,SqT.of ha,aG (j:=2) rfl,q fa fv hfa hF⟩
theorem jn:aI ["form"] ["form"] (aj dZ):=fsc
theorem iP (F:Fun K "sort_of_form" "sort_of_form" dZ f fd):ay P w K mg base CX0 1 f fd ["form"] dH:=by
 refine F.ok jn (fun vs H Q E h=>?_) (fun cdv A outer s H vs Q E hr h=>?_)
 ·obtain ⟨v,fr,rfl,_⟩:=h
  rfl
 obtain ⟨v,fr,rfl,⟨a,pa,ra,rv,rfl,ha,_⟩,q⟩:=h
 refine ⟨_,al (aJ (ax aE (pv 0) ag (fun _ _=>rfl))),?_⟩
 exact ⟨_,rfl,a,_,1,_,rfl,rfl,SqT.of ha,aG (j:=1) rfl,q⟩
theorem mY:aI ["form"] ["form"] (aj h8):=fsc
theorem im (F:Fun K "parts_of" "parts_of" h8 f fd):ay P w K mg base CX0 1 f fd ["form"] dz:=by
 refine F.ok mY (fun vs H Q E h=>?_) (fun cdv A outer s H vs Q E hr h=>?_)
 ·obtain ⟨v,fr,rfl,_⟩:=h
  rfl
 obtain ⟨v,fr,rfl,⟨a,pa,ra,rv,rfl,ha,hpa,_⟩,q⟩:=h
 refine ⟨_,al (aJ (ax aE (pv 0) ag (fun _ _=>rfl))),?_⟩
 exact ⟨_,rfl,a,_,2,_,rfl,rfl,SqT.of ha,aG (j:=2) rfl,q pa hpa⟩
theorem mX:aI ["book"] ["book"] (aj hZ):=fsc
theorem lL (F:Fun K "sorts_of" "sorts_of" hZ f fd):ay P w K mg base CX0 1 f fd ["book"] iU:=by
 refine F.ok mX (fun vs H Q E h=>?_) (fun cdv A outer s H vs Q E hr h=>?_)
 ·obtain ⟨bv,bk,rfl,_⟩:=h
  rfl
 obtain ⟨bv,bk,rfl,⟨a,sa,fa,fv,rfl,ha,⟨xs,hsa,hS⟩,hfa,hF⟩,q⟩:=h
 refine ⟨_,al (aJ (ax aE (pv 0) ag (fun _ _=>rfl))),?_⟩
 exact ⟨_,rfl,a,_,1,_,rfl,rfl,SqT.of ha,aG (j:=1) rfl,q sa xs hsa hS⟩
theorem oW:aI ["form","sizes"] ["form","sizes"] (aj gL):=fsc
theorem nv (F:Fun K "least_size_by" "least_size_by" gL f fd) (hsum:mg "sum"=none)
  (GP:ay P w K mg base CX0 1 f3 fd3 ["form"] dz) (bP:Binds K fd3 ["form"] []) (kP:PySem.W.keepIn K (.ref f3)=true) (mP:mg "parts_of"=some (.ref f3)):ay P w K mg base CX0 2 f fd ["form","sizes"] ft:=by
 refine F.ok oW (fun vs H Q E h=>?_) (fun cdv A outer s H vs Q E hr h=>?_)
 ·obtain ⟨v,fr,d,m,rfl,_⟩:=h
  rfl
 obtain ⟨v,fr,d,m,rfl,hF,hp3,hd,h40,hg,q⟩:=h
 have hu:=dR hr
 refine ⟨_,al (aJ (au aS ag (ar (kI rfl) rfl hsum (by decide +kernel) (ac (cA (sc0:=aj gL) (N0:=["form","sizes"]) (ys:=["sizes"]) (fr:=[1]) rfl (bu (am GP hr rfl mP kP bP .nil aw (ac (pv 0) ae))) rfl rfl
   cok (fun C s H ex=>cz hu (pv 1) (pv 0) (fun _ _=>rfl))) ae)))),?_⟩
 refine ⟨_,rfl,v,fr,rfl,hF,fun pa hpa=>⟨pa,rfl,⟨_,SqT.of hpa⟩,?_⟩⟩
 have hpl:(a8 fr.parts).length=fr.parts.length:=List.length_map _
 refine cN (by omega) (bo fr.parts) (cF hpa) (cE hpa) (db hpa) (fun _ p v=>v=.int (((ao m p.name).getD 0:Nat):Int)) (fun _ h=>h) ?_ ?_
 ·rintro p v H' k hp rfl s' hk
  obtain ⟨n,hn,_⟩:=cI hg hp
  have hv:bn (kvS m) (.inr p.name)=some (.int ((n:Nat):Int)):=by rw [bf,hn];rfl
  refine ⟨_,rfl,_,rfl,d,.int ((n:Nat):Int),rfl,(by rw [<- hv];exact DGet.k (k:=.inr p.name) (s' _ _ hd)),hk _ H' (Same.refl H') (by rw [hn];rfl)⟩
 intro p zs H1 hp s1 g1 hz
 have ez:=bQ hz
 have ez:zs=((fr.parts.map fun p=>(ao m p.name).getD 0).map fun m=>((m:Nat):Int)).map V.int:=by rw [ez,List.map_map,List.map_map];rfl
 subst ez
 refine ⟨p,_,rfl,SqL.of g1,by rw [List.length_map,List.length_map];omega,fun n hn=>?_,?_⟩
 ·obtain ⟨k,hk,rfl⟩:=List.mem_map.mp hn
  obtain ⟨sr,hsr,rfl⟩:=List.mem_map.mp hk
  obtain ⟨n,hn,_⟩:=cI hg hsr
  have:=h40 _ _ hn
  rw [hn]
  show (0:Int)<=(n:Int)/\(n:Int)<=1000000
  omega
 rw [jT]
 refine ⟨_,_,rfl,rfl,?_⟩
 have:=q H1 s1
 unfold szB at this
 rw [show ((fun (i j:Int)=>V.int (i+j)) 1 (((fr.parts.map fun p=>(ao m p.name).getD 0).sum:Nat):Int))=V.int ((1+ (fr.parts.map fun p=>(ao m p.name).getD 0).sum:Nat):Int)from congrArg V.int (show (1:Int) + ((_:Nat):Int)=((1+_:Nat):Int) by omega)]
 exact this
theorem oY:aI ["book","sizes"] ["book","sizes"] (aj eF):=fsc
theorem nE (F:Fun K "grown_forms" "grown_forms" eF f fd) (G:Gb mg)
  (GF:ay P w K mg base CX0 1 f2 fd2 ["book"] iV) (bF:Binds K fd2 ["book"] []) (kF:PySem.W.keepIn K (.ref f2)=true) (mF:mg "forms_of"=some (.ref f2))
  (GP:ay P w K mg base CX0 1 f3 fd3 ["form"] dz) (bP:Binds K fd3 ["form"] []) (kP:PySem.W.keepIn K (.ref f3)=true) (mP:mg "parts_of"=some (.ref f3)):ay P w K mg base CX0 2 f fd ["book","sizes"] fz:=by
 refine F.ok oY (fun vs H Q E h=>?_) (fun cdv A outer s H vs Q E hr h=>?_)
 ·obtain ⟨bv,bk,d,m,rfl,_⟩:=h
  rfl
 obtain ⟨bv,bk,d,m,rfl,hB,hok,hd,q⟩:=h
 have hu:=dR hr
 have hfew:=hok.few
 refine ⟨_,al (aJ (ie (sc0:=aj eF) (N0:=["book","sizes"]) (ys:=["sizes"]) (fr:=[1]) rfl (bu (am GF hr rfl mF kF bF .nil aw (ac (pv 0) ae))) rfl rfl
   cok
   (fun C s H ex=>cc (ar (r:=vj K) (kK rfl) rfl G.all (by decide +kernel) (ac (cA (sc0:=uj (aj eF) (uA (u8 (bz eF)))) (N0:=["form","sizes"]) (wi:=sZ K (rS dz [] E0 (oJ (qD 0) tW))) (ys:=["sizes"]) (fr:=[1]) rfl (bu (am GP hr rfl mP kP bP .nil aw (ac (pv 0) ae))) rfl rfl
    cok (fun C s H ex=>lG (lH hu (pv 0) (pv 1)))) ae)))
   (fun C s H ex=>pv 0))),?_⟩
 refine ⟨_,rfl,bv,bk,rfl,hB,fun fa fv hfa hF=>⟨fa,rfl,⟨_,SqT.of hfa⟩,?_⟩⟩
 have lF:=hF.len
 refine eN (by omega) hF (cF hfa) (cE hfa) (db hfa) (aA m) RepF (fun t h=>h.mono t) ?_ ?_ (fun p zs H' hp s' gp hz=>q p zs H' hp s' gp hz)
 ·intro fr v H1 k hfr hR s1 hk
  have hp3:=(hok.ok fr hfr).2.2
  refine ⟨_,rfl,v,fr,rfl,hR.mono (aK s1),fun pa hpa=>⟨pa,rfl,⟨_,SqT.of hpa⟩,?_⟩⟩
  have hpl:(a8 fr.parts).length=fr.parts.length:=List.length_map _
  refine cN (by omega) (bo fr.parts) (cF hpa) (cE hpa) (db hpa) (fun _ p v=>v=.bl (ao m p.name).isSome) (fun _ h=>h) ?_ ?_
  ·rintro p v H' k' hp rfl s' hk'
   refine ⟨_,rfl,_,rfl,d,_,rfl,DGet.k (k:=.inr p.name) (s' _ _ (s1 _ _ hd)),hk' _ H' (Same.refl H') ?_⟩
   rw [bf]
   cases ao m p.name <;> rfl
  intro p zs H2 hp s2 g2 hz
  have ez:=bQ hz
  have ez:zs=(fr.parts.map fun p=>(ao m p.name).isSome).map V.bl:=by rw [ez,List.map_map];rfl
  subst ez
  refine ⟨p,_,rfl,SqL.of g2,_,rfl,?_⟩
  have:=hk H2 s2
  unfold aA at this
  rw [List.all_map]
  exact this
 ·intro fr v H1 k hfr hR _ s1 hk
  exact ⟨_,rfl,hk v H1 (Same.refl H1) (hR.mono (aK s1))⟩
theorem ml {m:Sz} {x:Str} {n:Nat} (h:ao m x=none):dB (kvS m) (.inr x) (.int (n:Int))=kvS (m++[(x,n)]):=by
 unfold dB
 rw [dS,bf,h]
 rw [if_neg (by simp)]
 unfold kvS
 rw [List.map_append]
 rfl
noncomputable def RtS (bk:Bk) (m:Sz) (ss:List Srt):Sz:=ss.filterMap fun s=>(fc (bt bk m s.name)).map fun n=>(s.name,n)
theorem qy (bk:Bk) (m:Sz) (ss:List Srt) (s:Srt):RtS bk m (ss++[s])=RtS bk m ss++(match fc (bt bk m s.name)with | some n=>[(s.name,n)] | none=>[]):=by
 unfold RtS
 rw [List.filterMap_append]
 congr 1
 cases h:fc (bt bk m s.name)with
 | none=>rw [List.filterMap_cons_none (by rw [h];rfl)];rfl
 | some n=>rw [List.filterMap_cons_some (b:=(s.name,n)) (by rw [h];rfl)];rfl
theorem rO {bk:Bk} {m:Sz} {ss:List Srt} {x:Str} (h:(ao (RtS bk m ss) x).isSome=true):x∈ss.map Srt.name:=by
 have h:=getS_key.mp h
 obtain ⟨q,hq,rfl⟩:=List.mem_map.mp h
 obtain ⟨t,ht,e⟩:=List.mem_filterMap.mp hq
 cases hm:fc (bt bk m t.name)with
 | none=>rw [hm]at e;cases e
 | some k=>rw [hm]at e;cases e;exact List.mem_map.mpr ⟨t,ht,rfl⟩
theorem on (bk:Bk) (m:Sz) (x:Str):((bk.forms.filter (aA m)).filter fun fr=>decide (fr.own.name=x)).map (szB m)=bt bk m x:=by
 unfold bt
 rw [List.filter_filter]
 congr 1
 refine List.filter_congr fun fr _=>?_
 rw [Bool.and_comm]
noncomputable def hJ:Sp:=fun vs H Q _=> ∃ bv bk d m,vs=[bv,.ref d]/\RepB H bk bv/\BkG bk/\H d=some (.dK (kvS m))/\(∀ x n,ao m x=some n->n<=40)/\ ∀ p H',H p=none->Same H H'->H' p=some (.dK (kvS (RdS bk m)))->Q (.ref p) H'
noncomputable def fu:Sp:=fun vs H Q _=> ∃ bv bk,vs=[bv]/\RepB H bk bv/\BkG bk/\ ∀ d m H',H d=none->Same H H'->H' d=some (.dK (kvS m))->FixS bk m->(m.map (·.1)).Nodup->(∀ x n,ao m x=some n->n<=40)->Q (.ref d) H'
noncomputable def gZ:Sp:=fun vs H Q _=> ∃ bv bk,vs=[bv]/\RepB H bk bv/\BkG bk/\ ∀ p zs m H',FixS bk m->H p=none->Same H H'->H' p=some (.lst zs)->Paired (RepF H') (bk.forms.filter (aA m)) zs->Q (.ref p) H'
noncomputable def oQ:Sp:=fun vs H Q _=> ∃ bv bk,vs=[bv]/\RepB H bk bv/\BkG bk/\ ∀ p m H',FixS bk m->H p=none->Same H H'->H' p=some (.lst (((bk.forms.filter (aA m)).map Frm.name).map V.str))->Q (.ref p) H'
noncomputable abbrev uS:List Str:=["book","before","sizes","name","downs","ups","found"]
theorem scOne:aI uS ["book","before"] (aj eE):=fsc
theorem j5 (F:Fun K "sizes_one_round_on" "sizes_one_round_on" eE f fd) (G:Gb mg)
  (GS:ay P w K mg base CX0 1 f2 fd2 ["book"] iU) (bS:Binds K fd2 ["book"] []) (kS:PySem.W.keepIn K (.ref f2)=true) (mS:mg "sorts_of"=some (.ref f2))
  (GG:ay P w K mg base CX0 2 f3 fd3 ["book","sizes"] fz) (bG:Binds K fd3 ["book","sizes"] []) (kG:PySem.W.keepIn K (.ref f3)=true) (mG:mg "grown_forms"=some (.ref f3))
  (GO:ay P w K mg base CX0 1 f4 fd4 ["form"] dH) (bO:Binds K fd4 ["form"] []) (kO:PySem.W.keepIn K (.ref f4)=true) (mO:mg "sort_of_form"=some (.ref f4))
  (GB:ay P w K mg base CX0 2 f5 fd5 ["form","sizes"] ft) (bB:Binds K fd5 ["form","sizes"] []) (kB:PySem.W.keepIn K (.ref f5)=true) (mB:mg "least_size_by"=some (.ref f5)):
  ay P w K mg base CX0 3 f fd ["book","before"] hJ:=by
 refine F.ok scOne (fun vs H Q E h=>?_) (fun cdv A outer s H vs Q E hr h=>?_)
 ·obtain ⟨bv,bk,d,m,rfl,_⟩:=h
  rfl
 obtain ⟨bv,bk,d,m,rfl,hB,hok,hd,h40,q⟩:=h
 have hu:=dR hr
 have hr1:=hr.mono (show 1<=2 by decide)
 refine ⟨_,af (aq (i:=2) scOne.nd rfl (Or.inl rfl) dC)
  (af (ce PassesOwn.never rfl (bu (am GS hr1 rfl mS kS bS .nil aw (ac (pv 0) ae)))
    (eW rfl (aT (aL (i:=3) scOne.nd rfl (Or.inr rfl)) (aT (aL (i:=4) scOne.nd rfl (Or.inl rfl)) (aT (aL (i:=5) scOne.nd rfl (Or.inl rfl)) dL))))
   (af (ic (i:=6) (sc0:=aj eE) (N0:=uS) (ys:=["before","name"]) (fr:=[1,3]) rfl scOne.nd rfl (Or.inl rfl) (eI (am GG hr rfl mG kG bG .nil aw (ac (pv 0) (ac (pv 1) ae)))) rfl rfl
     cok
     (fun C s H ex=>aD cB (am GO hr1 rfl mO kO bO .nil aw (ac (pv 0) ae)) (pv 2) (aH _))
     (fun C s H ex=>am GB hr rfl mB kB bB .nil aw (ac (pv 0) (ac (pv 1) ae))))
   (al (aW (pj (pv 6) (fun _=>rfl)) (al (fB hu (pv 2) (pv 3) (ar (oq rfl) rfl G.min (by decide +kernel) (ac (pv 6) ae)) rfl)) aM))))
  (al (aJ (pv 2)))),?_⟩
 refine fun td htd=>?_
 have s0:=ai htd (.dK [])
 have g0:(upd H td (.dK [])) td=some (.dK []):=ad
 generalize upd H td (.dK [])=H0 at s0 g0 ⊢
 refine ⟨_,rfl,bv,bk,rfl,hB.mono (aK s0),fun sa xs hsa hS=>⟨sa,rfl,⟨_,SqT.of hsa⟩,?_⟩⟩
 have lS:bk.sorts.length=xs.length:=hS.len
 have h4:=hok.so.2.1
 have hfew:=hok.few
 have hB0:=hB.mono (aK s0)
 refine fJ (xs:=xs) (fun i σ H'=>i<=xs.length/\ ∃ o3 o4 o5 o6,σ=[some bv,some (.ref d),some (.ref td),o3,o4,o5,o6]/\Same H H'/\TK H0 H'/\H' td=some (.dK (kvS (RtS bk m (bk.sorts.take i)))))
  ⟨Nat.zero_le _,none,none,none,none,rfl,s0,TK.refl _,g0⟩ (fun i σ H' _ h=>by obtain ⟨_,_,_,_,_,_,_,t,_⟩:=h;exact SqT.of (t _ _ hsa)) ?_ ?_
 ·rintro i x σ H1 hx ⟨hi,o3,o4,o5,o6,rfl,S1,T1,g1⟩
  have hil:i<xs.length:=(List.getElem?_eq_some_iff.mp hx).1
  obtain ⟨sr,hsr,b,dc,uc,rfl,hb,hdc,huc⟩:=aP hS hx
  have hsm:=List.mem_of_getElem? hsr
  refine ⟨b,_,rfl,SqT.of (T1 _ _ hb),rfl,_,_,rfl,_,_,rfl,_,_,rfl,rfl,?_⟩
  refine ⟨_,rfl,_,rfl,bv,bk,d,m,rfl,hB0.mono T1,hok,S1 _ _ hd,fun p zs H2 hp s2 g2 hz=>⟨p,rfl,⟨_,SqL.of g2⟩,?_⟩⟩
  have S2:=S1.trans s2
  have lz:=Paired.length hz
  have lfl:(bk.forms.filter (aA m)).length<=10:=Nat.le_trans (List.length_filter_le _ _) hfew
  refine eN (by omega) hz (jE g2) (jD g2) (lQ g2) (fun fr=>decide (fr.own.name=sr.name)) (fun _ fr v=>v=.int ((szB m fr:Nat):Int)) (fun _ h=>h) ?_ ?_ ?_
  ·intro fr v H3 k hfr hR s3 hk
   refine ⟨_,rfl,v,fr,rfl,hR.mono (aK s3),_,rfl,rfl,_,rfl,?_⟩
   rw [show decide (V.str fr.own.name=V.str sr.name)=decide (fr.own.name=sr.name)from decide_eq_decide.mpr ⟨fun e=>V.str.inj e,fun e=>by rw [e]⟩]
   exact hk H3 (Same.refl H3)
  ·intro fr v H3 k hfr hR hc s3 hk
   obtain ⟨hf1,hf2⟩:=List.mem_filter.mp hfr
   exact ⟨_,rfl,_,rfl,v,fr,d,m,rfl,hR.mono (aK s3),(hok.ok fr hf1).2.2,s3 _ _ (S2 _ _ hd),h40,hf2,fun H4 s4=>hk _ H4 s4 rfl⟩
  intro p3 ws H3 hp3 s3 g3 hw
  have ew:=bQ hw
  have ew:ws=((bt bk m sr.name).map fun n=>((n:Nat):Int)).map V.int:=by rw [ew,<- on,List.map_map,List.map_map];rfl
  subst ew
  have S3:=S2.trans s3
  have T3:TK H0 H3:=T1.trans (aK (s2.trans s3))
  have g13:=s3 _ _ (s2 _ _ g1)
  refine ⟨_,rfl,_,.inl ⟨_,SqL.of g3,rfl⟩,?_⟩
  have enx:RtS bk m (bk.sorts.take (i+1))=RtS bk m (bk.sorts.take i)++(match fc (bt bk m sr.name)with | some n=>[(sr.name,n)] | none=>[]):=by
   rw [List.take_add_one,hsr]
   exact qy ..
  cases hc:bt bk m sr.name with
  | nil=>
   refine bi ?_
   refine ⟨hil,_,_,_,_,rfl,S3,T3,?_⟩
   rw [enx,hc]
   show H3 td=some (.dK (kvS (RtS bk m (bk.sorts.take i)++[])))
   rw [List.append_nil]
   exact g13
  | cons c0 cr=>
   refine bd ?_
   rw [hc]at g3
   refine ⟨_,rfl,p3,_,rfl,SqL.of g3,by rw [List.length_map,List.length_cons];omega,fun M hM hmin=>?_⟩
   obtain ⟨n0,hn0,rfl⟩:=List.mem_map.mp hM
   obtain ⟨n,hn,hle⟩:=jy hn0
   obtain ⟨hn1,hn2⟩:=eJ hn
   have e0:n=n0:=by
    have:=hmin ((n:Nat):Int) (List.mem_map.mpr ⟨n,hn1,rfl⟩)
    omega
   subst e0
   have hnone:ao (RtS bk m (bk.sorts.take i)) sr.name=none:=by
    cases hg:ao (RtS bk m (bk.sorts.take i)) sr.name with
    | none=>rfl
    | some k=>
     exfalso
     have hmem:=rO (show (ao (RtS bk m (bk.sorts.take i)) sr.name).isSome=true by rw [hg];rfl)
     rw [List.map_take]at hmem
     obtain ⟨j,hj⟩:=List.getElem?_of_mem hmem
     have hjl:=(List.getElem?_eq_some_iff.mp hj).1
     rw [List.length_take]at hjl
     rw [List.getElem?_take_of_lt (by omega)]at hj
     have h2:(bk.sorts.map Srt.name)[i]? =some sr.name:=by rw [List.getElem?_map,hsr];rfl
     have:=dD hok.so.2.2.1 hj h2
     omega
   have hlk:(kvS (RtS bk m (bk.sorts.take i))).length<=1000:=by
    unfold kvS RtS
    rw [List.length_map]
    refine Nat.le_trans (List.length_filterMap_le _ _) ?_
    rw [List.length_take]
    omega
   refine ⟨_,rfl,_,rfl,td,_,rfl,DPut.k (k:=.inr sr.name) g13 (aF hlk),?_⟩
   rw [ml hnone]
   refine ⟨hil,_,_,_,_,rfl,fun b o h=>?_,fun b zs e=>?_,?_⟩
   ·rw [ah (ak h htd)];exact S3 _ _ h
   ·rw [ah (fun z=>by rw [z,g0]at e;cases e)];exact T3 _ _ e
   ·rw [ad,enx,hc]
    have hn':fc (c0::cr)=some n:=hn
    rw [hn']
 ·rintro σ H1 ⟨_,o3,o4,o5,o6,rfl,S1,T1,g1⟩
  rw [<- lS,List.take_length]at g1
  exact ⟨_,rfl,q td H1 htd S1 g1⟩
noncomputable abbrev rR:List Str:=["book","sizes","before"]
theorem scLeastS:aI rR ["book"] (aj ef):=fsc
theorem nC (F:Fun K "least_sizes" "least_sizes" ef f fd)
  (GO:ay P w K mg base CX0 3 f2 fd2 ["book","before"] hJ) (bO:Binds K fd2 ["book","before"] []) (kO:PySem.W.keepIn K (.ref f2)=true) (mO:mg "sizes_one_round_on"=some (.ref f2)):
  ay P w K mg base CX0 4 f fd ["book"] fu:=by
 refine F.ok scLeastS (fun vs H Q E h=>?_) (fun cdv A outer s H vs Q E hr h=>?_)
 ·obtain ⟨bv,bk,rfl,_⟩:=h
  rfl
 obtain ⟨bv,bk,rfl,hB,hok,q⟩:=h
 have hu:=dR hr
 refine ⟨_,af (aq (i:=1) scLeastS.nd rfl (Or.inl rfl) dC)
  (af (aq (i:=2) scLeastS.nd rfl (Or.inl rfl) cP)
  (af (j1 PassesOwn.never (aD (pG hu) (pv 1) (pv 2) (aH _))
   (af (aq (i:=2) scLeastS.nd rfl (Or.inl rfl) (pv 1))
   (al (aq (i:=1) scLeastS.nd rfl (Or.inl rfl) (am GO hr rfl mO kO bO .nil aw (ac (pv 0) (ac (pv 2) ae)))))))
  (al (aJ (pv 1))))),?_⟩
 refine fun td htd=>?_
 have s0:=ai htd (.dK [])
 have g0:(upd H td (.dK [])) td=some (.dK (kvS [])):=ad
 generalize upd H td (.dK [])=H0 at s0 g0 ⊢
 have hkR: ∀ m x,(ao (RdS bk m) x).isSome=true-> ∃ s∈bk.sorts,s.name=x:=fun m x hx=>by
  obtain ⟨n,hn⟩:=Option.isSome_iff_exists.mp hx
  exact (((cf bk m hok.so.2.2.1).2 x n).mp hn).1
 refine ⟨fun k σ H'=>(∃ sp,σ=[some bv,some (.ref sp),some .non]/\H sp=none/\Same H H'/\H' sp=some (.dK (kvS []))/\k=300)\/
   (∃ sp bp m,σ=[some bv,some (.ref sp),some (.ref bp)]/\H sp=none/\Same H H'/\H' sp=some (.dK (kvS (RdS bk m)))/\H' bp=some (.dK (kvS m))/\(m.map (·.1)).Nodup/\(∀ x,(ao m x).isSome=true-> ∃ s∈bk.sorts,s.name=x)/\LeS m (RdS bk m)/\BdS bk m/\k=muS bk m),
  ⟨300,.inl ⟨td,rfl,htd,s0,g0,rfl⟩⟩,?_⟩
 rintro k σ H1 (⟨sp,rfl,hsp,S1,g1,rfl⟩ | ⟨sp,bp,m,rfl,hsp,S1,g1,gb,nd,hk,hle,hbd,rfl⟩)
 ·refine ⟨_,rfl,_,rfl,sp,_,rfl,g1,da _,.inl ⟨rfl,_,rfl,?_⟩⟩
  refine bd ⟨fun σ' H'=> ∃ k',k'<300/\((∃ sp,σ'=[some bv,some (.ref sp),some .non]/\H sp=none/\Same H H'/\H' sp=some (.dK (kvS []))/\k'=300)\/
   (∃ sp bp m,σ'=[some bv,some (.ref sp),some (.ref bp)]/\H sp=none/\Same H H'/\H' sp=some (.dK (kvS (RdS bk m)))/\H' bp=some (.dK (kvS m))/\(m.map (·.1)).Nodup/\(∀ x,(ao m x).isSome=true-> ∃ s∈bk.sorts,s.name=x)/\LeS m (RdS bk m)/\BdS bk m/\k'=muS bk m)),fun _ _ h=>h,?_⟩
  refine ⟨_,rfl,?_⟩
  refine ⟨_,rfl,_,rfl,bv,bk,sp,[],rfl,hB.mono (aK S1),hok,g1,(fun x n h=>by cases h),fun p H2 hp s2 g2=>?_⟩
  exact ⟨muS bk [],Nat.lt_of_le_of_lt (ux hok [] (fun x n h=>by cases h)) (by decide),.inr ⟨p,sp,[],rfl,S1.free hp,S1.trans s2,g2,s2 _ _ g1,List.nodup_nil,fun x h=>(by cases h),fun x n h=>(by cases h),fun x n h=>(by cases h),rfl⟩⟩
 ·have ndR:=(cf bk m hok.so.2.2.1).1
  have hb2:=jI hok hle hbd
  refine ⟨_,rfl,_,rfl,sp,_,rfl,g1,da _,.inr ⟨bp,_,rfl,gb,da _,_,rfl,?_⟩⟩
  by_cases c: ∀ x,ao (RdS bk m) x=ao m x
  ·rw [(gQ ndR nd).mpr c]
   refine bi ?_
   exact ⟨_,rfl,q sp (RdS bk m) H1 hsp S1 g1 (lT hok c) ndR fun x n e=>lY hok hb2 e⟩
  ·have e:eqD (kvS (RdS bk m)) (kvS m)=false:=by
    cases h:eqD (kvS (RdS bk m)) (kvS m)with
    | false=>rfl
    | true=>exact absurd ((gQ ndR nd).mp h) c
   rw [e]
   refine bd ⟨fun σ' H'=> ∃ k',k'<muS bk m/\((∃ sp,σ'=[some bv,some (.ref sp),some .non]/\H sp=none/\Same H H'/\H' sp=some (.dK (kvS []))/\k'=300)\/
    (∃ sp bp m,σ'=[some bv,some (.ref sp),some (.ref bp)]/\H sp=none/\Same H H'/\H' sp=some (.dK (kvS (RdS bk m)))/\H' bp=some (.dK (kvS m))/\(m.map (·.1)).Nodup/\(∀ x,(ao m x).isSome=true-> ∃ s∈bk.sorts,s.name=x)/\LeS m (RdS bk m)/\BdS bk m/\k'=muS bk m)),fun _ _ h=>h,?_⟩
   refine ⟨_,rfl,?_⟩
   refine ⟨_,rfl,_,rfl,bv,bk,sp,RdS bk m,rfl,hB.mono (aK S1),hok,g1,(fun x n e=>lY hok hb2 e),fun p H2 hp s2 g2=>?_⟩
   exact ⟨muS bk (RdS bk m),pQ hok hle hk (hkR m) (fun x n e=>lY hok hb2 e) c,.inr ⟨p,sp,RdS bk m,rfl,S1.free hp,S1.trans s2,g2,s2 _ _ g1,ndR,hkR m,kQ hok hle,hb2,rfl⟩⟩
theorem lr:aI ["book"] ["book"] (aj fX):=fsc
theorem j4 (F:Fun K "forms_that_live" "forms_that_live" fX f fd)
  (GG:ay P w K mg base CX0 2 f3 fd3 ["book","sizes"] fz) (bG:Binds K fd3 ["book","sizes"] []) (kG:PySem.W.keepIn K (.ref f3)=true) (mG:mg "grown_forms"=some (.ref f3))
  (GO:ay P w K mg base CX0 4 f2 fd2 ["book"] fu) (bO:Binds K fd2 ["book"] []) (kO:PySem.W.keepIn K (.ref f2)=true) (mO:mg "least_sizes"=some (.ref f2)):
  ay P w K mg base CX0 5 f fd ["book"] gZ:=by
 refine F.ok lr (fun vs H Q E h=>?_) (fun cdv A outer s H vs Q E hr h=>?_)
 ·obtain ⟨bv,bk,rfl,_⟩:=h
  rfl
 obtain ⟨bv,bk,rfl,hB,hok,q⟩:=h
 refine ⟨_,al (aJ (am GG (hr.mono (by decide)) rfl mG kG bG .nil aw (ac (pv 0) (ac (am GO hr rfl mO kO bO .nil aw (ac (pv 0) ae)) ae)))),?_⟩
 refine ⟨_,rfl,_,rfl,bv,bk,rfl,hB,hok,fun d m H1 hd s1 g1 hf nd h40=>?_⟩
 exact ⟨bv,bk,d,m,rfl,hB.mono (aK s1),hok,g1,fun p zs H2 hp s2 g2 hz=>q p zs m H2 hf (s1.free hp) (s1.trans s2) g2 hz⟩
theorem sD:aI ["book"] ["book"] (aj dJ):=fsc
theorem qX (F:Fun K "live_forms" "live_forms" dJ f fd)
  (GO:ay P w K mg base CX0 5 f2 fd2 ["book"] gZ) (bO:Binds K fd2 ["book"] []) (kO:PySem.W.keepIn K (.ref f2)=true) (mO:mg "forms_that_live"=some (.ref f2)):
  ay P w K mg base CX0 6 f fd ["book"] oQ:=by
 refine F.ok sD (fun vs H Q E h=>?_) (fun cdv A outer s H vs Q E hr h=>?_)
 ·obtain ⟨bv,bk,rfl,_⟩:=h
  rfl
 obtain ⟨bv,bk,rfl,hB,hok,q⟩:=h
 refine ⟨_,al (aJ (cA (sc0:=aj dJ) (N0:=["book"]) (ys:=[]) (fr:=[]) rfl (eI (am GO hr rfl mO kO bO .nil aw (ac (pv 0) ae))) rfl rfl
   cok (fun C s H ex=>ax (r:=iO K) aE (pv 0) ag (fun _ _=>rfl)))),?_⟩
 refine ⟨_,rfl,bv,bk,rfl,hB,hok,fun p zs m H1 hf hp s1 g1 hz=>⟨p,rfl,⟨_,SqL.of g1⟩,?_⟩⟩
 have hfew:=hok.few
 have lz:=Paired.length hz
 have lfl:(bk.forms.filter (aA m)).length<=10:=Nat.le_trans (List.length_filter_le _ _) hfew
 refine cN (by omega) hz (jE g1) (jD g1) (lQ g1) (fun _ fr v=>v=.str (Frm.name fr)) (fun _ h=>h) ?_ ?_
 ·rintro fr v H2 k hfr ⟨a,pa,ra,rv,rfl,ha,_⟩ s2 hk
  exact ⟨_,rfl,a,_,0,.str fr.name,rfl,rfl,SqT.of (s2 _ _ ha),dF,hk _ H2 (Same.refl H2) rfl⟩
 intro p2 ws H2 hp2 s2 g2 hw
 have ew:=bQ hw
 have ew:ws=((bk.forms.filter (aA m)).map Frm.name).map V.str:=by rw [ew,List.map_map];rfl
 subst ew
 exact q p2 m H2 hf (s1.free hp2) (s1.trans s2) g2
theorem i6 (bs:List Bool):(!inV (.bl false) (bs.map V.bl))=bs.all id:=by
 induction bs with
 | nil=>rfl
 | cons b r ih=>
  have e:inV (.bl false) ((b::r).map V.bl)=(eqV (.bl b) (.bl false)||inV (.bl false) (r.map V.bl)):=rfl
  rw [e,List.all_cons,Bool.not_or,ih]
  cases b <;> rfl
theorem kt (bs:List Bool):(bs.map V.bl).all fL=true:=by
 induction bs with
 | nil=>rfl
 | cons b r ih=>rw [List.map_cons,List.all_cons,ih];rfl
theorem tM {d m:Sz} (h: ∀ x n,ao d x=some n->ao m x=some n) {fr:Frm} (hg:aA d fr=true):aA m fr=true/\szB m fr=szB d fr:=by
 unfold szB aA at *
 have go: ∀ l:List Srt,(l.all fun p=>(ao d p.name).isSome)=true->(l.all fun p=>(ao m p.name).isSome)=true/\(l.map fun p=>(ao m p.name).getD 0).sum=(l.map fun p=>(ao d p.name).getD 0).sum:=by
  intro l
  induction l with
  | nil=>intro _;exact ⟨rfl,rfl⟩
  | cons p r ih=>
   intro hp
   rw [List.all_cons,Bool.and_eq_true]at hp
   obtain ⟨k,hk⟩:=Option.isSome_iff_exists.mp hp.1
   obtain ⟨i1,i2⟩:=ih hp.2
   have hk':=h _ _ hk
   refine ⟨by rw [List.all_cons,i1,hk'];rfl,?_⟩
   rw [List.map_cons,List.map_cons,List.sum_cons,List.sum_cons,hk,hk',i2]
 obtain ⟨a,b⟩:=go fr.parts hg
 exact ⟨a,by rw [b]⟩
noncomputable def RlS (m:Sz) (fs:List Frm) (S:Nat) (d:Sz):Prop:= ∀ x n,ao d x=some n↔(ao m x=some n/\(n<=S\/(n=S+1/\ ∃ fr∈fs,fr.own.name=x/\aA m fr=true/\szB m fr=S+1)))
theorem sH {m d:Sz} {fs:List Frm} {S:Nat} (h:RlS m fs S d): ∀ x n,ao d x=some n->ao m x=some n:=fun x n e=>((h x n).mp e).1
theorem ul {m d:Sz} {fs:List Frm} {S:Nat} {fr:Frm} (h:RlS m fs S d) {n:Nat} (hin:ao d fr.own.name=some n):RlS m (fs++[fr]) S d:=fun x k=>by
 refine (h x k).trans ⟨fun ⟨a,b⟩=>⟨a,b.imp id fun ⟨c,fr',h1,h2⟩=>⟨c,fr',List.mem_append_left _ h1,h2⟩⟩,fun ⟨a,b⟩=>⟨a,?_⟩⟩
 rcases b with b | ⟨c,fr',h1,h2,h3⟩
 ·exact .inl b
 ·rcases List.mem_append.mp h1 with h1 | h1
  ·exact .inr ⟨c,fr',h1,h2,h3⟩
  ·rw [List.mem_singleton.mp h1]at h2 h3
   have:=(h x n).mp (by rw [<- h2];exact hin)
   rw [a]at this
   obtain ⟨e,hh⟩:=this
   cases e
   exact hh
theorem pf {m d:Sz} {fs:List Frm} {S:Nat} {fr:Frm} (h:RlS m fs S d) (hno: ¬ (aA m fr=true/\szB m fr=S+1)):RlS m (fs++[fr]) S d:=fun x k=>by
 refine (h x k).trans ⟨fun ⟨a,b⟩=>⟨a,b.imp id fun ⟨c,fr',h1,h2⟩=>⟨c,fr',List.mem_append_left _ h1,h2⟩⟩,fun ⟨a,b⟩=>⟨a,?_⟩⟩
 rcases b with b | ⟨c,fr',h1,h2,h3⟩
 ·exact .inl b
 ·rcases List.mem_append.mp h1 with h1 | h1
  ·exact .inr ⟨c,fr',h1,h2,h3⟩
  ·rw [List.mem_singleton.mp h1]at h3
   exact absurd h3 hno
theorem ph {m d:Sz} {fs:List Frm} {S:Nat} {fr:Frm} (h:RlS m fs S d) (hg:aA m fr=true) (hz:szB m fr=S+1):aA d fr=true:=by
 refine List.all_eq_true.mpr fun p hp=>?_
 obtain ⟨k,hk,hlt⟩:=cI hg hp
 rw [(h p.name k).mpr ⟨hk,.inl (by omega)⟩]
 rfl
theorem kq (d:Sz) (y:Str) (k:Nat) (x:Str):ao (d++[(y,k)]) x=match ao d x with | some n=>some n | none=>if y=x then some k else none:=by
 induction d with
 | nil=>rw [List.nil_append,cx];rfl
 | cons q r ih=>
  rw [List.cons_append,cx,cx,ih]
  by_cases c:q.1=x
  ·rw [if_pos c,if_pos c]
  ·rw [if_neg c,if_neg c]
theorem sI {m d:Sz} {fs:List Frm} {S:Nat} {fr:Frm} (h:RlS m fs S d) (hg:aA m fr=true) (hz:szB m fr=S+1) (h0:ao d fr.own.name=none) (hm:ao m fr.own.name=some (S+1)):RlS m (fs++[fr]) S (d++[(fr.own.name,S+1)]):=fun x k=>by
 rw [kq]
 by_cases c:fr.own.name=x
 ·subst c
  rw [h0]
  show (if fr.own.name=fr.own.name then some (S+1)else none)=some k↔_
  rw [if_pos rfl,hm]
  constructor
  ·intro e
   have:=Option.some.inj e
   exact ⟨e,.inr ⟨this.symm,fr,List.mem_append_right _ (.head _),rfl,hg,hz⟩⟩
  ·intro e;exact e.1
 ·cases e:ao d x with
  | some n=>
   have hx:=pf (fr:=fr) h
   show some n=some k↔_
   rw [<- e,h x k]
   refine ⟨fun ⟨a,b⟩=>⟨a,b.imp id fun ⟨c,fr',h1,h2⟩=>⟨c,fr',List.mem_append_left _ h1,h2⟩⟩,fun ⟨a,b⟩=>⟨a,?_⟩⟩
   rcases b with b | ⟨c2,fr',h1,h2,h3⟩
   ·exact .inl b
   ·rcases List.mem_append.mp h1 with h1 | h1
    ·exact .inr ⟨c2,fr',h1,h2,h3⟩
    ·rw [List.mem_singleton.mp h1]at h2
     exact absurd h2 c
  | none=>
   show (if fr.own.name=x then some (S+1)else none)=some k↔_
   rw [if_neg c]
   refine ⟨fun z=>(by cases z),fun ⟨a,b⟩=>?_⟩
   exfalso
   have:ao d x=some k:=(h x k).mpr ⟨a,by
    rcases b with b | ⟨c2,fr',h1,h2,h3⟩
    ·exact .inl b
    ·rcases List.mem_append.mp h1 with h1 | h1
     ·exact .inr ⟨c2,fr',h1,h2,h3⟩
     ·rw [List.mem_singleton.mp h1]at h2
      exact absurd h2 c⟩
   rw [e]at this
   cases this
noncomputable def jV:Sp:=fun vs H Q _=> ∃ bv bk,vs=[bv]/\RepB H bk bv/\BkG bk/\ ∀ d m H',H d=none->Same H H'->H' d=some (.dK (kvS m))->FixS bk m->(m.map (·.1)).Nodup->(∀ x n,ao m x=some n->n<=40)->Q (.ref d) H'
noncomputable abbrev tO:List Str:=["book","found","size","name","sort","parts","rules"]
theorem scLSz:aI tO ["book"] (aj fA):=fsc
theorem nD (F:Fun K "_law_sizes" "_law_sizes" fA f fd) (G:Gb mg) (hsum:mg "sum"=none):ay P w K mg base CX0 1 f fd ["book"] jV:=by
 refine F.ok scLSz (fun vs H Q E h=>?_) (fun cdv A outer s H vs Q E hr h=>?_)
 ·obtain ⟨bv,bk,rfl,_⟩:=h
  rfl
 obtain ⟨bv,bk,rfl,⟨a,sa,fa,fv,rfl,ha,⟨sx,hsa,hS⟩,hfa,hF⟩,hok,q⟩:=h
 have hu:=dR hr
 refine ⟨_,af (aq (i:=1) scLSz.nd rfl (Or.inr rfl) dC)
  (af (ce PassesOwn.never rfl (nu rfl G.range (ac ag (ac ag ae))) (aL (i:=2) scLSz.nd rfl (Or.inl rfl))
   (al (ce PassesOwn.never rfl (bu (ax aE (pv 0) ag (fun _ _=>rfl)))
    (eW rfl (aT (aL (i:=3) scLSz.nd rfl (Or.inl rfl)) (aT (aL (i:=4) scLSz.nd rfl (Or.inl rfl)) (aT (aL (i:=5) scLSz.nd rfl (Or.inl rfl)) (aT (aL (i:=6) scLSz.nd rfl (Or.inl rfl)) dL)))))
    (al (aW (PW.pt (er (lC (fZ hu (pv 4) (pv 1))) (dl (aD fC iY (cA (sc0:=aj fA) (N0:=tO) (ys:=["found"]) (fr:=[1]) rfl (bu (pv 5)) rfl rfl
       cok (fun C s H ex=>lG (lH hu (pv 0) (pv 1)))) (by with_unfolding_all rfl)))))
     (al (aW (aD cB (au aS ag (ar (kI rfl) rfl hsum (by decide +kernel) (ac (cA (sc0:=aj fA) (N0:=tO) (ys:=["found"]) (fr:=[1]) rfl (bu (pv 5)) rfl rfl
       cok (fun C s H ex=>cz hu (pv 1) (pv 0) (fun _ _=>rfl))) ae))) (pv 2) (aH _))
      (al (fB hu (pv 1) (pv 4) (pv 2) rfl)) aM)) aM)))))
  (al (aJ (pv 1)))),?_⟩
 obtain ⟨m,hM,ndM,h40⟩:=tw hok
 have lF:=hF.len
 have hfew:=hok.few
 refine fun td htd=>?_
 have s0:=ai htd (.dK [])
 have g0:(upd H td (.dK [])) td=some (.dK (kvS [])):=ad
 generalize upd H td (.dK [])=H0 at s0 g0 ⊢
 have hpos: ∀ x n,ao m x=some n->1<=n:=fun x n e=>by
  obtain ⟨fr,_,_,_,hz⟩:=hM.wit e
  unfold szB at hz
  omega
 have hkl: ∀ d:Sz,(d.map (·.1)).Nodup->(∀ x n,ao d x=some n->ao m x=some n)->(kvS d).length<=1000:=fun d nd hd=>by
  have:=fY (r:=bk.sorts.map Srt.name) nd fun y hy=>by
   obtain ⟨n,hn⟩:=Option.isSome_iff_exists.mp (getS_key.mpr hy)
   obtain ⟨t,ht,e⟩:=hM.key y (by rw [hd _ _ hn];rfl)
   exact List.mem_map.mpr ⟨t,ht,e⟩
  have h4:=hok.so.2.1
  rw [List.length_map,List.length_map]at this
  unfold kvS
  rw [List.length_map]
  omega
 refine ⟨1,64,rfl,by decide,?_⟩
 refine cV (n:=63) (fun i σ H'=> ∃ o2 o3 o4 o5 o6 d,σ=[some (.ref a),some (.ref td),o2,o3,o4,o5,o6]/\Same H H'/\H' td=some (.dK (kvS d))/\(d.map (·.1)).Nodup/\ ∀ x n,ao d x=some n↔(ao m x=some n/\n<=i))
  ⟨none,none,none,none,none,[],rfl,s0,g0,List.nodup_nil,fun x n=>⟨fun h=>(by cases h),fun ⟨h1,h2⟩=>(by have:=hpos x n h1;omega)⟩⟩ ?_ ?_
 ·rintro i σ H1 hi ⟨o2,o3,o4,o5,o6,d,rfl,S1,gd1,nd1,hd1⟩
  refine ⟨_,rfl,a,_,2,.ref fa,rfl,rfl,SqT.of (S1 _ _ ha),aG (j:=2) rfl,fa,rfl,⟨fv,SqT.of (S1 _ _ hfa)⟩,?_⟩
  refine fJ (xs:=fv) (fun j σ H'=>j<=fv.length/\ ∃ o3 o4 o5 o6 d,σ=[some (.ref a),some (.ref td),some (.int (1+ (i:Int))),o3,o4,o5,o6]/\Same H H'/\H' td=some (.dK (kvS d))/\(d.map (·.1)).Nodup/\RlS m (bk.forms.take j) i d)
   ⟨Nat.zero_le _,o3,o4,o5,o6,d,rfl,S1,gd1,nd1,fun x n=>(hd1 x n).trans ⟨fun ⟨h1,h2⟩=>⟨h1,.inl h2⟩,fun ⟨h1,h2⟩=>⟨h1,h2.resolve_right fun ⟨_,fr,hfr,_⟩=>by cases hfr⟩⟩⟩ (fun j σ H' _ h=>by obtain ⟨_,_,_,_,_,_,_,sm,_⟩:=h;exact SqT.of (sm _ _ hfa)) ?_ ?_
  ·rintro j x σ H2 hx ⟨hj,o3,o4,o5,o6,d,rfl,S2,gd2,nd2,hR2⟩
   have hjl:j<fv.length:=(List.getElem?_eq_some_iff.mp hx).1
   obtain ⟨fr,hfr,b,pa,ra,rv,rfl,hb,hpa,hra,_⟩:=aP hF hx
   have hfm:=List.mem_of_getElem? hfr
   obtain ⟨hown,hparts,hp3⟩:=hok.ok fr hfm
   have hsub:=sH hR2
   have etk:bk.forms.take (j+1)=bk.forms.take j++[fr]:=by rw [List.take_add_one,hfr];rfl
   have hpl:(a8 fr.parts).length=fr.parts.length:=List.length_map _
   refine ⟨b,_,rfl,SqT.of (S2 _ _ hb),rfl,_,_,rfl,_,_,rfl,_,_,rfl,_,_,rfl,rfl,?_⟩
   refine ⟨_,rfl,_,rfl,td,_,rfl,DGet.k (k:=.inr fr.own.name) gd2,_,rfl,?_⟩
   cases hown2:ao d fr.own.name with
   | some n=>
    rw [show (!(bn (kvS d) (.inr fr.own.name)).isSome)=false by rw [bf,hown2];rfl]
    refine bi (bi ?_)
    exact ⟨hjl,_,_,_,_,d,rfl,S2,gd2,nd2,by rw [etk];exact ul hR2 hown2⟩
   | none=>
    rw [show (!(bn (kvS d) (.inr fr.own.name)).isSome)=true by rw [bf,hown2];rfl]
    refine bd ⟨_,rfl,pa,rfl,⟨_,SqT.of (S2 _ _ hpa)⟩,?_⟩
    refine cN (by omega) (bo fr.parts) (cF (S2 _ _ hpa)) (cE (S2 _ _ hpa)) (db (S2 _ _ hpa)) (fun _ p v=>v=.bl (ao d p.name).isSome) (fun _ h=>h) ?_ ?_
    ·rintro p v H' k' hp rfl s' hk'
     refine ⟨_,rfl,_,rfl,td,_,rfl,DGet.k (k:=.inr p.name) (s' _ _ gd2),hk' _ H' (Same.refl H') ?_⟩
     rw [bf]
     cases ao d p.name <;> rfl
    intro p3 zs H3 hp3' s3 g3 hz
    have ez:=bQ hz
    have ez:zs=(fr.parts.map fun p=>(ao d p.name).isSome).map V.bl:=by rw [ez,List.map_map];rfl
    subst ez
    have S3:=S2.trans s3
    have gd3:=s3 _ _ gd2
    refine ⟨p3,_,rfl,.inl (SqL.of g3),rfl,kt _,_,rfl,?_⟩
    have eg:(!inV (.bl false) ((fr.parts.map fun p=>(ao d p.name).isSome).map V.bl))=aA d fr:=by
     rw [i6,List.all_map];rfl
    refine (show if (!inV (.bl false) ((fr.parts.map fun p=>(ao d p.name).isSome).map V.bl))=true then _ else _ from ?_)
    rw [eg]
    by_cases hg:aA d fr=true
    ·rw [if_pos hg]
     obtain ⟨hgm,hzm⟩:=tM hsub hg
     refine ⟨_,rfl,pa,rfl,⟨_,SqT.of (S3 _ _ hpa)⟩,?_⟩
     refine cN (by omega) (bo fr.parts) (cF (S3 _ _ hpa)) (cE (S3 _ _ hpa)) (db (S3 _ _ hpa)) (fun _ p v=>v=.int (((ao d p.name).getD 0:Nat):Int)) (fun _ h=>h) ?_ ?_
     ·rintro p v H' k hp rfl s' hk
      obtain ⟨n,hn,_⟩:=cI hg hp
      have hv:bn (kvS d) (.inr p.name)=some (.int ((n:Nat):Int)):=by rw [bf,hn];rfl
      refine ⟨_,rfl,_,rfl,td,.int ((n:Nat):Int),rfl,(by rw [<- hv];exact DGet.k (k:=.inr p.name) (s' _ _ gd3)),hk _ H' (Same.refl H') (by rw [hn];rfl)⟩
     intro p4 ws H4 hp4 s4 g4 hw
     have ew:=bQ hw
     have ew:ws=((fr.parts.map fun p=>(ao d p.name).getD 0).map fun m=>((m:Nat):Int)).map V.int:=by rw [ew,List.map_map,List.map_map];rfl
     subst ew
     have S4:=S3.trans s4
     have gd4:=s4 _ _ gd3
     refine ⟨p4,_,rfl,SqL.of g4,by rw [List.length_map,List.length_map];omega,fun n hn=>?_,?_⟩
     ·obtain ⟨k,hk,rfl⟩:=List.mem_map.mp hn
      obtain ⟨sr,hsr,rfl⟩:=List.mem_map.mp hk
      obtain ⟨n,hn,_⟩:=cI hg hsr
      have:=h40 _ _ (hsub _ _ hn)
      rw [hn]
      show (0:Int)<=(n:Int)/\(n:Int)<=1000000
      omega
     rw [jT]
     refine ⟨_,_,rfl,rfl,_,rfl,rfl,_,rfl,?_⟩
     have ed:decide ((fun (i j:Int)=>V.int (i+j)) 1 (((fr.parts.map fun p=>(ao d p.name).getD 0).sum:Nat):Int)=V.int (1+ (i:Int)))=decide (szB d fr=i+1):=by
      refine decide_eq_decide.mpr ?_
      unfold szB
      constructor
      ·intro e
       have e:(1:Int) + (((fr.parts.map fun p=>(ao d p.name).getD 0).sum:Nat):Int)=1+ (i:Int):=V.int.inj e
       omega
      ·intro e
       exact congrArg V.int (show (1:Int) + (((fr.parts.map fun p=>(ao d p.name).getD 0).sum:Nat):Int)=1+ (i:Int) by omega)
     refine (show if (decide ((fun (i j:Int)=>V.int (i+j)) 1 (((fr.parts.map fun p=>(ao d p.name).getD 0).sum:Nat):Int)=V.int (1+ (i:Int))))=true then _ else _ from ?_)
     rw [ed]
     by_cases hsz:szB d fr=i+1
     ·rw [decide_eq_true hsz]
      refine bd ?_
      obtain ⟨n0,hn0,hle⟩:=hM.low hok hfm hgm
      have en:n0=i+1:=by
       by_cases c:n0<=i
       ·have:=(hR2 fr.own.name n0).mpr ⟨hn0,.inl c⟩
        rw [hown2]at this
        cases this
       ·omega
      subst en
      refine ⟨_,rfl,_,rfl,_,rfl,td,_,rfl,DPut.k (k:=.inr fr.own.name) gd4 (aF (hkl d nd2 hsub)),?_⟩
      rw [show V.int (1+ (i:Int))=V.int (((i+1:Nat)):Int)from congrArg V.int (by omega),ml hown2]
      refine ⟨hjl,_,_,_,_,d++[(fr.own.name,i+1)],rfl,fun b o h=>?_,ad,?_,by rw [etk];exact sI hR2 hgm (by omega) hown2 hn0⟩
      ·rw [ah (ak h htd)];exact S4 _ _ h
      ·rw [List.map_append,List.nodup_append]
       refine ⟨nd2,by simp,fun x hx y hy=>?_⟩
       rw [List.mem_singleton.mp hy]
       rintro rfl
       have:=getS_key.mpr hx
       rw [hown2]at this
       cases this
     ·rw [decide_eq_false hsz]
      refine bi ?_
      exact ⟨hjl,_,_,_,_,d,rfl,S4,gd4,nd2,by rw [etk];exact pf hR2 fun ⟨_,z⟩=>hsz (by omega)⟩
    ·rw [if_neg hg]
     exact ⟨hjl,_,_,_,_,d,rfl,S3,gd3,nd2,by rw [etk];exact pf hR2 fun ⟨z1,z2⟩=>hg (ph hR2 z1 z2)⟩
  ·rintro σ H2 ⟨_,o3,o4,o5,o6,d,rfl,S2,gd2,nd2,hR2⟩
   rw [<- lF,List.take_length]at hR2
   refine ⟨_,_,_,_,_,d,rfl,S2,gd2,nd2,fun x n=>(hR2 x n).trans ⟨fun ⟨h1,h2⟩=>⟨h1,?_⟩,fun ⟨h1,h2⟩=>⟨h1,?_⟩⟩⟩
   ·rcases h2 with h2 | ⟨h2,_⟩ <;> omega
   ·by_cases c:n<=i
    ·exact .inl c
    ·have e:n=i+1:=by omega
     subst e
     obtain ⟨fr,hf,hg,ho,hz⟩:=hM.wit h1
     exact .inr ⟨rfl,fr,hf,ho,hg,hz⟩
 ·rintro σ H1 ⟨o2,o3,o4,o5,o6,d,rfl,S1,gd1,nd1,hd1⟩
  have eq: ∀ x,ao d x=ao m x:=fun x=>by
   cases e:ao m x with
   | some n=>exact (hd1 x n).mpr ⟨e,by have:=h40 x n e;omega⟩
   | none=>
    cases e2:ao d x with
    | none=>rfl
    | some n=>
     have:=((hd1 x n).mp e2).1
     rw [e]at this
     cases this
  refine ⟨_,rfl,q td d H1 htd S1 gd1 ⟨fun x hx=>hM.key x (by rw [<- eq];exact hx),fun t ht=>?_⟩ nd1 fun x n e=>h40 x n (by rw [<- eq];exact e)⟩
  rw [eq,hM.fix t ht,(gh eq).2]
theorem dM (ps:List Srt):(a8 ps).length=ps.length:=List.length_map _
theorem gw {α β:Type} {F:α->β->Prop}: ∀ {l:List α} {r:List β} {i:Nat} {a:α},Paired F l r->l[i]? =some a-> ∃ b,r[i]? =some b/\F a b
 | _,_,i,a,.nil,e=>by cases i <;> cases e
 | _,_,0,a,.cons h _,e=>⟨_,rfl,by cases e;exact h⟩
 | _,_,i+1,a,.cons _ t,e=>gw (i:=i) t e
inductive Th where
 | tup (l:List Th)
 | str (x:Str)
 | lst
 | dic
 | non
 | int (i:Int)
 | bl (b:Bool)
noncomputable def RepH (H:Hp):Nat->Th->V->Prop
 | 0,_,_=>False
 | n+1,.tup l,v=> ∃ a vs,v=.ref a/\H a=some (.tup vs)/\Paired (RepH H n) l vs
 | _+1,.str x,v=>v=.str x/\x.length<=1000
 | _+1,.lst,v=> ∃ a xs,v=.ref a/\H a=some (.lst xs)
 | _+1,.dic,v=> ∃ a,v=.ref a/\H a=some (.dK [])
 | _+1,.non,v=>v=.non
 | _+1,.int i,v=>v=.int i
 | _+1,.bl b,v=>v=.bl b
theorem RepH.same {H H':Hp} (s:Same H H'): ∀ {n:Nat} {t:Th} {v:V},RepH H n t v->RepH H' n t v
 | 0,_,_,h=>h.elim
 | n+1,.tup _,_,⟨a,vs,e,h1,h2⟩=>⟨a,vs,e,s _ _ h1,Paired.mapP h2 fun _ _ r=>RepH.same s r⟩
 | _+1,.str _,_,h=>h
 | _+1,.lst,_,⟨a,xs,e,h⟩=>⟨a,xs,e,s _ _ h⟩
 | _+1,.dic,_,⟨a,e,h⟩=>⟨a,e,s _ _ h⟩
 | _+1,.non,_,h=>h
 | _+1,.int _,_,h=>h
 | _+1,.bl _,_,h=>h
theorem RepH.sh {H:Hp}: ∀ {n:Nat} {t:Th} {v:V},RepH H n t v->Sh H v
 | 0,_,_,h=>h.elim
 | n+1,.tup _,_,⟨a,vs,e,h1,h2⟩=>by subst e;exact .inr (.inl ⟨vs,h1⟩)
 | _+1,.str _,_,h=>by obtain ⟨rfl,h⟩:=h;exact h
 | _+1,.lst,_,⟨a,xs,e,h⟩=>by subst e;exact .inl ⟨xs,h⟩
 | _+1,.dic,_,⟨a,e,h⟩=>by subst e;exact .inr (.inr ⟨[],h⟩)
 | _+1,.non,_,h=>by subst h;exact True.intro
 | _+1,.int _,_,h=>by subst h;exact True.intro
 | _+1,.bl _,_,h=>by subst h;exact True.intro
noncomputable def Th.isTup:Th->Bool
 | .tup _=>true
 | _=>false
noncomputable def Th.isStr:Th->Bool
 | .str _=>true
 | _=>false
theorem RepH.isTup {H:Hp}: ∀ {n:Nat} {t:Th} {v:V},RepH H n t v->isV "tuple" H v=t.isTup
 | 0,_,_,h=>h.elim
 | n+1,.tup _,_,⟨a,vs,e,h1,h2⟩=>by subst e;simp only [isV,h1];rfl
 | _+1,.str _,_,h=>by obtain ⟨rfl,h⟩:=h;rfl
 | _+1,.lst,_,⟨a,xs,e,h⟩=>by subst e;simp only [isV,h];rfl
 | _+1,.dic,_,⟨a,e,h⟩=>by subst e;simp only [isV,h];rfl
 | _+1,.non,_,h=>by subst h;rfl
 | _+1,.int _,_,h=>by subst h;rfl
 | _+1,.bl _,_,h=>by subst h;rfl
theorem RepH.isStr {H:Hp}: ∀ {n:Nat} {t:Th} {v:V},RepH H n t v->isV "str" H v=t.isStr
 | 0,_,_,h=>h.elim
 | n+1,.tup _,_,⟨a,vs,e,h1,h2⟩=>by subst e;simp only [isV,h1];rfl
 | _+1,.str _,_,h=>by obtain ⟨rfl,h⟩:=h;rfl
 | _+1,.lst,_,⟨a,xs,e,h⟩=>by subst e;simp only [isV,h];rfl
 | _+1,.dic,_,⟨a,e,h⟩=>by subst e;simp only [isV,h];rfl
 | _+1,.non,_,h=>by subst h;rfl
 | _+1,.int _,_,h=>by subst h;rfl
 | _+1,.bl _,_,h=>by subst h;rfl
noncomputable def bX (c:Th->Option (Srt×Nat)):List Th->List Srt->Option Nat
 | [],[]=>some 0
 | t::r,q::qs=>match c t with
  | some (s,k)=>if s.name=q.name then (bX c r qs).map (k+ ·)else none
  | none=>none
 | _,_=>none
noncomputable def tI (bk:Bk) (c:Th->Option (Srt×Nat)):Th->Option (Srt×Nat)
 | .tup [.str nm,.tup l]=>match cD nm bk.forms with
  | some fr=>(bX c l fr.parts).map fun k=>(fr.own,k+1)
  | none=>none
 | _=>none
noncomputable def chk (bk:Bk):Nat->Th->Option (Srt×Nat)
 | 0,_=>none
 | n+1,t=>tI bk (chk bk n) t
theorem fh {c d:Th->Option (Srt×Nat)}: ∀ {l:List Th} {qs:List Srt},(∀ t∈l,c t=d t)->bX c l qs=bX d l qs
 | [],[],_=>rfl
 | [],_::_,_=>rfl
 | _::_,[],_=>rfl
 | t::r,q::qs,h=>by
  show (match c t with | some (s,k)=>if s.name=q.name then (bX c r qs).map (k+ ·)else none | none=>none)=(match d t with | some (s,k)=>if s.name=q.name then (bX d r qs).map (k+ ·)else none | none=>none)
  rw [h t List.mem_cons_self,fh fun u hu=>h u (List.mem_cons_of_mem _ hu)]
theorem eA {α β:Type} {F:α->β->Prop}: ∀ {l:List α} {r:List β} {a:α},Paired F l r->a∈l-> ∃ b,F a b
 | _,_,a,.cons h t,m=>by
  rcases List.mem_cons.mp m with rfl | m
  ·exact ⟨_,h⟩
  ·exact eA t m
theorem de {H:Hp} {bk:Bk}: ∀ {n m:Nat} {t:Th} {v:V},RepH H n t v->n<=m->chk bk m t=chk bk n t
 | 0,_,_,_,h,_=>h.elim
 | n+1,0,_,_,_,hm=>by omega
 | n+1,m+1,t,v,h,hm=>by
  show tI bk (chk bk m) t=tI bk (chk bk n) t
  cases t with
  | tup l=>
   obtain ⟨a,vs,e,h1,h2⟩:=h
   match l with
   | []=>rfl
   | [_]=>cases ‹Th› <;> rfl
   | [.str nm,.tup l2]=>
    show (match cD nm bk.forms with | some fr=>(bX (chk bk m) l2 fr.parts).map fun k=>(fr.own,k+1) | none=>none)=(match cD nm bk.forms with | some fr=>(bX (chk bk n) l2 fr.parts).map fun k=>(fr.own,k+1) | none=>none)
    cases cD nm bk.forms with
    | none=>rfl
    | some fr=>
     have hc: ∀ u∈l2,chk bk m u=chk bk n u:=by
      intro u hu
      cases h2 with
      | cons _ t2=>
       cases t2 with
       | @cons _ b2 _ _ x _=>
        cases n with
        | zero=>exact x.elim
        | succ n=>
         obtain ⟨a2,vs2,e2,g1,g2⟩:=x
         obtain ⟨b,hb⟩:=eA g2 hu
         rw [de hb (show n<=m by omega),de hb (show n<=n+1 by omega)]
     show (bX (chk bk m) l2 fr.parts).map _=(bX (chk bk n) l2 fr.parts).map _
     rw [fh hc]
   | [.str _,.str _]=>rfl
   | [.str _,.lst]=>rfl
   | [.str _,.dic]=>rfl
   | [.str _,.non]=>rfl
   | [.str _,.int _]=>rfl
   | [.str _,.bl _]=>rfl
   | [.tup _,_]=>rfl
   | [.lst,_]=>rfl
   | [.dic,_]=>rfl
   | [.non,_]=>rfl
   | [.int _,_]=>rfl
   | [.bl _,_]=>rfl
   | .str _::y::_::_=>cases y <;> rfl
   | .tup _::_::_::_=>rfl
   | .lst::_::_::_=>rfl
   | .dic::_::_::_=>rfl
   | .non::_::_::_=>rfl
   | .int _::_::_::_=>rfl
   | .bl _::_::_::_=>rfl
  | str _=>rfl
  | lst=>rfl
  | dic=>rfl
  | non=>rfl
  | int _=>rfl
  | bl _=>rfl
theorem ja {c:Th->Option (Srt×Nat)}: ∀ (l:List Th) (qs:List Srt) (i:Nat),bX c (l.take i) (qs.take i)=none->bX c l qs=none
 | [],[],i,h=>by rw [List.take_nil,List.take_nil]at h;cases h
 | [],q::qs,i,h=>rfl
 | t::r,[],i,h=>rfl
 | t::r,q::qs,0,h=>by cases h
 | t::r,q::qs,i+1,h=>by
  have h:(match c t with | some (s,k)=>if s.name=q.name then (bX c (r.take i) (qs.take i)).map (k+ ·)else none | none=>none)=none:=h
  show (match c t with | some (s,k)=>if s.name=q.name then (bX c r qs).map (k+ ·)else none | none=>none)=none
  cases hc:c t with
  | none=>rfl
  | some p=>
   obtain ⟨s,k⟩:=p
   rw [hc]at h
   have h:(if s.name=q.name then (bX c (r.take i) (qs.take i)).map (k+ ·)else none)=none:=h
   show (if s.name=q.name then (bX c r qs).map (k+ ·)else none)=none
   by_cases e:s.name=q.name
   ·rw [if_pos e]at h ⊢
    rw [ja r qs i (Option.map_eq_none_iff.mp h)]
    rfl
   ·rw [if_neg e]
noncomputable def gH (c:Th->Option (Srt×Nat)) (t:Th) (q:Srt):Option Nat:=match c t with
 | some (s,k)=>if s.name=q.name then some k else none
 | none=>none
theorem i9 {c:Th->Option (Srt×Nat)} (t:Th) (q:Srt): ∀ (l:List Th) (qs:List Srt),l.length=qs.length->bX c (l++[t]) (qs++[q])=(bX c l qs).bind fun S=>(gH c t q).map (S+ ·)
 | [],[],_=>by
  show (match c t with | some (s,k)=>if s.name=q.name then (some 0).map (k+ ·)else none | none=>none)=(gH c t q).map (0+ ·)
  unfold gH
  cases c t with
  | none=>rfl
  | some p=>
   obtain ⟨s,k⟩:=p
   by_cases e:s.name=q.name
   ·show (if s.name=q.name then (some 0).map (k+ ·)else none)=(if s.name=q.name then some k else none).map (0+ ·)
    rw [if_pos e,if_pos e]
    show some (k+0)=some (0+k)
    rw [Nat.add_comm]
   ·show (if s.name=q.name then (some 0).map (k+ ·)else none)=(if s.name=q.name then some k else none).map (0+ ·)
    rw [if_neg e,if_neg e]
    rfl
 | u::r,p::ps,h=>by
  have ih:=i9 (c:=c) t q r ps (by simpa using h)
  show (match c u with | some (s,k)=>if s.name=p.name then (bX c (r++[t]) (ps++[q])).map (k+ ·)else none | none=>none)=Option.bind (match c u with | some (s,k)=>if s.name=p.name then (bX c r ps).map (k+ ·)else none | none=>none) _
  rw [ih]
  cases c u with
  | none=>rfl
  | some x=>
   obtain ⟨s,k⟩:=x
   show (if s.name=p.name then ((bX c r ps).bind fun S=>(gH c t q).map (S+ ·)).map (k+ ·)else none)=Option.bind (if s.name=p.name then (bX c r ps).map (k+ ·)else none) _
   by_cases e:s.name=p.name
   ·rw [if_pos e,if_pos e]
    cases bX c r ps with
    | none=>rfl
    | some S=>
     show ((gH c t q).map (S+ ·)).map (k+ ·)=(gH c t q).map ((k+S) + ·)
     cases gH c t q with
     | none=>rfl
     | some y=>show some (k+ (S+y))=some (k+S+y);rw [Nat.add_assoc]
   ·rw [if_neg e,if_neg e]
    rfl
 | [],_::_,h=>by simp at h
 | _::_,[],h=>by simp at h
theorem rD {c:Bool} {l1 l2:Addr} {xs ys:List V} {g:TG} {tb:TS} {D:eP} {σ:St} {H:Hp} (hl:xs.length=ys.length) (Pv:Nat->St->Hp->Prop) (h0:Pv 0 σ H)
  (hh: ∀ i σ H,Pv i σ H->H l1=some (du c xs)/\H l2=some (du c ys))
  (hs: ∀ i x y σ H T,xs[i]? =some x->ys[i]? =some y->Pv i σ H->H T=none->g (.ref T) σ (upd H T (.tup [x,y])) fun σ2 H2=>tb {D with nx:=Pv (i+1),ct:=Pv (i+1),bk:=D.nx} σ2 H2) (hd: ∀ σ H,Pv xs.length σ H->D.nx σ H):
  ∃ W:Nat->Nat->St->Hp->Prop,(∃ m,W 0 m σ H)/\ ∀ i m σ H,W i m σ H->
   ((Itz c l1 l2).stop i H/\D.nx σ H)\/((Itz c l1 l2).go i H/\ ∃ N:St->Hp->Prop,(∀ σ' H',N σ' H'-> ∃ m',m'<m/\W (i+1) m' σ' H')/\ ∀ x H',(Itz c l1 l2).yld i H x H'->g x σ H' fun σ2 H2=>tb {D with nx:=N,ct:=N,bk:=D.nx} σ2 H2):=by
 refine ⟨fun i m σ H=>m=xs.length-i/\i<=xs.length/\Pv i σ H,⟨xs.length,by simp,Nat.zero_le _,h0⟩,?_⟩
 rintro i m σ H ⟨rfl,hi,p⟩
 obtain ⟨q1,q2⟩:=hh i σ H p
 by_cases hlt:i<xs.length
 ·refine .inr ⟨⟨xs,ys,xs[i],ys[i],q1,q2,List.getElem?_eq_getElem hlt,List.getElem?_eq_getElem (by omega)⟩,Pv (i+1),fun σ' H' p'=>⟨xs.length- (i+1),by omega,rfl,hlt,p'⟩,?_⟩
  rintro _ _ ⟨T,x,y,fT,rfl,rfl,hxy⟩
  obtain ⟨ex,ey⟩:=hxy xs ys q1 q2
  exact hs i x y σ H T ex ey p fT
 ·have e:i=xs.length:=by omega
  subst e
  exact .inl ⟨⟨xs,ys,q1,q2,rfl,hl.symm⟩,hd σ H p⟩
theorem lI {α β:Type} {F:α->β->Prop} {l:List α} {v0 v1:β} (h:Paired F l [v0,v1]): ∃ t0 t1,l=[t0,t1]/\F t0 v0/\F t1 v1:=by
 cases h with
 | cons a h=>cases h with
  | cons b h=>cases h with
   | nil=>exact ⟨_,_,rfl,a,b⟩
noncomputable def eD (n:Nat):Sp:=fun vs H Q _=> ∃ bv bk th v,vs=[bv,v]/\RepB H bk bv/\BkG bk/\RepH H (2*n) th v/\(chk bk (2*n) th=none-> ∀ H',Same H H'->Q .non H')/\
 (∀ s k,chk bk (2*n) th=some (s,k)-> ∀ p (dp:Int) H',Same H H'->H' p=some (.tup [.str (Srt.name s),.int ((k:Nat):Int),.int dp])->Q (.ref p) H')
noncomputable abbrev tP:List Str:=["book","thing","form","size","deep","name","part","found"]
theorem scCheck:aI tP ["book","thing"] (aj jt):=fsc
theorem nG {n:Nat} (F:Fun K "_law_check" "_law_check" jt f fd) (G:Gb mg) (hzip:mg "zip"=none)
  (GF:ay P w K mg base CX0 1 f2 fd2 ["book","name"] hV) (bF:Binds K fd2 ["book","name"] []) (kF:PySem.W.keepIn K (.ref f2)=true) (mF:mg "_law_form_of"=some (.ref f2))
  (GS:ay P w K mg base CX0 (n+2) f fd ["book","thing"] (eD n)) (bS:Binds K fd ["book","thing"] []) (mS:mg "_law_check"=some (.ref f)):
  ay P w K mg base CX0 (n+3) f fd ["book","thing"] (eD (n+1)):=by
 refine F.ok scCheck (fun vs H Q E h=>?_) (fun cdv A outer s H vs Q E hr h=>?_)
 ·obtain ⟨bv,bk,th,v,rfl,_⟩:=h
  rfl
 obtain ⟨bv,bk,th,v,rfl,hB,hok,hR,qn,qs⟩:=h
 have hr1:=hr.mono (show 1<=n+2 by omega)
 refine ⟨_,af (aW (PW.pt (dQ (cZ (cc (ar bj rfl G.isi (by decide +kernel) (ac (pv 1) (ac (bh (v:=.ty "tuple") rfl G.tuple (by decide +kernel) rfl) ae)))))
    (dQ (aD gy (ar av rfl G.len PySem.boot_len (ac (pv 1) ae)) ag (aH _))
    (el (cZ (cc (ar bj rfl G.isi (by decide +kernel) (ac (ax aE (pv 1) ag (fun _ _=>rfl)) (ac (bh (v:=.ty "str") rfl G.str (by decide +kernel) rfl) ae)))))))))
   (al (aJ cP)) aM)
  (af (aq (i:=2) scCheck.nd rfl (Or.inl rfl) (am GF hr1 rfl mF kF bF .nil aw (ac (pv 0) (ac (ax aE (pv 1) ag (fun _ _=>rfl)) ae))))
  (af (aW (PW.pt (dQ (aD ik (pv 2) cP (aH _))
    (dQ (cZ (cc (ar bj rfl G.isi (by decide +kernel) (ac (ax aE (pv 1) ag (fun _ _=>rfl)) (ac (bh (v:=.ty "tuple") rfl G.tuple (by decide +kernel) rfl) ae)))))
    (el (aD gy (ar av rfl G.len PySem.boot_len (ac (ax aE (pv 1) ag (fun _ _=>rfl)) ae)) (ar av rfl G.len PySem.boot_len (ac (ax aE (pv 2) ag (fun _ _=>rfl)) ae)) (aH _))))))
   (al (aJ cP)) aM)
  (af (aq (i:=3) scCheck.nd rfl (Or.inl rfl) ag)
  (af (aq (i:=4) scCheck.nd rfl (Or.inl rfl) ag)
  (af (ce PassesOwn.never rfl (pz rfl hzip (ac (ax aE (pv 2) ag (fun _ _=>rfl)) (ac (ax aE (pv 1) ag (fun _ _=>rfl)) ae)))
    (eW rfl (aT (aL (i:=5) scCheck.nd rfl (Or.inl rfl)) (aT (aL (i:=6) scCheck.nd rfl (Or.inl rfl)) dL)))
   (af (aq (i:=7) scCheck.nd rfl (Or.inl rfl) (am GS hr rfl mS F.kp bS .nil aw (ac (pv 0) (ac (pv 6) ae))))
   (af (aW (PW.pt (dQ (aD ik (pv 7) cP (aH _)) (el (aD gy (ax aE (pv 7) ag (fun _ _=>rfl)) (pv 5) (aH _))))) (al (aJ cP)) aM)
   (af (aq (i:=3) scCheck.nd rfl (Or.inl rfl) (au aS (pv 3) (ax aE (pv 7) ag (fun _ _=>rfl))))
   (al (aq (i:=4) scCheck.nd rfl (Or.inl rfl) (ar (gk rfl) rfl G.max (by decide +kernel) (ac (pv 4) (ac (ax aE (pv 7) ag (fun _ _=>rfl)) ae)))))))))
  (al (aJ (aY (ac (ax aE (pv 2) ag (fun _ _=>rfl)) (ac (pv 3) (ac (au aS (pv 4) ag) ae))))))))))),?_⟩
 have e2n:2* (n+1)=(2*n+1) +1:=by omega
 rw [e2n]at hR qn qs
 have same0:Same H H:=fun _ _ h=>h
 refine ⟨_,rfl,_,"tuple",rfl,hR.sh,by simp,_,rfl,?_⟩
 rw [hR.isTup]
 cases th with
 | str x=>exact bd (qn rfl H same0)
 | lst=>exact bd (qn rfl H same0)
 | dic=>exact bd (qn rfl H same0)
 | non=>exact bd (qn rfl H same0)
 | int i=>exact bd (qn rfl H same0)
 | bl b=>exact bd (qn rfl H same0)
 | tup l=>
  obtain ⟨a,vs,rfl,ha,hp⟩:=hR
  have hl:=Paired.length hp
  refine bi ⟨_,rfl,a,vs,rfl,.inr (SqT.of ha),rfl,_,rfl,?_⟩
  by_cases hlen:vs.length=2
  ·rw [show (!decide (V.int ((vs.length:Nat):Int)=V.int 2))=false by rw [hlen];rfl]
   obtain ⟨v0,v1,rfl⟩: ∃ v0 v1,vs=[v0,v1]:=by
    match vs,hlen with
    | [v0,v1],_=>exact ⟨v0,v1,rfl⟩
   obtain ⟨t0,t1,rfl,r0,r1⟩:=lI hp
   ·skip
    refine bi ⟨_,rfl,a,_,0,v0,rfl,rfl,SqT.of ha,dF,_,"str",rfl,r0.sh,by simp,_,rfl,?_⟩
    rw [r0.isStr]
    cases t0 with
    | tup x=>exact bd (qn (by cases t1 <;> rfl) H same0)
    | lst=>exact bd (qn (by cases t1 <;> rfl) H same0)
    | dic=>exact bd (qn (by cases t1 <;> rfl) H same0)
    | non=>exact bd (qn (by cases t1 <;> rfl) H same0)
    | int i=>exact bd (qn (by cases t1 <;> rfl) H same0)
    | bl b=>exact bd (qn (by cases t1 <;> rfl) H same0)
    | str nm=>
     obtain ⟨rfl,hnm⟩:=r0
     refine bi ⟨_,rfl,_,rfl,a,_,0,_,rfl,rfl,SqT.of ha,dF,bv,bk,nm,rfl,hB,by have:=hok.few;omega,fun fv hfv=>?_⟩
     cases hF:cD nm bk.forms with
     | none=>
      rw [hF]at hfv
      obtain rfl:fv=.non:=hfv
      refine ⟨_,rfl,rfl,_,rfl,?_⟩
      rw [decide_eq_true rfl]
      refine bd (bd ?_)
      refine qn ?_ H same0
      cases t1 with
      | tup l2=>show (match cD nm bk.forms with | some fr=>(bX (chk bk (2*n+1)) l2 fr.parts).map fun k=>(fr.own,k+1) | none=>none)=none;rw [hF]
      | str x=>rfl
      | lst=>rfl
      | dic=>rfl
      | non=>rfl
      | int i=>rfl
      | bl b=>rfl
     | some fr=>
      rw [hF]at hfv
      obtain ⟨fa,fpa,fra,frv,rfl,gfa,gfp,gfr,_⟩:=(hfv:RepF H fr fv)
      refine ⟨_,rfl,rfl,_,rfl,?_⟩
      rw [show decide (V.ref fa=V.non)=false from decide_eq_false fun e=>nomatch e]
      refine bi ⟨_,rfl,a,_,1,v1,rfl,rfl,SqT.of ha,aG (j:=1) rfl,_,"tuple",rfl,r1.sh,by simp,_,rfl,?_⟩
      rw [r1.isTup]
      cases t1 with
      | str x=>exact bd (bd (qn rfl H same0))
      | lst=>exact bd (bd (qn rfl H same0))
      | dic=>exact bd (bd (qn rfl H same0))
      | non=>exact bd (bd (qn rfl H same0))
      | int i=>exact bd (bd (qn rfl H same0))
      | bl b=>exact bd (bd (qn rfl H same0))
      | tup l2=>
       obtain ⟨b,ws,rfl,hb,hp2⟩:=r1
       have hl2:=Paired.length hp2
       have hchk:chk bk (2*n+1+1) (.tup [.str nm,.tup l2])=(bX (chk bk (2*n)) l2 fr.parts).map fun k=>(fr.own,k+1):=by
        show (match cD nm bk.forms with | some fr=>(bX (chk bk (2*n+1)) l2 fr.parts).map fun k=>(fr.own,k+1) | none=>none)=_
        rw [hF]
        show (bX (chk bk (2*n+1)) l2 fr.parts).map _=_
        rw [fh (d:=chk bk (2*n)) fun u hu=>by obtain ⟨y,hy⟩:=eA hp2 hu;exact de hy (by omega)]
       rw [hchk]at qn qs
       refine bi ⟨_,rfl,a,_,1,_,rfl,rfl,SqT.of ha,aG (j:=1) rfl,b,ws,rfl,.inr (SqT.of hb),_,rfl,fa,_,2,_,rfl,rfl,SqT.of gfa,aG (j:=2) rfl,fpa,_,rfl,.inr (SqT.of gfp),rfl,_,rfl,?_⟩
       by_cases hlp:ws.length=(a8 fr.parts).length
       ·rw [show (!decide (V.int ((ws.length:Nat):Int)=V.int (((a8 fr.parts).length:Nat):Int)))=false by rw [hlp,decide_eq_true rfl];rfl]
        refine bi ?_
        refine ⟨_,rfl,fa,_,2,_,rfl,rfl,SqT.of gfa,aG (j:=2) rfl,_,rfl,a,_,1,_,rfl,rfl,SqT.of ha,aG (j:=1) rfl,true,fpa,b,_,ws,rfl,gfp,hb,?_⟩
        have hpl:=dM fr.parts
        refine rD (c:=true) hlp.symm (fun i σ H'=> ∃ S dp o5 o6 o7,σ=[some bv,some (.ref a),some (.ref fa),some (.int (((1+S:Nat)):Int)),some (.int dp),o5,o6,o7]/\Same H H'/\bX (chk bk (2*n)) (l2.take i) (fr.parts.take i)=some S)
         ⟨0,0,none,none,none,rfl,same0,rfl⟩ (fun i σ H' h=>by obtain ⟨_,_,_,_,_,_,sm,_⟩:=h;exact ⟨sm _ _ gfp,sm _ _ hb⟩) ?_ ?_
        ·rintro i x y σ H1 T hx hy ⟨S,dp,o5,o6,o7,rfl,S1,hS⟩ hT
         have s2:=ai hT (.tup [x,y])
         have g2:(upd H1 T (.tup [x,y])) T=some (.tup [x,y]):=ad
         generalize upd H1 T (.tup [x,y])=H2 at s2 g2 ⊢
         have S2:Same H H2:=S1.trans s2
         obtain ⟨u,hu,ru⟩:=aP hp2 hy
         have hil:i< (a8 fr.parts).length:=(List.getElem?_eq_some_iff.mp hx).1
         rw [hpl]at hil
         obtain ⟨pq,hpq⟩: ∃ pq,fr.parts[i]? =some pq:=⟨fr.parts[i],List.getElem?_eq_getElem hil⟩
         have ex:x=.str pq.name:=by
          unfold a8 at hx
          rw [List.getElem?_map,hpq]at hx
          exact (Option.some.inj hx).symm
         subst ex
         have e1:bX (chk bk (2*n)) (l2.take (i+1)) (fr.parts.take (i+1))=(gH (chk bk (2*n)) u pq).map (S+ ·):=by
          rw [List.take_add_one,List.take_add_one,hu,hpq]
          show bX _ (l2.take i++[u]) (fr.parts.take i++[pq])=_
          rw [i9 u pq _ _ (by rw [List.length_take,List.length_take];omega),hS]
          rfl
         have fail:gH (chk bk (2*n)) u pq=none-> ∀ H',Same H H'->Q .non H':=fun e H' s'=>by
          refine qn ?_ H' s'
          rw [ja l2 fr.parts (i+1) (by rw [e1,e];rfl)]
          rfl
         refine ⟨T,_,rfl,SqT.of g2,rfl,_,_,rfl,_,_,rfl,rfl,?_⟩
         refine ⟨_,rfl,_,rfl,bv,bk,u,y,rfl,hB.mono (aK S2),hok,ru.same S2,fun hn H3 s3=>?_,fun sr k hk p3 dp3 H3 s3 g3=>?_⟩
         ·refine ⟨_,rfl,rfl,_,rfl,?_⟩
          rw [decide_eq_true rfl]
          refine bd (bd (fail ?_ H3 (S2.trans s3)))
          unfold gH
          rw [hn]
         ·refine ⟨_,rfl,rfl,_,rfl,?_⟩
          rw [show decide (V.ref p3=V.non)=false from decide_eq_false fun e=>nomatch e]
          refine bi ⟨_,rfl,p3,_,0,_,rfl,rfl,SqT.of g3,dF,_,rfl,rfl,_,rfl,?_⟩
          by_cases en:sr.name=pq.name
          ·rw [show (!decide (V.str sr.name=V.str pq.name))=false by rw [en,decide_eq_true rfl];rfl]
           refine bi ?_
           refine ⟨_,rfl,_,rfl,p3,_,1,_,rfl,rfl,SqT.of g3,aG (j:=1) rfl,_,_,rfl,rfl,?_⟩
           rw [show ((fun (i j:Int)=>V.int (i+j)) ((1+S:Nat):Int) (k:Int))=V.int ((1+ (S+k):Nat):Int)from congrArg V.int (show ((1+S:Nat):Int) + (k:Int)=((1+ (S+k):Nat):Int) by omega)]
           refine ⟨_,rfl,_,rfl,p3,_,2,_,rfl,rfl,SqT.of g3,aG (j:=2) rfl,_,_,rfl,?_⟩
           refine ⟨S+k,_,_,_,_,rfl,S2.trans s3,?_⟩
           rw [e1]
           unfold gH
           rw [hk]
           show (if sr.name=pq.name then some k else none).map (S+ ·)=_
           rw [if_pos en]
           rfl
          ·rw [show (!decide (V.str sr.name=V.str pq.name))=true by rw [decide_eq_false fun e=>en (V.str.inj e)];rfl]
           refine bd (fail ?_ H3 (S2.trans s3))
           unfold gH
           rw [hk]
           exact if_neg en
        ·rintro σ H1 ⟨S,dp,o5,o6,o7,rfl,S1,hS⟩
         rw [hpl,List.take_length,List.take_of_length_le (by omega)]at hS
         refine ⟨_,rfl,fa,_,1,_,rfl,rfl,SqT.of (S1 _ _ gfa),aG (j:=1) rfl,_,rfl,_,rfl,_,_,rfl,rfl,(by show 3<=sizeLine;decide),fun p hp'=>?_⟩
         have s2:=ai hp' (.tup [.str fr.own.name,.int ((1+S:Nat):Int),.int (dp+1)])
         refine qs fr.own (S+1) ?_ p (dp+1) _ (S1.trans s2) ?_
         ·rw [hS];rfl
         ·rw [show ((S+1:Nat):Int)=((1+S:Nat):Int) by omega]
          exact ad
       ·rw [show (!decide (V.int ((ws.length:Nat):Int)=V.int (((a8 fr.parts).length:Nat):Int)))=true by rw [decide_eq_false fun e=>hlp (by have:=V.int.inj e;omega)];rfl]
        refine bd (qn ?_ H same0)
        have: ∀ (l:List Th) (q:List Srt),l.length≠q.length->bX (chk bk (2*n)) l q=none:=by
         intro l
         induction l with
         | nil=>intro q hne;cases q with | nil=>exact absurd rfl hne | cons _ _=>rfl
         | cons t r ih=>
          intro q hne
          cases q with
          | nil=>rfl
          | cons p ps=>
           show (match chk bk (2*n) t with | some (s,k)=>if s.name=p.name then (bX (chk bk (2*n)) r ps).map (k+ ·)else none | none=>none)=none
           rw [ih ps (fun e=>hne (by rw [List.length_cons,List.length_cons,e]))]
           cases chk bk (2*n) t with
           | none=>rfl
           | some x=>obtain ⟨s,k⟩:=x;show (if s.name=p.name then none else none)=none;by_cases c:s.name=p.name <;> simp
        rw [this l2 fr.parts (by rw [dM]at hlp;omega)]
        rfl
  ·rw [show (!decide (V.int ((vs.length:Nat):Int)=V.int 2))=true by rw [decide_eq_false fun e=>hlen (by have:=V.int.inj e;omega)];rfl]
   refine bd (bd (qn ?_ H same0))
   match l,hl with
   | [],_=>rfl
   | [x],_=>cases x <;> rfl
   | [_,_],h2=>exact absurd h2.symm hlen
   | x::y::_::_,_=>cases x <;> first | rfl | (cases y <;> rfl)
theorem nH:ay P w K mg base CX0 2 f fd ["book","thing"] (eD 0):=by
 have no: ∀ vs H Q E,¬ eD 0 vs H Q E:=fun vs H Q E h=>by
  obtain ⟨bv,bk,th,v,_,_,_,h,_⟩:=h
  exact h
 exact ⟨fun vs H Q E h=>absurd h (no vs H Q E),fun A outer s H args us vs Q E _ _ _ _ h=>absurd h (no vs H Q E)⟩
theorem j7 (F:Fun K "_law_check" "_law_check" jt f fd) (G:Gb mg) (hzip:mg "zip"=none)
  (GF:ay P w K mg base CX0 1 f2 fd2 ["book","name"] hV) (bF:Binds K fd2 ["book","name"] []) (kF:PySem.W.keepIn K (.ref f2)=true) (mF:mg "_law_form_of"=some (.ref f2))
  (bS:Binds K fd ["book","thing"] []) (mS:mg "_law_check"=some (.ref f)): ∀ n:Nat,ay P w K mg base CX0 (n+2) f fd ["book","thing"] (eD n)
 | 0=>nH
 | n+1=>nG F G hzip GF bF kF mF (j7 F G hzip GF bF kF mF bS mS n) bS mS
theorem oX:aI ["found"] ["found"] (aj jr):=fsc
theorem nB (F:Fun K "_law_whole" "_law_whole" jr f fd) (G:Gb mg):ay P w K mg base CX0 1 f fd ["found"] gJ:=by
 refine F.ok oX (fun vs H Q E h=>?_) (fun cdv A outer s H vs Q E hr h=>?_)
 ·obtain ⟨v,rfl,_⟩:=h
  rfl
 obtain ⟨v,rfl,hS,q⟩:=h
 refine ⟨_,al (aJ (eY (ar bj rfl G.isi (by decide +kernel) (ac (pv 0) (ac (bh (v:=.ty "int") rfl G.int (by decide +kernel) rfl) ae)))
  (eX (sN (ar bj rfl G.isi (by decide +kernel) (ac (pv 0) (ac (bh (v:=.ty "bool") rfl G.bool (by decide +kernel) rfl) ae))))))),?_⟩
 have e:=rq hS
 refine ⟨_,rfl,v,"int",rfl,hS,by simp,_,rfl,?_⟩
 refine dE (fun c=>?_) (fun c=>?_)
 ·rw [if_pos c]at e
  refine ⟨_,rfl,v,"bool",rfl,hS,by simp,_,rfl,?_⟩
  exact qb q e.symm
 ·rw [if_neg c]at e
  exact qb q e.symm
noncomputable def SameV (H:Hp):Nat->V->V->Prop
 | 0,_,_=>False
 | n+1,v,u=>(∃ x:Str,v=.str x/\u=.str x/\x.length<=1000)\/(∃ i:Int,v=.int i/\u=.int i)\/
  ∃ (c:Bool) (a b:Addr) (xs ys:List V),v=.ref a/\u=.ref b/\H a=some (du c xs)/\H b=some (du c ys)/\xs.length<=1000/\Paired (SameV H n) xs ys
theorem SameV.mono {H H':Hp} (s:Same H H'): ∀ {n:Nat} {v u:V},SameV H n v u->SameV H' n v u
 | 0,_,_,h=>h
 | n+1,_,_,h=>by
  rcases h with h | h | ⟨c,a,b,xs,ys,e1,e2,h1,h2,hl,hp⟩
  ·exact .inl h
  ·exact .inr (.inl h)
  ·exact .inr (.inr ⟨c,a,b,xs,ys,e1,e2,s _ _ h1,s _ _ h2,hl,Paired.mapP hp fun _ _ h=>SameV.mono s h⟩)
noncomputable def fU (n:Nat):Sp:=fun vs H Q _=> ∃ v u,vs=[v,u]/\SameV H n v u/\ ∀ H',Same H H'->Q (.bl true) H'
theorem mq {H:Hp} {c:Bool} {a:Addr} {xs:List V} (h:H a=some (du c xs)):isV "tuple" H (.ref a)=c/\isV "list" H (.ref a)= !c/\isV "bool" H (.ref a)=false:=by
 cases c with
 | true=>
  have h':H a=some (.tup xs):=h
  simp only [isV,h']
  exact ⟨rfl,rfl,rfl⟩
 | false=>
  have h':H a=some (.lst xs):=h
  simp only [isV,h']
  exact ⟨rfl,rfl,rfl⟩
theorem jm {H:Hp} {c:Bool} {a:Addr} {xs:List V} (h:H a=some (du c xs)):Sh H (.ref a):=by
 cases c with
 | true=>exact .inr (.inl ⟨xs,h⟩)
 | false=>exact .inl ⟨xs,h⟩
theorem sj {H:Hp} {c:Bool} {a:Addr} {xs:List V} (h:H a=some (du c xs)):TL H (.ref a) true:=by
 cases c with
 | true=>exact .tup (show H a=some (.tup xs)from h)
 | false=>exact .lst (show H a=some (.lst xs)from h)
theorem oP {K:PySem.W.Frag} {H:Hp} {c:Bool} {a:Addr} {xs:List V} (h:H a=some (du c xs)):SqL K H a xs\/SqT K H a xs:=by
 cases c with
 | true=>exact .inr (SqT.of h)
 | false=>exact .inl (SqL.of h)
theorem sC:aI ["found","due"] ["found","due"] (aj jX):=fsc
theorem pJ {n:Nat} (F:Fun K "_law_same" "_law_same" jX f fd) (G:Gb mg) (hlist:mg "list"=none) (hzip:mg "zip"=none)
  (GS:ay P w K mg base CX0 (n+2) f fd ["found","due"] (fU n)) (bS:Binds K fd ["found","due"] []) (mS:mg "_law_same"=some (.ref f))
  (GW:ay P w K mg base CX0 1 f2 fd2 ["found"] gJ) (bW:Binds K fd2 ["found"] []) (kW:PySem.W.keepIn K (.ref f2)=true) (mW:mg "_law_whole"=some (.ref f2)):
  ay P w K mg base CX0 (n+3) f fd ["found","due"] (fU (n+1)):=by
 refine F.ok sC (fun vs H Q E h=>?_) (fun cdv A outer s H vs Q E hr h=>?_)
 ·obtain ⟨v,u,rfl,_⟩:=h
  rfl
 obtain ⟨v,u,rfl,hS,q⟩:=h
 have hr1:=hr.mono (show 1<=n+2 by omega)
 refine ⟨_,af (aW (cc (ar ou rfl G.isi (by decide +kernel) (ac (pv 1) (ac (aY (ac (bh (v:=.ty "tuple") rfl G.tuple (by decide +kernel) rfl) (ac (bh (v:=.ty "list") rfl hlist (by decide +kernel) rfl) ae))) ae))))
   (af (aW (PW.pt (dQ (aD gy (ar bj rfl G.isi (by decide +kernel) (ac (pv 1) (ac (bh (v:=.ty "tuple") rfl G.tuple (by decide +kernel) rfl) ae))) (ar bj rfl G.isi (by decide +kernel) (ac (pv 0) (ac (bh (v:=.ty "tuple") rfl G.tuple (by decide +kernel) rfl) ae))) (aH _))
     (el (aD gy (ar bj rfl G.isi (by decide +kernel) (ac (pv 1) (ac (bh (v:=.ty "list") rfl hlist (by decide +kernel) rfl) ae))) (ar bj rfl G.isi (by decide +kernel) (ac (pv 0) (ac (bh (v:=.ty "list") rfl hlist (by decide +kernel) rfl) ae))) (aH _)))))
    (al (aJ iY)) aM)
   (al (aJ (eY (cK cB (ar av rfl G.len PySem.boot_len (ac (pv 0) ae)) (ar av rfl G.len PySem.boot_len (ac (pv 1) ae)) (aH _))
    (eX (ar (kK rfl) rfl G.all (by decide +kernel) (ac (pE (sc0:=aj jX) (N0:=["found","due"]) (ys:=[]) (fr:=[]) rfl (pz rfl hzip (ac (pv 0) (ac (pv 1) ae))) rfl rfl
     ⟨rfl,by decide +kernel,by decide +kernel,by decide +kernel,by decide +kernel,by decide +kernel,by decide +kernel,rfl,by decide +kernel⟩ (fun C s H ex=>am GS hr rfl mS F.kp bS .nil aw (ac (pv 0) (ac (pv 1) ae)))) ae)))))))
   aM)
  (af (aW (aD ik (pv 1) cP (aH _)) (al (aJ (cK ik (pv 0) cP (aH _)))) aM)
  (af (aW (cc (ar bj rfl G.isi (by decide +kernel) (ac (pv 1) (ac (bh (v:=.ty "bool") rfl G.bool (by decide +kernel) rfl) ae))))
   (al (aJ (eY (ar bj rfl G.isi (by decide +kernel) (ac (pv 0) (ac (bh (v:=.ty "bool") rfl G.bool (by decide +kernel) rfl) ae))) (eX (cK cB (pv 0) (pv 1) (aH _)))))) aM)
  (af (aW (cc (ar bj rfl G.isi (by decide +kernel) (ac (pv 1) (ac (bh (v:=.ty "str") rfl G.str (by decide +kernel) rfl) ae))))
   (al (aJ (eY (ar bj rfl G.isi (by decide +kernel) (ac (pv 0) (ac (bh (v:=.ty "str") rfl G.str (by decide +kernel) rfl) ae))) (eX (cK cB (pv 0) (pv 1) (aH _)))))) aM)
  (al (aJ (eY (am GW hr1 rfl mW kW bW .nil aw (ac (pv 0) ae)) (eX (cK cB (pv 0) (pv 1) (aH _))))))))),?_⟩
 refine ⟨_,rfl,(by show 2<=sizeLine;decide),fun p0 h0=>?_⟩
 have s0:=ai h0 (.tup [.ty "tuple",.ty "list"])
 have g0:(upd H p0 (.tup [.ty "tuple",.ty "list"])) p0=some (.tup [.ty "tuple",.ty "list"]):=ad
 generalize upd H p0 (.tup [.ty "tuple",.ty "list"])=H0 at s0 g0 ⊢
 have hS0:=SameV.mono s0 hS
 rcases hS0 with ⟨x,rfl,rfl,hx⟩ | ⟨i,rfl,rfl⟩ | ⟨c,a,b,xs,ys,rfl,rfl,ha,hb,hl,hp⟩
 ·refine ⟨_,p0,false,rfl,g0,.str x,_,rfl,?_⟩
  refine bi ⟨_,rfl,rfl,_,rfl,?_⟩
  rw [show decide (V.str x=V.non)=false from decide_eq_false fun e=>nomatch e]
  refine bi ⟨_,rfl,_,"bool",rfl,hx,by simp,_,rfl,?_⟩
  rw [show isV "bool" H0 (V.str x)=false from rfl]
  refine bi ⟨_,rfl,_,"str",rfl,hx,by simp,_,rfl,?_⟩
  rw [show isV "str" H0 (V.str x)=true from rfl]
  refine bd ⟨_,rfl,_,"str",rfl,hx,by simp,_,rfl,?_⟩
  rw [show isV "str" H0 (V.str x)=true from rfl]
  refine bd ⟨_,rfl,_,rfl,rfl,?_⟩
  rw [decide_eq_true rfl]
  exact q H0 s0
 ·refine ⟨_,p0,false,rfl,g0,.int i,_,rfl,?_⟩
  refine bi ⟨_,rfl,rfl,_,rfl,?_⟩
  rw [show decide (V.int i=V.non)=false from decide_eq_false fun e=>nomatch e]
  refine bi ⟨_,rfl,_,"bool",rfl,True.intro,by simp,_,rfl,?_⟩
  rw [show isV "bool" H0 (V.int i)=false from rfl]
  refine bi ⟨_,rfl,_,"str",rfl,True.intro,by simp,_,rfl,?_⟩
  rw [show isV "str" H0 (V.int i)=false from rfl]
  refine bi ⟨_,rfl,_,rfl,True.intro,_,rfl,?_⟩
  rw [show kX (V.int i)=true from rfl]
  refine bd ⟨_,rfl,_,rfl,rfl,?_⟩
  rw [decide_eq_true rfl]
  exact q H0 s0
 ·obtain ⟨a1,a2,_⟩:=mq ha
  obtain ⟨b1,b2,_⟩:=mq hb
  have hlen:xs.length=ys.length:=Paired.length hp
  refine ⟨_,p0,true,rfl,g0,sj hb,_,rfl,?_⟩
  refine bd ⟨_,rfl,_,"tuple",rfl,jm hb,by simp,_,rfl,_,"tuple",rfl,jm ha,by simp,rfl,_,rfl,?_⟩
  rw [a1,b1,decide_eq_true rfl]
  refine bi ⟨_,rfl,_,"list",rfl,jm hb,by simp,_,rfl,_,"list",rfl,jm ha,by simp,rfl,_,rfl,?_⟩
  rw [a2,b2,decide_eq_true rfl]
  refine bi ⟨_,rfl,a,xs,rfl,oP ha,_,rfl,b,ys,rfl,oP hb,rfl,_,rfl,?_⟩
  rw [hlen,decide_eq_true rfl]
  refine bd ⟨_,rfl,_,rfl,c,a,b,xs,ys,rfl,ha,hb,fun l hl0=>?_⟩
  refine ⟨fun i m zs H'=>i<=xs.length/\m=xs.length-i/\Same H0 H'/\H' l=some (.lst zs)/\zs=List.replicate i (.bl true),⟨_,Nat.zero_le _,rfl,ai hl0 _,ad,rfl⟩,?_⟩
  rintro i m zs H' ⟨hi,hm,sm,gl,rfl⟩
  refine ⟨gl,?_⟩
  by_cases e:i=xs.length
  ·refine .inl ⟨⟨xs,ys,sm _ _ ha,sm _ _ hb,e.symm,by omega⟩,l,List.replicate i true,rfl,SqL.of (by rw [List.map_replicate];exact gl),?_⟩
   rw [show (List.replicate i true).all id=true by simp]
   exact q H' (s0.trans sm)
  ·have hlt:i<xs.length:=by omega
   refine .inr ⟨⟨xs,ys,xs[i],ys[i],sm _ _ ha,sm _ _ hb,List.getElem?_eq_getElem hlt,List.getElem?_eq_getElem (by omega)⟩,aF (by rw [List.length_replicate];omega),?_⟩
   rintro _ _ ⟨T,x,y,fT,rfl,rfl,hxy⟩
   obtain ⟨ex,ey⟩:=hxy xs ys (sm _ _ ha) (sm _ _ hb)
   obtain ⟨y',ey',hs⟩:=gw hp ex
   rw [ey]at ey'
   cases ey'
   have sT:=sm.trans (ai fT (.tup [x,y]))
   refine ⟨T,x,y,rfl,ad,_,rfl,_,rfl,x,y,rfl,SameV.mono sT hs,fun H4 s4=>?_⟩
   have gl4:=s4 _ _ (ai fT (.tup [x,y]) _ _ gl)
   refine ⟨gl4,_,(by omega:xs.length- (i+1) <m),by omega,rfl,fun c' o h=>?_,ad,?_⟩
   ·rw [ah (ak h hl0)]
    exact s4 _ _ (sT _ _ h)
   ·exact List.replicate_succ'.symm
theorem pK:ay P w K mg base CX0 2 f fd ["found","due"] (fU 0):=by
 have no: ∀ vs H Q E,¬ fU 0 vs H Q E:=fun vs H Q E h=>by
  obtain ⟨v,u,_,h,_⟩:=h
  exact h
 exact ⟨fun vs H Q E h=>absurd h (no vs H Q E),fun A outer s H args us vs Q E _ _ _ _ h=>absurd h (no vs H Q E)⟩
theorem mi (F:Fun K "_law_same" "_law_same" jX f fd) (G:Gb mg) (hlist:mg "list"=none) (hzip:mg "zip"=none) (bS:Binds K fd ["found","due"] []) (mS:mg "_law_same"=some (.ref f))
  (GW:ay P w K mg base CX0 1 f2 fd2 ["found"] gJ) (bW:Binds K fd2 ["found"] []) (kW:PySem.W.keepIn K (.ref f2)=true) (mW:mg "_law_whole"=some (.ref f2)): ∀ n:Nat,ay P w K mg base CX0 (n+2) f fd ["found","due"] (fU n)
 | 0=>pK
 | n+1=>pJ F G hlist hzip (mi F G hlist hzip bS mS GW bW kW mW n) bS mS GW bW kW mW
noncomputable def laA:Expr->Arguments
 | .Lambda a _ _ _=>a
 | _=>{posonlyargs:=[],args:=[],vararg:=none,kwonlyargs:=[],kw_defaults:=[],kwarg:=none,defaults:=[]}
noncomputable def laB:Expr->Expr
 | .Lambda _ b _ _=>b
 | _=>.Constant .none 0 ⟨0,0,0,0⟩
noncomputable def laS:Expr->Scope
 | .Lambda _ _ s _=>s
 | _=>{kind:=.function,names:=[],isGenerator:=false,isCoroutine:=false}
noncomputable def laP:Expr->Pos
 | .Lambda _ _ _ p=>p
 | _=>⟨0,0,0,0⟩
noncomputable def kwE:Expr->Expr
 | .Call _ _ [⟨_,l,_⟩] _=>l
 | _=>.Constant .none 0 ⟨0,0,0,0⟩
noncomputable def rV:Stmt:=(bz bY).getD 3 (.Pass ⟨0,0,0,0⟩)
noncomputable def lt1:Expr:=match rV with
 | .For _ e _ _ _=>kwE e
 | _=>.Constant .none 0 ⟨0,0,0,0⟩
noncomputable def lt2:Expr:=match (jG rV).getD 1 (.Pass ⟨0,0,0,0⟩)with
 | .Assign _ e _=>kwE e
 | _=>.Constant .none 0 ⟨0,0,0,0⟩
theorem ui:iK ["one"] ["sizes"] (laS lt1):=⟨rfl,rfl,rfl,by decide +kernel,by decide +kernel,by decide +kernel,by decide +kernel,by decide +kernel⟩
theorem uh:iK ["one"] ["sizes"] (laS lt2):=⟨rfl,rfl,rfl,by decide +kernel,by decide +kernel,by decide +kernel,by decide +kernel,by decide +kernel⟩
noncomputable abbrev NLT:List Str:=["book","sort","trees","name","form","forms","sizes"]
theorem scLT:aI NLT ["book","sort"] (aj bY):=fsc
theorem uz:eC (aj bY) NLT (laS lt1) ["sizes"] [6]:=⟨by decide +kernel,rfl,by decide +kernel⟩
theorem uy:eC (aj bY) NLT (laS lt2) ["sizes"] [6]:=⟨by decide +kernel,rfl,by decide +kernel⟩
noncomputable abbrev ltQ:Str:="least_tree"++".<locals>."++"<lambda>"
noncomputable def TabM (tbA:Addr) (H:Hp):Prop:=(∃ c1 o1,H tbA=some (.tbl #[rawInt (laP lt1).line,rawInt (laP lt1).col,.ref c1])/\c1≠tbA/\H c1=some (dh c1 o1)/\cj o1 ltQ)\/
 ∃ c1 o1 c2 o2,H tbA=some (.tbl #[rawInt (laP lt1).line,rawInt (laP lt1).col,.ref c1,rawInt (laP lt2).line,rawInt (laP lt2).col,.ref c2])/\c1≠tbA/\H c1=some (dh c1 o1)/\cj o1 ltQ/\c2≠tbA/\H c2=some (dh c2 o2)/\cj o2 ltQ
noncomputable def TabL (tbA:Addr) (H:Hp):Prop:=H tbA=some (.tbl #[])\/TabM tbA H
theorem TabM.same {tbA:Addr} {H H':Hp} (s:Same H H') (h:TabM tbA H):TabM tbA H':=by
 rcases h with ⟨c1,o1,h1,h2,h3,h4⟩ | ⟨c1,o1,c2,o2,h1,h2,h3,h4,h5,h6,h7⟩
 ·exact .inl ⟨c1,o1,s _ _ h1,h2,s _ _ h3,h4⟩
 ·exact .inr ⟨c1,o1,c2,o2,s _ _ h1,h2,s _ _ h3,h4,h5,s _ _ h6,h7⟩
theorem TabL.same {tbA:Addr} {H H':Hp} (s:Same H H') (h:TabL tbA H):TabL tbA H':=by
 rcases h with h | h
 ·exact .inl (s _ _ h)
 ·exact .inr (h.same s)
theorem TabM.tbl {tbA:Addr} {H:Hp} (h:TabM tbA H): ∃ t,H tbA=some (.tbl t):=by
 rcases h with ⟨_,_,h,_⟩ | ⟨_,_,_,_,h,_⟩
 ·exact ⟨_,h⟩
 ·exact ⟨_,h⟩
theorem TabL.tbl {tbA:Addr} {H:Hp} (h:TabL tbA H): ∃ t,H tbA=some (.tbl t):=by
 rcases h with h | h
 ·exact ⟨_,h⟩
 ·exact h.tbl
theorem l7 {tbA c':Addr} {H:Hp} {o1 o2:HO} (nc:H c'=none):Kp tbA H (upd (upd H tbA o1) c' o2):=fun b o h hb=>by rw [ah (ak h nc),ah hb];exact h
theorem uV {tbA:Addr} {H:Hp} {R:Addr->Obj->Hp->Prop} (h:TabL tbA H) (hR: ∀ c' oc H',Kp tbA H H'->TabM tbA H'->H' c'=some (dh c' oc)->R c' oc H'):iJ ltQ tbA (laP lt1) R H:=by
 rcases h with h | ⟨c1,o1,h1,h2,h3,h4⟩ | ⟨c1,o1,c2,o2,h1,h2,h3,h4,h5,h6,h7⟩
 ·refine ⟨#[],h,trivial,.inl ⟨rfl,fun c' oc nc ncP hoc=>hR c' oc _ (l7 nc) (.inl ⟨c',oc,?_,ncP,ad,hoc⟩) ad⟩⟩
  rw [ah (Ne.symm ncP),ad];rfl
 ·exact ⟨_,h1,trivial,.inr ⟨c1,o1,rfl,h3,h4,hR c1 o1 H (fun b o h _=>h) (.inl ⟨c1,o1,h1,h2,h3,h4⟩) h3⟩⟩
 ·exact ⟨_,h1,trivial,.inr ⟨c1,o1,rfl,h3,h4,hR c1 o1 H (fun b o h _=>h) (.inr ⟨c1,o1,c2,o2,h1,h2,h3,h4,h5,h6,h7⟩) h3⟩⟩
theorem uU {tbA:Addr} {H:Hp} {R:Addr->Obj->Hp->Prop} (h:TabM tbA H) (hR: ∀ c' oc H',Kp tbA H H'->TabM tbA H'->H' c'=some (dh c' oc)->R c' oc H'):iJ ltQ tbA (laP lt2) R H:=by
 rcases h with ⟨c1,o1,h1,h2,h3,h4⟩ | ⟨c1,o1,c2,o2,h1,h2,h3,h4,h5,h6,h7⟩
 ·refine ⟨_,h1,trivial,.inl ⟨rfl,fun c' oc nc ncP hoc=>hR c' oc _ (l7 nc) (.inr ⟨c1,o1,c',oc,?_,h2,?_,h4,ncP,ad,hoc⟩) ad⟩⟩
  ·rw [ah (Ne.symm ncP),ad];rfl
  ·rw [ah (ak h3 nc),ah h2];exact h3
 ·exact ⟨_,h1,trivial,.inr ⟨c2,o2,rfl,h6,h7,hR c2 o2 H (fun b o h _=>h) (.inr ⟨c1,o1,c2,o2,h1,h2,h3,h4,h5,h6,h7⟩) h6⟩⟩
noncomputable def uf (d:Addr) (m:Sz) (c':Addr) (oc:Obj):Sp:=fun vs H Q _=> ∃ x n,vs=[.str x]/\ao m x=some n/\H d=some (.dK (kvS m))/\H c'=some (dh c' oc)/\Q (.int ((n:Nat):Int)) H
noncomputable def ue (d:Addr) (m:Sz) (c':Addr) (oc:Obj):Sp:=fun vs H Q _=> ∃ v fr,vs=[v]/\RepF H fr v/\fr.parts.length<=3/\H d=some (.dK (kvS m))/\(∀ x n,ao m x=some n->n<=40)/\aA m fr=true/\H c'=some (dh c' oc)/\ ∀ H',Same H H'->Q (.int ((szB m fr:Nat):Int)) H'
section
variable {X:Cx} {d c' f5:Addr} {oc:Obj} {m:Sz} {fd5:FuncData}
theorem rk (hoc:cj oc (X.env.qual++"<lambda>")):jg X (laA lt1) (laB lt1) (laS lt1) ["sizes"] [.ref d] c' 1 "one" (uf d m c' oc):=by
 intro base fl pm ctv hfl hL
 obtain ⟨_,hcell,hinj,hcap,hcs⟩:=hL
 obtain ⟨vc,tq,hd,hq⟩:=hoc
 refine ⟨pX (ps:=["one"]) (ys:=["sizes"]) (cs:=[.ref d]) hfl hd hq ui hcell hinj hcap hcs (fun vs H Q E h=>h) (fun vs H Q h=>?_) (fun vs H Q h=>?_) (fun A outer s H vs Q hr h=>?_),Binds.all fun us hl=>?_⟩
 ·obtain ⟨x,n,rfl,_⟩:=h
  rfl
 ·obtain ⟨x,n,rfl,_,_,h,_⟩:=h
  exact h
 ·obtain ⟨x,n,rfl,hn,hd,_,q⟩:=h
  have hu:=dR hr
  refine ⟨_,cz hu (pv 1) (pv 0) (fun _ _=>rfl),?_⟩
  have hv:bn (kvS m) (.inr x)=some (.int ((n:Nat):Int)):=by rw [bf,hn];rfl
  exact ⟨_,rfl,_,rfl,d,.int ((n:Nat):Int),rfl,(by rw [<- hv];exact DGet.k (k:=.inr x) hd),q⟩
 ·match us,hl with
  | [_],_=>rfl
theorem rj (hoc:cj oc (X.env.qual++"<lambda>"))
  (GB: ∀ base,ay X.prog X.w X.K X.mg base CX0 2 f5 fd5 ["form","sizes"] ft) (bB:Binds X.K fd5 ["form","sizes"] []) (kB:PySem.W.keepIn X.K (.ref f5)=true) (mB:X.mg "least_size_by"=some (.ref f5)):
  jg X (laA lt2) (laB lt2) (laS lt2) ["sizes"] [.ref d] c' 3 "one" (ue d m c' oc):=by
 intro base fl pm ctv hfl hL
 obtain ⟨_,hcell,hinj,hcap,hcs⟩:=hL
 obtain ⟨vc,tq,hd,hq⟩:=hoc
 refine ⟨pX (ps:=["one"]) (ys:=["sizes"]) (cs:=[.ref d]) hfl hd hq uh hcell hinj hcap hcs (fun vs H Q E h=>h) (fun vs H Q h=>?_) (fun vs H Q h=>?_) (fun A outer s H vs Q hr h=>?_),Binds.all fun us hl=>?_⟩
 ·obtain ⟨v,fr,rfl,_⟩:=h
  rfl
 ·obtain ⟨v,fr,rfl,_,_,_,_,_,h,_⟩:=h
  exact h
 ·obtain ⟨v,fr,rfl,hR,hp3,hd,h40,hg,_,q⟩:=h
  refine ⟨_,am (GB base) hr rfl mB kB bB .nil aw (ac (pv 0) (ac (pv 1) ae)),?_⟩
  exact ⟨_,rfl,_,rfl,v,fr,d,m,rfl,hR,hp3,hd,h40,hg,q⟩
 ·match us,hl with
  | [_],_=>rfl
end
noncomputable def RepQ (H:Hp):Nat->Th->V->Prop
 | 0,_,_=>False
 | n+1,.tup l,v=> ∃ a vs,v=.ref a/\H a=some (.tup vs)/\Paired (RepQ H n) l vs
 | _+1,.str x,v=>v=.str x/\x.length<=1000
 | _+1,_,_=>False
theorem RepQ.mono {H H':Hp} (s:TK H H'): ∀ {n:Nat} {t:Th} {v:V},RepQ H n t v->RepQ H' n t v
 | 0,_,_,h=>h.elim
 | n+1,.tup _,_,⟨a,vs,e,h1,h2⟩=>⟨a,vs,e,s _ _ h1,Paired.mapP h2 fun _ _ r=>RepQ.mono s r⟩
 | _+1,.str _,_,h=>h
 | _+1,.lst,_,h=>h.elim
 | _+1,.dic,_,h=>h.elim
 | _+1,.non,_,h=>h.elim
 | _+1,.int _,_,h=>h.elim
 | _+1,.bl _,_,h=>h.elim
theorem RepQ.up {H:Hp}: ∀ {n:Nat} {t:Th} {v:V},RepQ H n t v->RepQ H (n+1) t v
 | 0,_,_,h=>h.elim
 | n+1,.tup _,_,⟨a,vs,e,h1,h2⟩=>⟨a,vs,e,h1,Paired.mapP h2 fun _ _ r=>RepQ.up r⟩
 | _+1,.str _,_,h=>h
 | _+1,.lst,_,h=>h.elim
 | _+1,.dic,_,h=>h.elim
 | _+1,.non,_,h=>h.elim
 | _+1,.int _,_,h=>h.elim
 | _+1,.bl _,_,h=>h.elim
theorem RepQ.le {H:Hp} {n m:Nat} {t:Th} {v:V} (h:RepQ H n t v) (l:n<=m):RepQ H m t v:=by
 induction l with
 | refl=>exact h
 | step _ ih=>exact ih.up
theorem RepQ.toH {H:Hp}: ∀ {n:Nat} {t:Th} {v:V},RepQ H n t v->RepH H n t v
 | 0,_,_,h=>h.elim
 | n+1,.tup _,_,⟨a,vs,e,h1,h2⟩=>⟨a,vs,e,h1,Paired.mapP h2 fun _ _ r=>RepQ.toH r⟩
 | _+1,.str _,_,h=>h
 | _+1,.lst,_,h=>h.elim
 | _+1,.dic,_,h=>h.elim
 | _+1,.non,_,h=>h.elim
 | _+1,.int _,_,h=>h.elim
 | _+1,.bl _,_,h=>h.elim
noncomputable def TrQ (bk:Bk) (H:Hp) (i:Nat) (x:Str) (n:Nat) (v:V):Prop:= ∃ th s,RepQ H (2*i) th v/\chk bk (2*i) th=some (s,n)/\Srt.name s=x
theorem TrQ.mono {bk:Bk} {H H':Hp} (t:TK H H') {i:Nat} {x:Str} {n:Nat} {v:V}:TrQ bk H i x n v->TrQ bk H' i x n v:=fun ⟨th,s,h1,h2,h3⟩=>⟨th,s,h1.mono t,h2,h3⟩
theorem TrQ.le {bk:Bk} {H:Hp} {i j:Nat} (hij:i<=j) {x:Str} {n:Nat} {v:V}:TrQ bk H i x n v->TrQ bk H j x n v:=fun ⟨th,s,h1,h2,h3⟩=>⟨th,s,h1.le (by omega),by rw [de h1.toH (show 2*i<=2*j by omega)];exact h2,h3⟩
theorem kE {bk:Bk} {H:Hp} {i:Nat} {m:Sz}: ∀ {ps:List Srt} {vs:List V},Paired (fun (p:Srt) v=> ∃ k,ao m p.name=some k/\TrQ bk H i p.name k v) ps vs->
  ∃ ths,Paired (RepQ H (2*i)) ths vs/\bX (chk bk (2*i+1)) ths ps=some (ps.map fun p=>(ao m p.name).getD 0).sum
 | _,_,.nil=>⟨[],.nil,rfl⟩
 | _,_,@Paired.cons _ _ _ p v l r ⟨k,hk,th,s,h1,h2,h3⟩ t=>by
  obtain ⟨ths,i1,i2⟩:=kE t
  refine ⟨th::ths,.cons h1 i1,?_⟩
  show (match chk bk (2*i+1) th with | some (s,k)=>if s.name=p.name then (bX (chk bk (2*i+1)) ths l).map (k+ ·)else none | none=>none)=_
  rw [de h1.toH (show 2*i<=2*i+1 by omega),h2]
  show (if s.name=p.name then (bX (chk bk (2*i+1)) ths l).map (k+ ·)else none)=_
  rw [if_pos h3,i2,List.map_cons,List.sum_cons,hk]
  rfl
theorem si {bk:Bk} (hok:BkG bk) {H:Hp} {i:Nat} {m:Sz} {fr:Frm} (hf:fr∈bk.forms) {vs:List V} {a b:Addr} (ha:H a=some (.tup [.str fr.name,.ref b])) (hb:H b=some (.tup vs))
  (hP:Paired (fun (p:Srt) v=> ∃ k,ao m p.name=some k/\TrQ bk H i p.name k v) fr.parts vs):TrQ bk H (i+1) fr.own.name (szB m fr) (.ref a):=by
 obtain ⟨ths,h1,h2⟩:=kE hP
 refine ⟨.tup [.str fr.name,.tup ths],fr.own,?_,?_,rfl⟩
 ·rw [show 2* (i+1)=2*i+1+1 by omega]
  have hw:=hok.wd fr hf
  unfold cW at hw
  simp only [Bool.and_eq_true,decide_eq_true_eq]at hw
  exact ⟨a,_,rfl,ha,.cons ⟨rfl,by omega⟩ (.cons ⟨b,vs,rfl,hb,h1⟩ .nil)⟩
 ·rw [show 2* (i+1)=2*i+1+1 by omega]
  show (match cD fr.name bk.forms with | some fr=>(bX (chk bk (2*i+1)) ths fr.parts).map fun k=>(fr.own,k+1) | none=>none)=_
  rw [kj hok.nd hf rfl]
  show (bX (chk bk (2*i+1)) ths fr.parts).map _=_
  rw [h2]
  unfold szB
  rw [Nat.add_comm 1]
  rfl
theorem ox {α β γ:Type} (f:α->β) (g:α->γ): ∀ l:List α,(l.map f).zip (l.map g)=l.map fun q=>(f q,g q)
 | []=>rfl
 | q::r=>by rw [List.map_cons,List.map_cons,List.zip_cons_cons,ox f g r];rfl
theorem pY (m:Sz):((kvS m).map fun q=>kV q.1)=m.map fun q=>V.str q.1:=by
 unfold kvS
 rw [List.map_map]
 rfl
theorem rF {bk:Bk} (hok:BkG bk) {m:Sz} (hF:FixS bk m) (nd:(m.map (·.1)).Nodup):m.length<=4:=by
 have:=fY (r:=bk.sorts.map Srt.name) nd fun y hy=>by
  obtain ⟨t,ht,e⟩:=hF.key y (getS_key.mpr hy)
  exact List.mem_map.mpr ⟨t,ht,e⟩
 rw [List.length_map,List.length_map]at this
 have:=hok.so.2.1
 omega
noncomputable def jh (C tbA:Addr):Sp:=fun vs H Q E=> ∃ bv bk x,vs=[bv,.str x]/\RepB H bk bv/\BkG bk/\TabL tbA H/\
 (∀ m n v H',FixS bk m->ao m x=some n->Kp tbA H H'->TabL tbA H'->TrQ bk H' 4 x n v->Q v H')/\(∀ m H',FixS bk m->ao m x=none->Same H H'->TabL tbA H'->E (.ref C) none H')
theorem jx {B newId initId:String} {bmB:List Value} (F:Fun K "least_tree" "least_tree" bY f fd) (G:Gb mg) (hsorted:mg "sorted"=none) (hfc:fd.code=.ref c) (hC:PySem.W.CodeHd base c tbA) (hB0:base.BuiltinsAt mg tbA)
  (hNT:mg "NoTree"=some (.ref C)) (ex:PySem.W.excIn K C bmB newId=true) (FB:ExcBaseFacts B newId initId bmB)
  (GL:ay P w K mg base CX0 4 f2 fd2 ["book"] fu) (bL:Binds K fd2 ["book"] []) (kL:PySem.W.keepIn K (.ref f2)=true) (mL:mg "least_sizes"=some (.ref f2))
  (GG:ay P w K mg base CX0 2 f3 fd3 ["book","sizes"] fz) (bG:Binds K fd3 ["book","sizes"] []) (kG:PySem.W.keepIn K (.ref f3)=true) (mG:mg "grown_forms"=some (.ref f3))
  (GO:ay P w K mg base CX0 1 f4 fd4 ["form"] dH) (bO:Binds K fd4 ["form"] []) (kO:PySem.W.keepIn K (.ref f4)=true) (mO:mg "sort_of_form"=some (.ref f4))
  (GB: ∀ base,ay P w K mg base CX0 2 f5 fd5 ["form","sizes"] ft) (bB:Binds K fd5 ["form","sizes"] []) (kB:PySem.W.keepIn K (.ref f5)=true) (mB:mg "least_size_by"=some (.ref f5))
  (GP:ay P w K mg base CX0 1 f6 fd6 ["form"] dz) (bP:Binds K fd6 ["form"] []) (kP:PySem.W.keepIn K (.ref f6)=true) (mP:mg "parts_of"=some (.ref f6)):
  ay P w K mg base (CX1 P w C) 5 f fd ["book","sort"] (jh C tbA):=by
 refine F.okGC scLT (fun vs H Q E h=>?_) (fun A outer s H vs Q E hr h=>?_)
 ·obtain ⟨bv,bk,x,rfl,_⟩:=h
  rfl
 obtain ⟨bv,bk,x,rfl,hB,hok,hTb,q,qe⟩:=h
 have hu:=dR hr
 have hr1:=hr.mono (show 1<=4 by decide)
 have hr2:=hr.mono (show 2<=4 by decide)
 have hr3:=hr.mono (show 3<=4 by decide)
 refine ⟨_,af (aq (i:=6) scLT.nd rfl (Or.inr rfl) (am GL hr rfl mL kL bL .nil aw (ac (pv 0) ae)))
  (af (aW (lC (fZ hu (pv 1) (pv 6))) (al (ni (E:=E) rfl rfl hNT ex FB (fun pins σ H s h' y vs I m q=>oh I m q) (ac bx ae))) aM)
  (af (aq (i:=2) scLT.nd rfl (Or.inr rfl) dC)
  (af (ce PassesOwn.leaving rfl (eI (lE (k:=1) (p1:="one") (Pt:=tbA) (ys:=["sizes"]) (fr:=[6]) rfl hsorted rfl (pv 6) hC hfc hB0 uz (fun _=>rfl) rfl hr3)) (aL (i:=3) scLT.nd rfl (Or.inr rfl))
   (af (ic (i:=5) (sc0:=aj bY) (N0:=NLT) (ys:=["name"]) (fr:=[3]) rfl scLT.nd rfl (Or.inl rfl) (eI (am GG hr2 rfl mG kG bG .nil aw (ac (pv 0) (ac (pv 6) ae)))) rfl rfl
     cok
     (fun C s H ex=>aD cB (am GO hr1 rfl mO kO bO .nil aw (ac (pv 0) ae)) (pv 1) (aH _))
     (fun C s H ex=>pv 0))
   (af (aq (i:=4) scLT.nd rfl (Or.inl rfl) (qT (k:=3) (p1:="one") (Pt:=tbA) (ys:=["sizes"]) (fr:=[6]) rfl G.min rfl (pv 5) hC hfc hB0 uy (fun _=>rfl) rfl hr))
   (al (fB hu (pv 2) (pv 3) (aY (ac (ax aE (pv 4) ag (fun _ _=>rfl)) (ac (bc aU rfl G.tuple (by decide +kernel) (ac (cA (sc0:=aj bY) (N0:=NLT) (ys:=["trees"]) (fr:=[2]) rfl (bu (am GP hr1 rfl mP kP bP .nil aw (ac (pv 4) ae))) rfl rfl
     cok (fun C s H ex=>cz hu (pv 1) (pv 0) (fun _ _=>rfl))) ae)) ae))) rfl)))))
  (al (aJ (cz hu (pv 2) (pv 1) (fun _ _=>rfl))))))),?_⟩
 refine ⟨_,rfl,bv,bk,rfl,hB,hok,fun d m H1 hd0 s1 g1 hF nd h40=>?_⟩
 refine ⟨_,rfl,_,rfl,d,_,rfl,DGet.k (k:=.inr x) g1,_,rfl,?_⟩
 cases hx:ao m x with
 | none=>
  rw [show (!(bn (kvS m) (.inr x)).isSome)=true by rw [bf,hx];rfl]
  exact bd ⟨(by show 1<=sizeLine;decide),qe m H1 hF hx s1 (hTb.same s1)⟩
 | some n0=>
 rw [show (!(bn (kvS m) (.inr x)).isSome)=false by rw [bf,hx];rfl]
 refine bi ?_
 have h4:=rF hok hF nd
 refine fun td htd=>?_
 have s2:=ai htd (.dK [])
 have g2:(upd H1 td (.dK [])) td=some (.dK []):=ad
 have gd2:=s2 _ _ g1
 have S2:=s1.trans s2
 generalize upd H1 td (.dK [])=H2 at s2 g2 gd2 S2 ⊢
 have t2:=hTb.same S2
 have htd0:H td=none:=s1.free htd
 have nT: ∀ {b:Addr} {o:HO},H2 b=some o->(∀ t,o≠ .tbl t)->b≠tbA:=fun h1 h2 z=>by
  obtain ⟨t,ht⟩:=t2.tbl
  rw [z,ht]at h1
  exact h2 t (Option.some.inj h1).symm
 have ntd:td≠tbA:=nT g2 fun t z=>by cases z
 have nd2:d≠tbA:=nT gd2 fun t z=>by cases z
 refine ⟨_,rfl,d,kvS m,rfl,gd2,by unfold kvS;rw [List.length_map];omega,uV t2 fun c' oc H3 k3 t3 hc3=>⟨k3 _ _ gd2 nd2,?_⟩⟩
 have gd3:=k3 _ _ gd2 nd2
 rw [pY]
 refine ⟨m.map fun q=>((q.2:Nat):Int),Same H3,uf d m c' oc,[.ref d],by rw [List.length_map,List.length_map],Same.refl H3,rfl,fun i y k hy hk H4 s4=>?_,fun hoc=>rk hoc,fun H4 p qs s4 hp hperm hpw=>⟨p,rfl,⟨_,SqL.of ad⟩,?_⟩⟩
 ·rw [List.getElem?_map]at hy hk
  cases hm:m[i]? with
  | none=>rw [hm]at hy;cases hy
  | some qq=>
   rw [hm]at hy hk
   cases hy
   cases hk
   exact ⟨qq.1,qq.2,rfl,gP nd (List.mem_of_getElem? hm),s4 _ _ gd3,s4 _ _ hc3,rfl,s4⟩
 rw [ox]at hperm
 obtain ⟨L,hL1,hL2⟩:=iX _ hperm m rfl
 have eqs:qs.map (·.2)=L.map fun q=>V.str q.1:=by rw [<- hL2,List.map_map];rfl
 rw [eqs]
 have hLn:L.length=m.length:=hL1.length_eq
 have hLpw:L.Pairwise fun p q=>p.2<=q.2:=by
  rw [<- hL2,List.pairwise_map]at hpw
  exact hpw.imp fun {a b} h=>by have h:((a.2:Nat):Int)<=((b.2:Nat):Int):=h;omega
 have hLnd:(L.map (·.1)).Nodup:=(hL1.map _).nodup_iff.mpr nd
 have hLm: ∀ q∈L,ao m q.1=some q.2:=fun q hq=>gP nd (hL1.mem_iff.mp hq)
 have s5:=ai hp (.lst (L.map fun q=>V.str q.1))
 have g5:(upd H4 p (.lst (L.map fun q=>V.str q.1))) p=some (.lst (L.map fun q=>V.str q.1)):=ad
 generalize upd H4 p (.lst (L.map fun q=>V.str q.1))=H5 at s5 g5 ⊢
 have S35:=s4.trans s5
 have t5:=t3.same S35
 have gd5:=S35 _ _ gd3
 have gtd5:=S35 _ _ (k3 _ _ g2 ntd)
 have K5:Kp tbA H H5:=fun b o h hb=>S35 _ _ (k3 _ _ (S2 _ _ h) hb)
 have tkH: ∀ {H':Hp},Kp tbA H H'->TK H H':=fun k b xs e=>k b _ e fun z=>by
  obtain ⟨t,ht⟩:=hTb.tbl
  rw [z,ht]at e
  cases e
 have hB5:=hB.mono (tkH K5)
 have nT5: ∀ {b:Addr} {o:HO},H5 b=some o->(∀ t,o≠ .tbl t)->b≠tbA:=fun h1 h2 z=>by
  obtain ⟨t,ht⟩:=t5.tbl
  rw [z,ht]at h1
  exact h2 t (Option.some.inj h1).symm
 have npt:p≠td:=fun z=>by rw [z,gtd5]at g5;cases g5
 have ndt:d≠td:=fun z=>by
  rw [z,gtd5]at gd5
  have:([]:List (Key×V))=kvS m:=by injection gd5 with h;injection h
  have hk:m=[]:=by cases m with | nil=>rfl | cons a b=>cases this
  rw [hk]at hx;cases hx
 refine iA (xs:=L.map fun q=>V.str q.1) (fun i σ H'=>i<=L.length/\ ∃ o3 o4 o5 kvt,σ=[some bv,some (.str x),some (.ref td),o3,o4,o5,some (.ref d)]/\(∀ b o,H5 b=some o->b≠tbA->b≠td->H' b=some o)/\TabM tbA H'/\H' td=some (.dK kvt)/\kvt.length<=i/\ ∀ q∈L.take i,∃ v,bn kvt (.inr q.1)=some v/\TrQ bk H' i q.1 q.2 v)
  ⟨Nat.zero_le _,none,none,none,[],rfl,fun b o h _ _=>h,t5,gtd5,Nat.le_refl _,fun q hq=>(by cases hq)⟩ (fun i σ H' _ h=>by obtain ⟨_,_,_,_,_,_,k,_⟩:=h;exact SqL.of (k _ _ g5 (nT5 g5 fun t z=>by cases z) npt)) ?_ ?_
 ·rintro i xv σ H6 hxv ⟨hi,o3,o4,o5,kvt,rfl,k6,t6,gt6,hl6,hq6⟩
  rw [List.getElem?_map]at hxv
  cases hLi:L[i]? with
  | none=>rw [hLi]at hxv;cases hxv
  | some yn=>
  rw [hLi]at hxv
  cases hxv
  obtain ⟨y,n⟩:=yn
  have hil:i<L.length:=(List.getElem?_eq_some_iff.mp hLi).1
  have hyn:ao m y=some n:=hLm _ (List.mem_of_getElem? hLi)
  have tk56:TK H5 H6:=fun b xs e=>k6 b _ e (nT5 e fun t z=>by cases z) fun z=>by rw [z,gtd5]at e;cases e
  have gd6:=k6 _ _ gd5 nd2 ndt
  have hB6:=hB5.mono tk56
  have hfew:=hok.few
  refine ⟨_,rfl,_,rfl,bv,bk,d,m,rfl,hB6,hok,gd6,fun p7 zs H7 hp7 s7 g7 hz=>⟨p7,rfl,⟨_,SqL.of g7⟩,?_⟩⟩
  have lz:=Paired.length hz
  have lfl:(bk.forms.filter (aA m)).length<=10:=Nat.le_trans (List.length_filter_le _ _) hfew
  refine eN (by omega) hz (jE g7) (jD g7) (lQ g7) (fun fr=>decide (fr.own.name=y)) RepF (fun t h=>h.mono t) ?_ ?_ ?_
  ·intro fr v Ha k hfr hR sa hk
   refine ⟨_,rfl,v,fr,rfl,hR.mono (aK sa),_,rfl,rfl,_,rfl,?_⟩
   rw [show decide (V.str fr.own.name=V.str y)=decide (fr.own.name=y)from decide_eq_decide.mpr ⟨fun e=>V.str.inj e,fun e=>by rw [e]⟩]
   exact hk Ha (Same.refl Ha)
  ·intro fr v Ha k hfr hR _ sa hk
   exact ⟨_,rfl,hk v Ha (Same.refl Ha) (hR.mono (aK sa))⟩
  intro p8 ws H8 hp8 s8 g8 hw
  have hmem: ∀ fr,fr∈(bk.forms.filter (aA m)).filter (fun fr=>decide (fr.own.name=y))↔fr∈bk.forms/\aA m fr=true/\fr.own.name=y:=fun fr=>by
   rw [List.mem_filter,List.mem_filter,decide_eq_true_eq]
   exact ⟨fun ⟨⟨a,b⟩,c⟩=>⟨a,b,c⟩,fun ⟨a,b,c⟩=>⟨⟨a,b⟩,c⟩⟩
  generalize (bk.forms.filter (aA m)).filter (fun fr=>decide (fr.own.name=y))=as at hw hmem
  have lw:as.length=ws.length:=Paired.length hw
  obtain ⟨fr0,hf0,hg0,ho0,hz0⟩:=hF.wit hyn
  obtain ⟨j0,hj0⟩:=List.getElem?_of_mem ((hmem fr0).mpr ⟨hf0,hg0,ho0⟩)
  have hj0l:=(List.getElem?_eq_some_iff.mp hj0).1
  have S68:=s7.trans s8
  have t8:=t6.same S68
  have gd8:=S68 _ _ gd6
  have np8:p8≠tbA:=fun z=>by
   obtain ⟨t,ht⟩:=t8.tbl
   rw [z,ht]at g8
   cases g8
  have nT8: ∀ {b:Addr} {xs:List V},H8 b=some (.tup xs)->b≠tbA:=fun h1 z=>by
   obtain ⟨t,ht⟩:=t8.tbl
   rw [z,ht]at h1
   cases h1
  refine ⟨_,rfl,p8,ws,rfl,g8,by omega,uU t8 fun c2 oc2 H9 k9 t9 hc9=>?_⟩
  have gd9:=k9 _ _ gd8 nd2
  have tk89:TK H8 H9:=fun b xs e=>k9 _ _ e (nT8 e)
  refine ⟨fun j=>((((as[j]?).map (szB m)).getD 0:Nat):Int),Same H9,ue d m c2 oc2,[.ref d],Same.refl H9,fun Ha sa=>sa _ _ (k9 _ _ g8 np8),rfl,fun j v hv Ha sa=>?_,fun hoc=>rj hoc GB bB kB mB,fun H10 j v s10 hv hmin=>?_⟩
  ·obtain ⟨fr,hfr,hR⟩:=aP hw hv
   obtain ⟨a1,a2,a3⟩:=(hmem fr).mp (List.mem_of_getElem? hfr)
   exact ⟨v,fr,rfl,hR.mono (tk89.trans (aK sa)),(hok.ok fr a1).2.2,sa _ _ gd9,h40,a2,sa _ _ hc9,fun Hb sb=>⟨by show V.int ((szB m fr:Nat):Int)=V.int ((((as[j]?).map (szB m)).getD 0:Nat):Int);rw [hfr];rfl,sa.trans sb⟩⟩
  obtain ⟨fr,hfr,hR8⟩:=aP hw hv
  obtain ⟨hf,hg,ho⟩:=(hmem fr).mp (List.mem_of_getElem? hfr)
  have hsz:szB m fr=n:=by
   have h1:((((as[j]?).map (szB m)).getD 0:Nat):Int)<=((((as[j0]?).map (szB m)).getD 0:Nat):Int):=hmin j0 (by omega)
   rw [hfr,hj0]at h1
   have h1:((szB m fr:Nat):Int)<=((szB m fr0:Nat):Int):=h1
   obtain ⟨n',h2,h3⟩:=hF.low hok hf hg
   rw [ho,hyn]at h2
   cases h2
   omega
  have tk510:TK H5 H10:=(tk56.trans (aK S68)).trans (tk89.trans (aK s10))
  have K610: ∀ b o,H6 b=some o->b≠tbA->H10 b=some o:=fun b o h hb=>s10 _ _ (k9 _ _ (S68 _ _ h) hb)
  have t10:=t9.same s10
  have gt10:=K610 _ _ gt6 ntd
  have tk610:TK H6 H10:=fun b xs e=>K610 b _ e fun z=>by
   obtain ⟨t,ht⟩:=t6.tbl
   rw [z,ht]at e
   cases e
  have hR10:=hR8.mono (tk89.trans (aK s10))
  obtain ⟨fa,pa0,ra,rv,rfl,hfa,_⟩:=id hR10
  refine ⟨_,rfl,fa,_,0,.str fr.name,rfl,rfl,SqT.of hfa,dF,_,rfl,_,fr,rfl,hR10,fun pa hpa=>⟨pa,rfl,⟨_,SqT.of hpa⟩,?_⟩⟩
  have hp3:=(hok.ok fr hf).2.2
  have hpl:=dM fr.parts
  refine cN (by omega) (bo fr.parts) (cF hpa) (cE hpa) (db hpa) (fun Ha p v=> ∃ k,ao m p.name=some k/\TrQ bk Ha i p.name k v) (fun t ⟨k,h1,h2⟩=>⟨k,h1,h2.mono t⟩) ?_ ?_
  ·rintro pp v Ha k hpp rfl sa hk
   obtain ⟨kk,hkk,hlt⟩:=cI hg hpp
   have hmL:(pp.name,kk)∈L:=hL1.mem_iff.mpr (iz hkk)
   obtain ⟨jj,hjj⟩:=List.getElem?_of_mem hmL
   have hjjl:=(List.getElem?_eq_some_iff.mp hjj).1
   have hji:jj<i:=by
    rcases Nat.lt_trichotomy jj i with z | z | z
    ·exact z
    ·subst z
     rw [hLi]at hjj
     cases hjj
     omega
    ·have:=List.pairwise_iff_getElem.mp hLpw i jj hil hjjl z
     rw [List.getElem?_eq_getElem hil]at hLi
     rw [List.getElem?_eq_getElem hjjl]at hjj
     rw [Option.some.inj hLi,Option.some.inj hjj]at this
     have:n<=kk:=this
     omega
   obtain ⟨vv,hvv,htr⟩:=hq6 (pp.name,kk) (List.mem_of_getElem? (i:=jj) (by rw [List.getElem?_take_of_lt hji];exact hjj))
   have gta:=sa _ _ gt10
   refine ⟨_,rfl,_,rfl,td,vv,rfl,(by rw [<- hvv];exact DGet.k (k:=.inr pp.name) gta),hk vv Ha (Same.refl Ha) ⟨kk,hkk,htr.mono (tk610.trans (aK sa))⟩⟩
  intro p11 vs11 H11 hp11 s11 g11 hw11
  refine ⟨p11,vs11,rfl,.inl ⟨SqL.of g11,fun b hb=>?_⟩⟩
  have s12:=ai hb (.tup vs11)
  have g12:(upd H11 b (.tup vs11)) b=some (.tup vs11):=ad
  generalize upd H11 b (.tup vs11)=H12 at s12 g12 ⊢
  refine ⟨(by show 2<=sizeLine;decide),fun a ha=>?_⟩
  have s13:=ai ha (.tup [.str fr.name,.ref b])
  have g13:(upd H12 a (.tup [.str fr.name,.ref b])) a=some (.tup [.str fr.name,.ref b]):=ad
  generalize upd H12 a (.tup [.str fr.name,.ref b])=H13 at s13 g13 ⊢
  have S1013:=s11.trans (s12.trans s13)
  have gt13:=S1013 _ _ gt10
  have t13:=t10.same S1013
  refine ⟨_,rfl,_,rfl,td,_,rfl,DPut.k (k:=.inr y) gt13 (aF (by omega)),?_⟩
  have tk14:TK H13 (upd H13 td (.dK (dB kvt (.inr y) (.ref a)))):=fun b xs e=>by rw [ah (fun z=>by rw [z,gt13]at e;cases e)];exact e
  have hnew:TrQ bk H13 (i+1) fr.own.name (szB m fr) (.ref a):=si hok hf g13 (s13 _ _ g12) (Paired.mapP hw11 fun p v ⟨k,h1,h2⟩=>⟨k,h1,h2.mono (aK (s12.trans s13))⟩)
  rw [ho,hsz]at hnew
  refine ⟨hil,_,_,_,dB kvt (.inr y) (.ref a),rfl,fun b o h hb1 hb2=>?_,?_,ad,?_,fun q hq=>?_⟩
  ·rw [ah hb2]
   exact S1013 _ _ (K610 _ _ (k6 _ _ h hb1 hb2) hb1)
  ·rcases t13 with ⟨c1,o1,h1,h2,h3,h4⟩ | ⟨c1,o1,c2',o2,h1,h2,h3,h4,h5,h6,h7⟩
   ·refine .inl ⟨c1,o1,by rw [ah (Ne.symm ntd)];exact h1,h2,?_,h4⟩
    rw [ah (fun z=>by rw [z,gt13]at h3;cases h3)];exact h3
   ·refine .inr ⟨c1,o1,c2',o2,by rw [ah (Ne.symm ntd)];exact h1,h2,?_,h4,h5,?_,h7⟩
    ·rw [ah (fun z=>by rw [z,gt13]at h3;cases h3)];exact h3
    ·rw [ah (fun z=>by rw [z,gt13]at h6;cases h6)];exact h6
  ·have:=cM kvt (.inr y) (.ref a)
   omega
  ·rw [List.take_add_one,hLi]at hq
   rw [gV]
   rcases List.mem_append.mp hq with hq | hq
   ·have hne:q.1≠y:=fun z=>by
     obtain ⟨jq,hjq⟩:=List.getElem?_of_mem hq
     have hjql:=(List.getElem?_eq_some_iff.mp hjq).1
     rw [List.length_take]at hjql
     rw [List.getElem?_take_of_lt (by omega)]at hjq
     have h1:(L.map (·.1))[jq]? =some y:=by rw [List.getElem?_map,hjq];show some q.1=some y;rw [z]
     have h2:(L.map (·.1))[i]? =some y:=by rw [List.getElem?_map,hLi];rfl
     have:=dD hLnd h1 h2
     omega
    rw [if_neg (fun z=>hne (Sum.inr.inj z))]
    obtain ⟨v,h1,h2⟩:=hq6 q hq
    exact ⟨v,h1,((h2.mono (tk610.trans (aK S1013))).le (Nat.le_succ i)).mono tk14⟩
   ·rw [show q=(y,n)from List.mem_singleton.mp hq,if_pos rfl]
    exact ⟨_,rfl,hnew.mono tk14⟩
 ·rintro σ H6 ⟨_,o3,o4,o5,kvt,rfl,k6,t6,gt6,hl6,hq6⟩
  rw [List.length_map]at hq6
  rw [List.take_length]at hq6
  obtain ⟨v,hv,htr⟩:=hq6 (x,n0) (hL1.mem_iff.mpr (iz hx))
  refine ⟨_,rfl,_,rfl,td,v,rfl,(by rw [<- hv];exact DGet.k (k:=.inr x) gt6),q m n0 v H6 hF hx (fun b o h hb=>k6 _ _ (K5 _ _ h hb) hb (ak h htd0)) (.inr t6) (htr.le (by omega))⟩
structure uT (K:PySem.W.Frag) (mg:Str->Option Value) (C CB D0 D1 D2 D3 D4 D5 D6 D7 D8 D9 D10 D11 D12 D13 D14 D15 D16:Addr):Prop where
 d0:mg "NoBook"=some (.ref D0)
 d1:mg "NoBuild"=some (.ref D1)
 d2:mg "NoChange"=some (.ref D2)
 d3:mg "NoFit"=some (.ref D3)
 d4:mg "NoGiven"=some (.ref D4)
 d5:mg "NoName"=some (.ref D5)
 d6:mg "NoPlace"=some (.ref D6)
 d7:mg "NoPlain"=some (.ref D7)
 d8:mg "NoPrice"=some (.ref D8)
 d9:mg "NoRow"=some (.ref D9)
 d10:mg "NoSpot"=some (.ref D10)
 d11:mg "NoText"=some (.ref D11)
 d12:mg "NoWorth"=some (.ref D12)
 d13:mg "Ring"=some (.ref D13)
 d14:mg "Tangled"=some (.ref D14)
 d15:mg "TooGreat"=some (.ref D15)
 d16:mg "TooMany"=some (.ref D16)
 c:mg "NoTree"=some (.ref C)
 cb:mg "BoughError"=some (.ref CB)
 ve:mg "ValueError"=none
 exc:ExC K C
 cac:CaC K C CB
 no:PySem.W.kitAny K (.ref C) ([D0,D1,D2,D3,D4,D5,D6,D7,D8,D9,D10,D11,D12,D13,D14,D15,D16].map Value.ref)=some false
 self:PySem.W.kitOne K (.ref C) (.ref C)=some true
 val:PySem.W.kitOne K (.ref C) (.type "ValueError")=some true
theorem sP {P:Program} {w:World} {C:Addr} {X:Cx}:jN (CX1 P w C) X E0:=fun _ _ _ _ _ _ _ h=>by
 cases h
 rename_i q
 exact q.elim
noncomputable def jU (tbA:Addr):Sp:=fun vs H Q _=> ∃ bv bk x,vs=[bv,.str x]/\RepB H bk bv/\BkG bk/\TabL tbA H/\(∃ m,FixS bk m/\ao m x=none)/\ ∀ H',Same H H'->Q (.bl true) H'
noncomputable abbrev rQ:List Str:=["book","sort","caught","e"]
theorem scNoTree:aI rQ ["book","sort"] (aj jp):=fsc
theorem nz (F:Fun K "_law_no_tree" "_law_no_tree" jp f fd) (hisi:mg "isinstance"=none) (h:uT K mg C CB D0 D1 D2 D3 D4 D5 D6 D7 D8 D9 D10 D11 D12 D13 D14 D15 D16)
  (GA:ay P w K mg base (CX1 P w C) 5 g gd ["book","sort"] (jh C tbA)) (bA:Binds K gd ["book","sort"] []) (kA:PySem.W.keepIn K (.ref g)=true) (mA:mg "least_tree"=some (.ref g)):
  ay P w K mg base CX0 6 f fd ["book","sort"] (jU tbA):=by
 refine F.ok scNoTree (fun vs H Q E h=>?_) (fun cdv A outer s H vs Q E hr hq=>?_)
 ·obtain ⟨bv,bk,x,rfl,_⟩:=h
  rfl
 obtain ⟨bv,bk,x,rfl,hB,hok,hTb,⟨m,hF,hn⟩,q⟩:=hq
 refine ⟨_,af (aq (i:=2) scNoTree.nd rfl (Or.inl rfl) cP)
  (af (qQ (i:=3) (fun _ _ z=>z) rfl rfl scNoTree.nd GA hr rfl mA kA bA (ac (pv 0) (ac (pv 1) ae)) rfl rfl rfl h.cb h.cac (fun x=>al (aq (i:=2) scNoTree.nd rfl (Or.inl rfl) (pv 3))))
  (af (aW (cc (ar ot rfl hisi (by decide +kernel) (ac (pv 2) (ac (aY (pac (be (v:=.ref D0) rfl h.d0 rfl) (pac (be (v:=.ref D1) rfl h.d1 rfl) (pac (be (v:=.ref D2) rfl h.d2 rfl) (pac (be (v:=.ref D3) rfl h.d3 rfl) (pac (be (v:=.ref D4) rfl h.d4 rfl) (pac (be (v:=.ref D5) rfl h.d5 rfl) (pac (be (v:=.ref D6) rfl h.d6 rfl) (pac (be (v:=.ref D7) rfl h.d7 rfl) (pac (be (v:=.ref D8) rfl h.d8 rfl) (pac (be (v:=.ref D9) rfl h.d9 rfl) (pac (be (v:=.ref D10) rfl h.d10 rfl) (pac (be (v:=.ref D11) rfl h.d11 rfl) (pac (be (v:=.ref D12) rfl h.d12 rfl) (pac (be (v:=.ref D13) rfl h.d13 rfl) (pac (be (v:=.ref D14) rfl h.d14 rfl) (pac (be (v:=.ref D15) rfl h.d15 rfl) (pac (be (v:=.ref D16) rfl h.d16 rfl) ae)))))))))))))))))) ae)))) cu aM)
  (al (aJ (eY (ar kJ rfl hisi (by decide +kernel) (ac (pv 2) (ac (be (v:=.ref C) rfl h.c rfl) ae)))
   (eX (ar kJ rfl hisi (by decide +kernel) (ac (pv 2) (ac (bh (v:=.ty "ValueError") rfl h.ve (by decide +kernel) rfl) ae))))))))),?_⟩
 refine ⟨_,rfl,_,rfl,bv,bk,x,rfl,hB,hok,hTb,fun m' n v H' hF' e=>(by rw [<- ff hok hF hF',hn]at e;cases e),fun m' H1 hF' _ s1 t1 y hy=>?_⟩
 have S2:=s1.trans (ai hy (ExO y C))
 have g2:(upd H1 y (ExO y C)) y=some (ExO y C):=ad
 generalize upd H1 y (ExO y C)=H2 at S2 g2 ⊢
 refine ⟨_,rfl,_,rfl,(by show 17<=sizeLine;decide),fun p hp=>?_⟩
 have s3:=ai hp (.tup [V.ref D0,V.ref D1,V.ref D2,V.ref D3,V.ref D4,V.ref D5,V.ref D6,V.ref D7,V.ref D8,V.ref D9,V.ref D10,V.ref D11,V.ref D12,V.ref D13,V.ref D14,V.ref D15,V.ref D16])
 have g3:(upd H2 p (.tup [V.ref D0,V.ref D1,V.ref D2,V.ref D3,V.ref D4,V.ref D5,V.ref D6,V.ref D7,V.ref D8,V.ref D9,V.ref D10,V.ref D11,V.ref D12,V.ref D13,V.ref D14,V.ref D15,V.ref D16])) p=some (.tup [V.ref D0,V.ref D1,V.ref D2,V.ref D3,V.ref D4,V.ref D5,V.ref D6,V.ref D7,V.ref D8,V.ref D9,V.ref D10,V.ref D11,V.ref D12,V.ref D13,V.ref D14,V.ref D15,V.ref D16]):=ad
 have gx:=s3 _ _ g2
 generalize upd H2 p (.tup [V.ref D0,V.ref D1,V.ref D2,V.ref D3,V.ref D4,V.ref D5,V.ref D6,V.ref D7,V.ref D8,V.ref D9,V.ref D10,V.ref D11,V.ref D12,V.ref D13,V.ref D14,V.ref D15,V.ref D16])=H3 at s3 g3 gx ⊢
 refine ⟨y,C,p,[D0,D1,D2,D3,D4,D5,D6,D7,D8,D9,D10,D11,D12,D13,D14,D15,D16],false,rfl,gx,h.exc,g3,h.no,_,rfl,bi ?_⟩
 refine ⟨_,rfl,y,C,.ref C,.ref C,true,rfl,gx,h.exc,fun u z=>z,h.self,_,rfl,?_⟩
 refine bd ?_
 exact ⟨_,rfl,y,C,.ty "ValueError",.type "ValueError",true,rfl,gx,h.exc,fun u z=>z,h.val,q _ (S2.trans s3)⟩
noncomputable def vD:Stmt->Expr
 | .Assign _ e _=>e
 | _=>.Constant .none 0 ⟨0,0,0,0⟩
noncomputable def u7 (i:Nat):Stmt:=(bz dI).getD i (.Pass ⟨0,0,0,0⟩)
noncomputable def g9 (tbA:Addr):Sp:=fun vs H Q _=> ∃ bv bk,vs=[bv]/\RepB H bk bv/\BkG bk/\TabL tbA H/\ ∀ H',Kp tbA H H'->TabL tbA H'->Q (.bl true) H'
theorem TabL.tk {tbA:Addr} {H H':Hp} (h:TabL tbA H) (k:Kp tbA H H'):TK H H':=fun b xs e=>k b _ e fun z=>by
 obtain ⟨t,h⟩:=h.tbl
 rw [z,h]at e
 cases e
theorem hX {H:Hp} {a b:Addr} {l:List Str} (ha:H a=some (.lst (l.map V.str))) (hb:H b=some (.lst (l.map V.str))) (hl:l.length<=1000) (hs: ∀ x∈l,x.length<=1000):SameV H 3 (.ref a) (.ref b):=by
 refine .inr (.inr ⟨false,a,b,_,_,rfl,rfl,ha,hb,by rw [List.length_map];exact hl,?_⟩)
 clear ha hb hl
 induction l with
 | nil=>exact .nil
 | cons x r ih=>exact .cons (.inl ⟨x,rfl,rfl,hs x List.mem_cons_self⟩) (ih fun y hy=>hs y (List.mem_cons_of_mem _ hy))
theorem TabL.updK {tbA d:Addr} {H:Hp} {kvs:List (Key×V)} {o':HO} (hd:H d=some (.dK kvs)) (h:TabL tbA H):TabL tbA (upd H d o'):=by
 have ne: ∀ {b:Addr} {o:HO},H b=some o->(∀ k,o≠ .dK k)->b≠d:=fun h1 h2 z=>by
  rw [z,hd]at h1
  exact h2 kvs (Option.some.inj h1).symm
 rcases h with h | ⟨c1,o1,h1,h2,h3,h4⟩ | ⟨c1,o1,c2,o2,h1,h2,h3,h4,h5,h6,h7⟩
 ·exact .inl (by rw [ah (ne h fun k z=>by cases z)];exact h)
 ·exact .inr (.inl ⟨c1,o1,by rw [ah (ne h1 fun k z=>by cases z)];exact h1,h2,by rw [ah (ne h3 fun k z=>by cases z)];exact h3,h4⟩)
 ·exact .inr (.inr ⟨c1,o1,c2,o2,by rw [ah (ne h1 fun k z=>by cases z)];exact h1,h2,by rw [ah (ne h3 fun k z=>by cases z)];exact h3,h4,h5,by rw [ah (ne h6 fun k z=>by cases z)];exact h6,h7⟩)
theorem TabL.updL {tbA d:Addr} {H:Hp} {xs:List V} {o':HO} (hd:H d=some (.lst xs)) (h:TabL tbA H):TabL tbA (upd H d o'):=by
 have ne: ∀ {b:Addr} {o:HO},H b=some o->(∀ k,o≠ .lst k)->b≠d:=fun h1 h2 z=>by
  rw [z,hd]at h1
  exact h2 xs (Option.some.inj h1).symm
 rcases h with h | ⟨c1,o1,h1,h2,h3,h4⟩ | ⟨c1,o1,c2,o2,h1,h2,h3,h4,h5,h6,h7⟩
 ·exact .inl (by rw [ah (ne h fun k z=>by cases z)];exact h)
 ·exact .inr (.inl ⟨c1,o1,by rw [ah (ne h1 fun k z=>by cases z)];exact h1,h2,by rw [ah (ne h3 fun k z=>by cases z)];exact h3,h4⟩)
 ·exact .inr (.inr ⟨c1,o1,c2,o2,by rw [ah (ne h1 fun k z=>by cases z)];exact h1,h2,by rw [ah (ne h3 fun k z=>by cases z)];exact h3,h4,h5,by rw [ah (ne h6 fun k z=>by cases z)];exact h6,h7⟩)
noncomputable abbrev NRS:List Str:=["book","due","live","found","sort","tree","name"]
theorem scRS:aI NRS ["book"] (aj dI):=fsc
theorem nw (F:Fun K "_law_right" "_law_right" dI f fd) (G:Gb mg) (hdict:mg "dict"=none)
  (GZ:ay P w K mg base CX0 1 f2 fd2 ["book"] jV) (bZ:Binds K fd2 ["book"] []) (kZ:PySem.W.keepIn K (.ref f2)=true) (mZ:mg "_law_sizes"=some (.ref f2))
  (GL:ay P w K mg base CX0 4 f3 fd3 ["book"] fu) (bL:Binds K fd3 ["book"] []) (kL:PySem.W.keepIn K (.ref f3)=true) (mL:mg "least_sizes"=some (.ref f3))
  (GV:ay P w K mg base CX0 6 f4 fd4 ["book"] oQ) (bV:Binds K fd4 ["book"] []) (kV':PySem.W.keepIn K (.ref f4)=true) (mV:mg "live_forms"=some (.ref f4))
  (GS:ay P w K mg base CX0 5 f5 fd5 ["found","due"] (fU 3)) (bS:Binds K fd5 ["found","due"] []) (kS:PySem.W.keepIn K (.ref f5)=true) (mS:mg "_law_same"=some (.ref f5))
  (GW:ay P w K mg base CX0 1 f6 fd6 ["found"] gJ) (bW:Binds K fd6 ["found"] []) (kW:PySem.W.keepIn K (.ref f6)=true) (mW:mg "_law_whole"=some (.ref f6))
  (GC:ay P w K mg base CX0 6 f7 fd7 ["book","thing"] (eD 4)) (bC:Binds K fd7 ["book","thing"] []) (kC:PySem.W.keepIn K (.ref f7)=true) (mC:mg "_law_check"=some (.ref f7))
  (GT:ay P w K mg base (CX1 P w C) 5 f8 fd8 ["book","sort"] (jh C tbA)) (bT:Binds K fd8 ["book","sort"] []) (kT:PySem.W.keepIn K (.ref f8)=true) (mT:mg "least_tree"=some (.ref f8))
  (GN:ay P w K mg base CX0 6 f9 fd9 ["book","sort"] (jU tbA)) (bN:Binds K fd9 ["book","sort"] []) (kN:PySem.W.keepIn K (.ref f9)=true) (mN:mg "_law_no_tree"=some (.ref f9)):
  ay P w K mg base CX0 7 f fd ["book"] (g9 tbA):=by
 refine F.ok scRS (fun vs H Q E h=>?_) (fun cdv A outer s H vs Q E hr h=>?_)
 ·obtain ⟨bv,bk,rfl,_⟩:=h
  rfl
 obtain ⟨bv,bk,rfl,hB,hok,hTb,q⟩:=h
 have hu:=dR hr
 have hr1:=hr.mono (show 1<=6 by decide)
 have hr4:=hr.mono (show 4<=6 by decide)
 have hr5:=hr.mono (show 5<=6 by decide)
 refine ⟨_,af (aq (i:=1) scRS.nd rfl (Or.inr rfl) (am GZ hr1 rfl mZ kZ bZ .nil aw (ac (pv 0) ae)))
  (af (ic (i:=2) (sc0:=aj dI) (N0:=NRS) (ys:=["due"]) (fr:=[1]) rfl scRS.nd rfl (Or.inl rfl) (bu (ax aE (pv 0) ag (fun _ _=>rfl))) rfl rfl
    cok
    (fun C s H ex=>aD (r:=rIn K true) fC iY (cA (sc0:=uj (aj dI) (uA (vD (u7 1)))) (N0:=["form","due"]) (wi:=sZ K (tOp (iO K) (qD 0) (tC (.int 2)))) (ys:=["due"]) (fr:=[1]) rfl (bu (ax (r:=iO K) aE (pv 0) ag (fun _ _=>rfl))) rfl rfl
     cok (fun C s H ex=>lG (lH hu (pv 0) (pv 1)))) (by with_unfolding_all rfl))
    (fun C s H ex=>ax (r:=iO K) aE (pv 0) ag (fun _ _=>rfl)))
  (af (aq (i:=3) scRS.nd rfl (Or.inl rfl) (am GL hr4 rfl mL kL bL .nil aw (ac (pv 0) ae)))
  (af (aW (PW.pt (dQ (cZ (cc (ar bj rfl G.isi (by decide +kernel) (ac (pv 3) (ac (bh (v:=.ty "dict") rfl hdict (by decide +kernel) rfl) ae)))))
    (dQ (aD (pG hu) (pv 3) (pv 1) (aH _)) (el (cZ (cc (am GS hr5 rfl mS kS bS .nil aw (ac (am GV hr rfl mV kV' bV .nil aw (ac (pv 0) ae)) (ac (pv 2) ae))))))))) cu aM)
  (af (ce PassesOwn.never rfl (pA (pv 1)) (aL (i:=4) scRS.nd rfl (Or.inl rfl))
   (af (aW (cZ (cc (am GW hr1 rfl mW kW bW .nil aw (ac (cz hu (pv 3) (pv 4) (fun _ _=>rfl)) ae)))) cu aM)
   (af (aq (i:=5) scRS.nd rfl (Or.inl rfl) (am GC hr rfl mC kC bC .nil aw (ac (pv 0) (ac (am (E:=E0) GT hr5 rfl mT kT bT .nil sP (ac (pv 0) (ac (pv 4) ae))) ae))))
   (al (aW (PW.pt (dQ (aD ik (pv 5) cP (aH _)) (dQ (aD gy (ax aE (pv 5) ag (fun _ _=>rfl)) (pv 4) (aH _)) (el (aD gy (ax aE (pv 5) ag (fun _ _=>rfl)) (cz hu (pv 1) (pv 4) (fun _ _=>rfl)) (aH _)))))) cu aM)))))
  (af (dn (sO PySem.F.plainAttrs_dict PySem.F.slot_dict_clear PySem.F.type_dict_clear nN (pv 3)))
  (af (dn (ig PySem.F.plainAttrs_list PySem.F.slot_list_append PySem.F.type_list_append cv (am GV hr rfl mV kV' bV .nil aw (ac (pv 0) ae)) (ac bx ae)))
  (af (ce PassesOwn.never rfl (eI (au gc (cA (sc0:=aj dI) (N0:=NRS) (ys:=[]) (fr:=[]) rfl (bu (ax aE (pv 0) ag (fun _ _=>rfl))) rfl rfl
     cok (fun C s H ex=>ax (r:=iO K) aE (pv 0) ag (fun _ _=>rfl)))
     (bU (ac bx (ac bx ae))))) (aL (i:=6) scRS.nd rfl (Or.inl rfl))
   (al (aW (PW.pt (er (lC (fZ hu (pv 6) (pv 1))) (dl (cZ (cc (am GN hr rfl mN kN bN .nil aw (ac (pv 0) (ac (pv 6) ae)))))))) cu aM)))
  (al (aJ (eY (cK (qU hu) (am GL hr4 rfl mL kL bL .nil aw (ac (pv 0) ae)) (pv 1) (aH _)) (eX (am GS hr5 rfl mS kS bS .nil aw (ac (am GV hr rfl mV kV' bV .nil aw (ac (pv 0) ae)) (ac (pv 2) ae)))))))))))))),?_⟩
 obtain ⟨a,sa,fa,fv,rfl,ha,⟨sx,hsa,hS⟩,hfa,hFs⟩:=id hB
 have lF:=hFs.len
 have lS:bk.sorts.length=sx.length:=hS.len
 have hfew:=hok.few
 have h4s:=hok.so.2.1
 have hnm: ∀ (g:Frm->Bool),∀ x∈(bk.forms.filter g).map Frm.name,x.length<=1000:=fun g x hx=>by
  obtain ⟨fr,hfr,rfl⟩:=List.mem_map.mp hx
  have hw:=hok.wd fr (List.mem_filter.mp hfr).1
  unfold cW at hw
  simp only [Bool.and_eq_true,decide_eq_true_eq]at hw
  omega
 have hnl: ∀ (g:Frm->Bool),((bk.forms.filter g).map Frm.name).length<=1000:=fun g=>by
  rw [List.length_map]
  have:=List.length_filter_le g bk.forms
  omega
 refine ⟨_,rfl,_,bk,rfl,hB,hok,fun d m2 H1 hd0 s1 g1 hF2 nd2 h402=>?_⟩
 refine ⟨_,rfl,a,_,2,.ref fa,rfl,rfl,SqT.of (s1 _ _ ha),aG (j:=2) rfl,fa,rfl,⟨fv,SqT.of (s1 _ _ hfa)⟩,?_⟩
 refine eN (by omega) (hFs.mono (aK s1)) (cF (s1 _ _ hfa)) (cE (s1 _ _ hfa)) (db (s1 _ _ hfa)) (aA m2) (fun _ fr v=>v=.str (Frm.name fr)) (fun _ h=>h) ?_ ?_ ?_
 ·rintro fr v Ha k hfr ⟨b,pa,ra,rv,rfl,hb,hpa,_⟩ sa' hk
  have hp3:=(hok.ok fr hfr).2.2
  have hpl:=dM fr.parts
  refine ⟨_,rfl,b,_,2,.ref pa,rfl,rfl,SqT.of (sa' _ _ hb),aG (j:=2) rfl,pa,rfl,⟨_,SqT.of (sa' _ _ hpa)⟩,?_⟩
  refine cN (by omega) (bo fr.parts) (cF (sa' _ _ hpa)) (cE (sa' _ _ hpa)) (db (sa' _ _ hpa)) (fun _ p v=>v=.bl (ao m2 p.name).isSome) (fun _ h=>h) ?_ ?_
  ·rintro p v H' k' hp rfl s' hk'
   refine ⟨_,rfl,_,rfl,d,_,rfl,DGet.k (k:=.inr p.name) (s' _ _ (sa' _ _ g1)),hk' _ H' (Same.refl H') ?_⟩
   rw [bf]
   cases ao m2 p.name <;> rfl
  intro p3 zs H3 hp3' s3 g3 hz
  have ez:=bQ hz
  have ez:zs=(fr.parts.map fun p=>(ao m2 p.name).isSome).map V.bl:=by rw [ez,List.map_map];rfl
  subst ez
  refine ⟨p3,_,rfl,.inl (SqL.of g3),rfl,kt _,_,rfl,?_⟩
  have eg:(!inV (.bl false) ((fr.parts.map fun p=>(ao m2 p.name).isSome).map V.bl))=aA m2 fr:=by
   rw [i6,List.all_map];rfl
  refine (show k (!inV (.bl false) ((fr.parts.map fun p=>(ao m2 p.name).isSome).map V.bl)) H3 from ?_)
  rw [eg]
  exact hk H3 s3
 ·rintro fr v Ha k hfr ⟨b,pa,ra,rv,rfl,hb,hpa,_⟩ _ sa' hk
  exact ⟨_,rfl,b,_,0,.str fr.name,rfl,rfl,SqT.of (sa' _ _ hb),dF,hk _ Ha (Same.refl Ha) rfl⟩
 intro lv ws H2 hlv s2 g2 hw
 have ew:=bQ hw
 have ew:ws=((bk.forms.filter (aA m2)).map Frm.name).map V.str:=by rw [ew,List.map_map];rfl
 subst ew
 have S2:=s1.trans s2
 have eqg: ∀ {m':Sz},FixS bk m'->aA m'=aA m2:=fun hF'=>funext fun fr=>((gh (bk:=bk) (ff hok hF' hF2)).1 fr).1
 refine ⟨_,rfl,_,bk,rfl,hB.mono (aK S2),hok,fun e m H3 he0 s3 g3 hF nd h40=>?_⟩
 have S3:=S2.trans s3
 refine ⟨_,rfl,_,"dict",rfl,.inr (.inr ⟨_,g3⟩),by simp,_,rfl,?_⟩
 rw [show isV "dict" H3 (.ref e)=true by simp only [isV,g3];rfl]
 refine bi ?_
 have gd3:=s3 _ _ (s2 _ _ g1)
 refine ⟨_,rfl,_,rfl,e,_,rfl,g3,da _,.inr ⟨d,_,rfl,gd3,da _,_,rfl,?_⟩⟩
 rw [(gQ nd nd2).mpr (ff hok hF hF2)]
 refine bi ?_
 have glv3:=s3 _ _ g2
 refine ⟨_,rfl,_,bk,rfl,hB.mono (aK S3),hok,fun p4 m4 H4 hF4 hp4 s4 g4=>?_⟩
 rw [eqg hF4]at g4
 refine ⟨_,rfl,_,_,rfl,hX g4 (s4 _ _ glv3) (hnl _) (hnm _),fun H5 s5=>⟨true,rfl,bi ?_⟩⟩
 have S35:=s4.trans s5
 have S5:=S3.trans S35
 have gd5:=S35 _ _ gd3
 have ge5:=S35 _ _ g3
 have glv5:=S35 _ _ glv3
 have t5:=hTb.same S5
 have nPt5: ∀ {b:Addr} {o:HO},H5 b=some o->(∀ t,o≠ .tbl t)->b≠tbA:=fun h1 h2 z=>by
  obtain ⟨t,ht⟩:=t5.tbl
  rw [z,ht]at h1
  exact h2 t (Option.some.inj h1).symm
 have ndP:d≠tbA:=nPt5 gd5 fun t z=>by cases z
 have neP:e≠tbA:=nPt5 ge5 fun t z=>by cases z
 have nlP:lv≠tbA:=nPt5 glv5 fun t z=>by cases z
 have ned:e≠d:=fun z=>by rw [z,s2 _ _ g1]at he0;cases he0
 have nld:lv≠d:=fun z=>by rw [z,g1]at hlv;cases hlv
 have nel:lv≠e:=fun z=>by rw [<- z,g2]at he0;cases he0
 have heH:H e=none:=S2.free he0
 refine ⟨_,rfl,d,kvS m2,rfl,gd5,fun o=>?_⟩
 have gdF:(upd H5 d (.frz o (.dK (kvS m2)))) d=some (.frz o (.dK (kvS m2))):=ad
 have tF:TabL tbA (upd H5 d (.frz o (.dK (kvS m2)))):=t5.updK gd5
 have kF:Kp tbA H (upd H5 d (.frz o (.dK (kvS m2)))):=fun b o' h _=>by rw [ah (ak h hd0)];exact S5 _ _ h
 have geF:(upd H5 d (.frz o (.dK (kvS m2)))) e=some (.dK (kvS m)):=by rw [ah ned];exact ge5
 have glF:(upd H5 d (.frz o (.dK (kvS m2)))) lv=some (.lst (((bk.forms.filter (aA m2)).map Frm.name).map V.str)):=by rw [ah nld];exact glv5
 generalize upd H5 d (.frz o (.dK (kvS m2)))=HF at gdF tF kF geF glF ⊢
 have dget: ∀ {H':Hp} {x:Str},H' d=some (.frz o (.dK (kvS m2)))->DGet H' d (.str x) (bn (kvS m2) (.inr x)):=fun h=>.inl ⟨_,.inr _,.inr ⟨o,h⟩,rfl,rfl⟩
 have hB': ∀ {H':Hp},Kp tbA H H'->RepB H' bk (.ref a):=fun k=>hB.mono (hTb.tk k)
 refine oa (fun i σ H'=> ∃ o4 o5,σ=[some (.ref a),some (.ref d),some (.ref lv),some (.ref e),o4,o5,none]/\Kp tbA HF H'/\TabL tbA H')
  ⟨none,none,rfl,fun b o h _=>h,tF⟩ (fun i σ H' _ ⟨_,_,_,k,_⟩=>k _ _ gdF ndP) ?_ ?_
 ·rintro i key σ H6 hkey ⟨o4,o5,rfl,k6,t6⟩
  rw [List.getElem?_map]at hkey
  obtain ⟨qq,hqq,rfl⟩: ∃ qq:Str×Nat,m2[i]? =some qq/\key=.inr qq.1:=by
   unfold kvS at hkey
   rw [List.getElem?_map]at hkey
   cases hm:m2[i]? with
   | none=>rw [hm]at hkey;cases hkey
   | some qq=>rw [hm]at hkey;exact ⟨qq,rfl,(Option.some.inj hkey).symm⟩
  obtain ⟨x,n⟩:=qq
  have hx2:ao m2 x=some n:=gP nd2 (List.mem_of_getElem? hqq)
  have hx:ao m x=some n:=by rw [ff hok hF hF2];exact hx2
  have hv:bn (kvS m) (.inr x)=some (.int ((n:Nat):Int)):=by rw [bf,hx];rfl
  have hv2:bn (kvS m2) (.inr x)=some (.int ((n:Nat):Int)):=by rw [bf,hx2];rfl
  have k06:Kp tbA H H6:=fun b o h hb=>k6 _ _ (kF _ _ h hb) hb
  refine ⟨_,rfl,_,rfl,e,.int ((n:Nat):Int),rfl,(by rw [<- hv];exact DGet.k (k:=.inr x) (k6 _ _ geF neP)),_,rfl,trivial,_,rfl,bi ?_⟩
  refine ⟨_,rfl,_,rfl,_,rfl,_,bk,x,rfl,hB' k06,hok,t6,fun m7 n7 v7 H7 hF7 hn7 k7 t7 htr=>?_,fun m7 H7 hF7 hn7=>(by rw [ff hok hF7 hF2,hx2]at hn7;cases hn7)⟩
  have en:n7=n:=by rw [ff hok hF7 hF2,hx2]at hn7;exact (Option.some.inj hn7).symm
  subst en
  have k07:Kp tbA H H7:=fun b o h hb=>k7 _ _ (k06 _ _ h hb) hb
  have kF7:Kp tbA HF H7:=fun b o h hb=>k7 _ _ (k6 _ _ h hb) hb
  obtain ⟨th,sr,r1,r2,r3⟩:=htr
  refine ⟨_,bk,th,v7,rfl,hB' k07,hok,r1.toH,fun hno=>(by rw [r2]at hno;cases hno),fun s' k' hk' p8 dp H8 s8 g8=>?_⟩
  rw [r2]at hk'
  cases hk'
  refine ⟨_,rfl,rfl,_,rfl,?_⟩
  rw [show decide (V.ref p8=V.non)=false from decide_eq_false fun z=>nomatch z]
  refine bi ⟨_,rfl,p8,_,0,_,rfl,rfl,SqT.of g8,dF,_,rfl,rfl,_,rfl,?_⟩
  refine (show if (!decide (V.str sr.name=V.str x))=true then _ else _ from ?_)
  rw [show (!decide (V.str sr.name=V.str x))=false by rw [r3,decide_eq_true rfl];rfl]
  refine bi ⟨_,rfl,p8,_,1,_,rfl,rfl,SqT.of g8,aG (j:=1) rfl,_,rfl,_,rfl,d,.int ((n7:Nat):Int),rfl,(by rw [<- hv2];exact dget (s8 _ _ (kF7 _ _ gdF ndP))),rfl,_,rfl,?_⟩
  refine (show if (!decide (V.int ((n7:Nat):Int)=V.int ((n7:Nat):Int)))=true then _ else _ from ?_)
  rw [show (!decide (V.int ((n7:Nat):Int)=V.int ((n7:Nat):Int)))=false by rw [decide_eq_true rfl];rfl]
  refine bi ?_
  exact ⟨_,_,rfl,fun b o h hb=>s8 _ _ (kF7 _ _ h hb),t7.same s8⟩
 ·rintro σ H6 ⟨o4,o5,rfl,k6,t6⟩
  have k06:Kp tbA H H6:=fun b o h hb=>k6 _ _ (kF _ _ h hb) hb
  have ge6:=k6 _ _ geF neP
  have gd6:=k6 _ _ gdF ndP
  have gl6:=k6 _ _ glF nlP
  refine ⟨_,rfl,?_,e,_,rfl,rfl,ge6,?_⟩
  ·exact .inr (.inr (.inl ⟨rfl,.inl ⟨_,ge6⟩⟩))
  have t7:TabL tbA (upd H6 e (.dK [])):=t6.updK ge6
  have k07:Kp tbA H (upd H6 e (.dK [])):=fun b o h hb=>by rw [ah (ak h heH)];exact k06 _ _ h hb
  have gd7:(upd H6 e (.dK [])) d=some (.frz o (.dK (kvS m2))):=by rw [ah (Ne.symm ned)];exact gd6
  have gl7:(upd H6 e (.dK [])) lv=some (.lst (((bk.forms.filter (aA m2)).map Frm.name).map V.str)):=by rw [ah nel];exact gl6
  generalize upd H6 e (.dK [])=H7 at t7 k07 gd7 gl7 ⊢
  refine ⟨_,rfl,_,bk,rfl,hB' k07,hok,fun p8 m8 H8 hF8 hp8 s8 g8=>⟨.inl ⟨rfl,_,SqL.of g8⟩,p8,_,_,rfl,rfl,g8,aF (by rw [List.length_map];exact hnl _),?_⟩⟩
  have hp8H:H p8=none\/p8=tbA:=by
   cases hh:H p8 with
   | none=>exact .inl rfl
   | some oo=>
    by_cases z:p8=tbA
    ·exact .inr z
    ·rw [k07 _ _ hh z]at hp8;cases hp8
  have np8:p8≠tbA:=fun z=>by
   obtain ⟨t,ht⟩:=t7.tbl
   rw [z,ht]at hp8
   cases hp8
  have hp8H:H p8=none:=hp8H.resolve_right np8
  have t9:=(t7.same s8).updL (o':=.lst (((bk.forms.filter (aA m8)).map Frm.name).map V.str++[.str "x"])) g8
  have k09:Kp tbA H (upd H8 p8 (.lst (((bk.forms.filter (aA m8)).map Frm.name).map V.str++[.str "x"]))):=fun b o h hb=>by rw [ah (ak h hp8H)];exact s8 _ _ (k07 _ _ h hb)
  have gd9:(upd H8 p8 (.lst (((bk.forms.filter (aA m8)).map Frm.name).map V.str++[.str "x"]))) d=some (.frz o (.dK (kvS m2))):=by rw [ah (fun z=>by rw [<- z,gd7]at hp8;cases hp8)];exact s8 _ _ gd7
  have gl9:(upd H8 p8 (.lst (((bk.forms.filter (aA m8)).map Frm.name).map V.str++[.str "x"]))) lv=some (.lst (((bk.forms.filter (aA m2)).map Frm.name).map V.str)):=by rw [ah (fun z=>by rw [<- z,gl7]at hp8;cases hp8)];exact s8 _ _ gl7
  generalize upd H8 p8 (.lst (((bk.forms.filter (aA m8)).map Frm.name).map V.str++[.str "x"]))=H9 at t9 k09 gd9 gl9 ⊢
  have tk9:=hTb.tk k09
  refine ⟨_,rfl,a,_,1,.ref sa,rfl,rfl,SqT.of (tk9 _ _ ha),aG (j:=1) rfl,sa,rfl,⟨sx,SqT.of (tk9 _ _ hsa)⟩,?_⟩
  refine cN (by omega) hS (cF (tk9 _ _ hsa)) (cE (tk9 _ _ hsa)) (db (tk9 _ _ hsa)) (fun _ s v=>v=.str (Srt.name s)) (fun _ h=>h) ?_ ?_
  ·rintro sr v Ha k hsr ⟨b,dc,uc,rfl,hb,_⟩ sa' hk
   exact ⟨_,rfl,b,_,0,.str sr.name,rfl,rfl,SqT.of (sa' _ _ (tk9 _ _ hb)),dF,hk _ Ha (Same.refl Ha) rfl⟩
  intro p10 zs H10 hp10 s10 g10 hz
  have ez:=bQ hz
  have ez:zs=(bk.sorts.map Srt.name).map V.str:=by rw [ez,List.map_map];rfl
  subst ez
  refine ⟨(by show 2<=sizeLine;decide),fun p11 hp11=>?_⟩
  have s11:=ai hp11 (.lst [.str "nosuch",.str ""])
  have g11:(upd H10 p11 (.lst [.str "nosuch",.str ""])) p11=some (.lst [.str "nosuch",.str ""]):=ad
  generalize upd H10 p11 (.lst [.str "nosuch",.str ""])=H11 at s11 g11 ⊢
  refine ⟨p10,p11,_,_,rfl,rfl,s11 _ _ g10,g11,Nat.le_trans (m:=1000) (by rw [List.length_map,List.length_map];show _+2<=_;omega) (by decide),fun p12 hp12=>?_⟩
  have s12:=ai hp12 (.lst ((bk.sorts.map Srt.name).map V.str++[.str "nosuch",.str ""]))
  have g12:(upd H11 p12 (.lst ((bk.sorts.map Srt.name).map V.str++[.str "nosuch",.str ""]))) p12=some (.lst ((bk.sorts.map Srt.name++(["nosuch",""]:List Str)).map V.str)):=by
   rw [ad,List.map_append]
   rfl
  generalize upd H11 p12 (.lst ((bk.sorts.map Srt.name).map V.str++[.str "nosuch",.str ""]))=H12 at s12 g12 ⊢
  have S12:=(s10.trans s11).trans s12
  have t12:=t9.same S12
  have k012:Kp tbA H H12:=fun b o h hb=>S12 _ _ (k09 _ _ h hb)
  have gd12:=S12 _ _ gd9
  have gl12:=S12 _ _ gl9
  refine ⟨p12,rfl,⟨_,SqL.of g12⟩,?_⟩
  refine iA (xs:=(bk.sorts.map Srt.name++(["nosuch",""]:List Str)).map V.str) (fun i σ H'=> ∃ o6,σ=[some (.ref a),some (.ref d),some (.ref lv),some (.ref e),o4,o5,o6]/\Same H12 H')
   ⟨_,rfl,Same.refl _⟩ (fun i σ H' _ ⟨_,_,s'⟩=>SqL.of (s' _ _ g12)) ?_ ?_
  ·rintro i xv σ H13 hxv ⟨o6,rfl,s13⟩
   rw [List.getElem?_map]at hxv
   obtain ⟨x,hx,rfl⟩:=Option.map_eq_some_iff.mp hxv
   refine ⟨_,rfl,_,rfl,d,_,rfl,dget (s13 _ _ gd12),_,rfl,?_⟩
   cases hx2:ao m2 x with
   | some n=>
    rw [show (!(bn (kvS m2) (.inr x)).isSome)=false by rw [bf,hx2];rfl]
    refine bi (bi ?_)
    exact ⟨_,rfl,s13⟩
   | none=>
    rw [show (!(bn (kvS m2) (.inr x)).isSome)=true by rw [bf,hx2];rfl]
    refine bd ⟨_,rfl,_,rfl,_,bk,x,rfl,hB' (fun b o h hb=>s13 _ _ (k012 _ _ h hb)),hok,t12.same s13,⟨m2,hF2,hx2⟩,fun H14 s14=>⟨true,rfl,bi ?_⟩⟩
    exact ⟨_,rfl,s13.trans s14⟩
  ·rintro σ H13 ⟨o6,rfl,s13⟩
   have k013:Kp tbA H H13:=fun b o h hb=>s13 _ _ (k012 _ _ h hb)
   have t13:=t12.same s13
   refine ⟨_,rfl,_,bk,rfl,hB' k013,hok,fun e' m' H14 he' s14 g14 hF' nd' h40'=>?_⟩
   refine ⟨_,rfl,e',_,d,_,rfl,g14,da _,rfl,.inr ⟨o,s14 _ _ (s13 _ _ gd12)⟩,da _,true,?_,?_⟩
   ·rw [(gQ nd' nd2).mpr (ff hok hF' hF2)]
   refine bd ?_
   have k014:Kp tbA H H14:=fun b o h hb=>s14 _ _ (k013 _ _ h hb)
   refine ⟨_,rfl,_,bk,rfl,hB' k014,hok,fun p15 m15 H15 hF15 hp15 s15 g15=>?_⟩
   rw [eqg hF15]at g15
   refine ⟨_,rfl,_,_,rfl,hX g15 (s15 _ _ (s14 _ _ (s13 _ _ gl12))) (hnl _) (hnm _),fun H16 s16=>?_⟩
   exact q H16 (fun b o h hb=>s16 _ _ (s15 _ _ (k014 _ _ h hb))) (((t13.same s14).same s15).same s16)
theorem BookOk.bkG {b:Bk} (h:BookOk b):BkG b:=⟨h.so,h.few,h.nd,h.wd,fun fr hf=>by
 obtain ⟨mode,_,hh⟩:=h.fo
 obtain ⟨a1,a2,a3,_⟩:=hh fr hf
 exact ⟨a1,a2,a3⟩⟩
theorem BkG.turned {b:Bk} (h:BkG b):BkG ⟨b.wheel,b.sorts,b.forms.reverse⟩:=by
 refine ⟨h.so,?_,?_,fun fr hf=>h.wd fr (List.mem_reverse.mp hf),fun fr hf=>h.ok fr (List.mem_reverse.mp hf)⟩
 ·show b.forms.reverse.length<=10
  rw [List.length_reverse];exact h.few
 ·show (b.forms.reverse.map Frm.name).Nodup
  rw [List.map_reverse]
  exact List.pairwise_reverse.mpr (List.Pairwise.imp (fun h=>Ne.symm h) h.nd)
theorem BkG.some {b:Bk} (h:BkG b) (c:Frm->Bool):BkG ⟨b.wheel,b.sorts,b.forms.filter c⟩:=by
 refine ⟨h.so,?_,?_,fun fr hf=>h.wd fr (List.mem_filter.mp hf).1,fun fr hf=>h.ok fr (List.mem_filter.mp hf).1⟩
 ·exact Nat.le_trans (List.length_filter_le _ _) h.few
 ·exact List.Nodup.sublist (List.Sublist.map _ List.filter_sublist) h.nd
theorem fb (x y z:V): ¬ (HT.sIx [x,y,z].length 0 none=0/\HT.sIx [x,y,z].length [x,y,z].length (some 2)=[x,y,z].length):=by
 rintro ⟨_,h⟩
 have h2:HT.sIx 3 3 (some 2)=3:=h
 exact absurd h2 (by decide)
theorem tE (x y z:V):fg [x,y,z] none (some 2)=[x,y]:=rfl
theorem TabL.sql {K:PySem.W.Frag} {tbA a:Addr} {H H':Hp} {xs:List V} (h:TabL tbA H) (k:Kp tbA H H') (hS:SqL K H a xs):SqL K H' a xs:=by
 obtain ⟨t,h⟩:=h.tbl
 rcases hS with (e | ⟨o,e⟩) | e
 ·exact .inl (.inl (k _ _ e fun z=>by rw [z,h]at e;cases e))
 ·exact .inl (.inr ⟨o,k _ _ e fun z=>by rw [z,h]at e;cases e⟩)
 ·exact .inr e
theorem eQ {α β:Type} {F:α->β->Prop}: ∀ {a c:List α} {b d:List β},Paired F a b->Paired F c d->Paired F (a++c) (b++d)
 | _,_,_,_,.nil,h=>h
 | _,_,_,_,.cons x t,h=>.cons x (eQ t h)
theorem et {α β:Type} {F:α->β->Prop}: ∀ {a:List α} {b:List β},Paired F a b->Paired F a.reverse b.reverse
 | _,_,.nil=>.nil
 | _,_,.cons x t=>by rw [List.reverse_cons,List.reverse_cons];exact eQ (et t) (.cons x .nil)
noncomputable def lB (K:PySem.W.Frag):R2:=fun x y H Q=> ∃ a b xs,x=.ref a/\y=.ref b/\SqT K H a xs/\SqT K H b []/\Q (.bl (!xs.isEmpty)) H
noncomputable def me (K:PySem.W.Frag) (tbA:Addr):Sp:=fun vs H Q _=> ∃ (a:Addr) (ns:List Int),vs=[.ref a]/\SqL K H a (ns.map V.int)/\ns.length<=63/\TabL tbA H/\ ∀ H',Q (.bl true) H'
noncomputable abbrev qz:List Str:=["script","start","book","rest","gone"]
theorem scLaw:aI qz ["script"] (aj eh):=fsc
theorem pV {cdv:Value} {A:Around} {outer:List Env} {s:Shared} {H0:Hp} {E:XK} (G:Gb mg)
  (GC:ay P w K mg base CX0 1 f3 fd3 ["script","k"] (ji K)) (bC:Binds K fd3 ["script","k"] []) (kC:PySem.W.keepIn K (.ref f3)=true) (mC:mg "_law_cell_at"=some (.ref f3))
  (GR:ay P w K mg base CX0 7 f4 fd4 ["book"] (g9 tbA)) (bR:Binds K fd4 ["book"] []) (kR:PySem.W.keepIn K (.ref f4)=true) (mR:mg "_law_right"=some (.ref f4))
  (hr:Room 7 (dv CX0 P w K mg base qz "law" (aj eh) f cdv A outer s H0 E).nox.A):
  ∃ t,PSs (dv CX0 P w K mg base qz "law" (aj eh) f cdv A outer s H0 E).nox ((jG ((bz eh).getD 0 (.Pass ⟨0,0,0,0⟩))).drop 4) t/\
   ∀ (D:eP) (a:Addr) (ns:List Int) (st:Int) (b:Addr) (bk:Bk) (H3 H9:Hp) (o3 o4:Option V),SqL K H3 a (ns.map V.int)->ns.length<=63->0<=st->RepB H3 bk (.ref b)->BkG bk->TabL tbA H3->Kp tbA H3 H9->TabL tbA H9->
    (∀ H' o3 o4,Kp tbA H3 H'->TabL tbA H'->D.nx [some (.ref a),some (.int st),some (.ref b),o3,o4] H')->t D [some (.ref a),some (.int st),some (.ref b),o3,o4] H9:=by
 have hu:=dR hr
 have hu0:=hr.units0
 have hr1:=hr.mono (show 1<=7 by decide)
 refine ⟨_,(af (aq (i:=4) scLaw.nd rfl (Or.inr rfl) (ax aE (ax aE (ax aE (pv 2) ag (fun _ _=>rfl)) (au cg (au gM (am GC hr1 rfl mC kC bC .nil aw (ac (pv 0) (ac (pv 1) ae))) ag) (ar av rfl G.len PySem.boot_len (ac (ax aE (pv 2) ag (fun _ _=>rfl)) ae))) (fun _ _=>rfl)) ag (fun _ _=>rfl)))
   (af (aq (i:=3) scLaw.nd rfl (Or.inl rfl) (bc aU rfl G.tuple (by decide +kernel) (ac (ie (sc0:=aj eh) (N0:=qz) (ys:=["gone"]) (fr:=[4]) rfl (bu (ax aE (pv 2) ag (fun _ _=>rfl))) rfl rfl
     cok
     (fun C s H ex=>aD gy (ax (r:=iO K) aE (pv 0) ag (fun _ _=>rfl)) (pv 1) (by with_unfolding_all rfl)) (fun C s H ex=>pv 0)) ae)))
   (al (aW (PW.pt (er (aD (r:=lB K) (e6 hu0) (pv 3) (aY ae) (aH _)) (dl (cZ (cc (am GR hr rfl mR kR bR .nil aw (ac (au il (a7 lq (pv 2) bw (bg ag)) (aY (ac (pv 3) ae))) ae))))))) cu aM)))),?_⟩
 intro D a ns st b bk H3 H9 o3 o4 hS hlen hst hB hg t3 k39 t9 q
 obtain ⟨b',sa,fa,fv,eb,hb,⟨sx,hsa,hSs⟩,hfa,hF⟩:=id hB
 cases eb
 have hSA:SrtsAt H3 sa bk.sorts:=⟨sx,hsa,hSs⟩
 have lF:=hF.len
 have lS:bk.sorts.length=sx.length:=hSs.len
 have hfew:=hg.few
 have h1s:=hg.so.1
 have h4s:=hg.so.2.1
 have tk9:=t3.tk k39
 refine ⟨_,rfl,b,_,1,.ref sa,rfl,rfl,SqT.of (tk9 _ _ hb),aG (j:=1) rfl,?_⟩
 refine ⟨_,rfl,_,rfl,a,ns,st,rfl,t3.sql k39 hS,hlen,hst,fun c=>?_⟩
 refine ⟨_,_,rfl,rfl,⟨by decide,by decide⟩,?_⟩
 refine ⟨_,rfl,b,_,1,.ref sa,rfl,rfl,SqT.of (tk9 _ _ hb),aG (j:=1) rfl,sa,sx,rfl,.inr (SqT.of (tk9 _ _ hsa)),?_⟩
 have hpos:(0:Int) < (sx.length:Int):=by omega
 refine ⟨_,_,rfl,rfl,hpos,?_⟩
 obtain ⟨qs,aa,vb,vc,hq,eat,hqa⟩:=gK (RepSs.mono tk9 hSs) (d:=c/7% (sx.length:Int)) (Int.emod_nonneg _ (by omega)) (Int.emod_lt_of_pos _ hpos)
 refine ⟨sa,_,_,_,rfl,rfl,SqT.of (tk9 _ _ hsa),eat,aa,_,0,.str qs.name,rfl,rfl,SqT.of hqa,dF,?_⟩
 refine ⟨_,rfl,b,_,2,.ref fa,rfl,rfl,SqT.of (tk9 _ _ hb),aG (j:=2) rfl,fa,rfl,⟨fv,SqT.of (tk9 _ _ hfa)⟩,?_⟩
 refine eN (by omega) (hF.mono tk9) (cF (tk9 _ _ hfa)) (cE (tk9 _ _ hfa)) (db (tk9 _ _ hfa)) (fun fr=> !decide (V.str fr.own.name=V.str qs.name)) (fun H fr v=>RepF H fr v) (fun t h=>h.mono t) ?_ ?_ ?_
 ·rintro fr v Ha k hfr ⟨b',pa,ra,rv,rfl,hb',hpa,_⟩ sa' hk
  refine ⟨_,rfl,b',_,1,.str fr.own.name,rfl,rfl,SqT.of (sa' _ _ hb'),aG (j:=1) rfl,_,rfl,rfl,_,rfl,?_⟩
  exact hk Ha (Same.refl Ha)
 ·rintro fr v Ha k hfr hR _ sa' hk
  exact ⟨_,rfl,hk _ Ha (Same.refl Ha) (hR.mono (aK sa'))⟩
 intro p10 ws H10 hp10 s10 g10 hw
 refine ⟨p10,ws,rfl,.inl ⟨SqL.of g10,fun p11 hp11=>?_⟩⟩
 have s11:=ai hp11 (.tup ws)
 have g11:(upd H10 p11 (.tup ws)) p11=some (.tup ws):=ad
 generalize upd H10 p11 (.tup ws)=H11 at s11 g11 ⊢
 have hw11:RepFs H11 (bk.forms.filter fun fr=> !decide (V.str fr.own.name=V.str qs.name)) ws:=RepFs.mono (aK s11) hw
 have S11:=s10.trans s11
 have k311:Kp tbA H3 H11:=fun b o h hb=>S11 _ _ (k39 _ _ h hb)
 have t11:=t9.same S11
 clear g10 hw hp10 hp11 s10 s11 S11 k39 tk9 t9 hqa
 refine ⟨_,rfl,(by show 0<=sizeLine;decide),fun p12 hp12=>?_⟩
 have s12:=ai hp12 (.tup [])
 have g12:(upd H11 p12 (.tup [])) p12=some (.tup []):=ad
 generalize upd H11 p12 (.tup [])=H12 at s12 g12 ⊢
 have k312:Kp tbA H3 H12:=fun b o h hb=>s12 _ _ (k311 _ _ h hb)
 have tk12:=t3.tk k312
 have t12:=t11.same s12
 refine ⟨p11,p12,ws,rfl,rfl,SqT.of (s12 _ _ g11),SqT.of g12,_,rfl,?_⟩
 refine dE (fun _=>?_) (fun _=>bi ((fun H' k' t'=>q H' _ _ k' t') H12 k312 t12))
 refine ⟨_,rfl,2,rfl,b,_,rfl,SqT.of (tk12 _ _ hb),fb _ _ _,fun p5 hp5=>?_⟩
 rw [tE]
 have s5:=ai hp5 (.tup [.int bk.wheel,.ref sa])
 have g5:(upd H12 p5 (.tup [.int bk.wheel,.ref sa])) p5=some (.tup [.int bk.wheel,.ref sa]):=ad
 generalize upd H12 p5 (.tup [.int bk.wheel,.ref sa])=H5 at s5 g5 ⊢
 refine ⟨_,rfl,(by show 1<=sizeLine;decide),fun p7 hp7=>?_⟩
 have s7:=ai hp7 (.tup [.ref p11])
 have g7:(upd H5 p7 (.tup [.ref p11])) p7=some (.tup [.ref p11]):=ad
 generalize upd H5 p7 (.tup [.ref p11])=H7 at s7 g7 ⊢
 refine ⟨p5,p7,_,_,rfl,rfl,SqT.of (s7 _ _ g5),SqT.of g7,(by show 3<=sizeLine;decide),fun e=>(by cases e),fun _ e=>(by cases e),fun _ _ p8 hp8=>?_⟩
 have s8:=ai hp8 (.tup ([.int bk.wheel,.ref sa]++[.ref p11]))
 have g8:(upd H7 p8 (.tup ([.int bk.wheel,.ref sa]++[.ref p11]))) p8=some (.tup [.int bk.wheel,.ref sa,.ref p11]):=ad
 generalize upd H7 p8 (.tup ([.int bk.wheel,.ref sa]++[.ref p11]))=H8 at s8 g8 ⊢
 have S8:=s5.trans (s7.trans s8)
 have k38:Kp tbA H3 H8:=fun b o h hb=>S8 _ _ (k312 _ _ h hb)
 have S118:=s12.trans S8
 refine ⟨.ref p8,⟨bk.wheel,bk.sorts,bk.forms.filter _⟩,rfl,⟨p8,sa,p11,ws,rfl,g8,hSA.mono (t3.tk k38),S118 _ _ g11,hw11.mono (aK S118)⟩,hg.some _,t12.same S8,fun H13 k13 t13=>⟨true,rfl,bi ?_⟩⟩
 exact (fun H' k' t'=>q H' _ _ k' t') H13 (fun b o h hb=>k13 _ _ (k38 _ _ h hb) hb) t13
theorem sS (F:Fun K "law" "law" eh f fd) (G:Gb mg)
  (GB:ay P w K mg base CX0 6 f2 fd2 ["script","start","few"] (oR K)) (bB:Binds K fd2 ["script","start","few"] []) (kB:PySem.W.keepIn K (.ref f2)=true) (mB:mg "_law_book"=some (.ref f2))
  (GC:ay P w K mg base CX0 1 f3 fd3 ["script","k"] (ji K)) (bC:Binds K fd3 ["script","k"] []) (kC:PySem.W.keepIn K (.ref f3)=true) (mC:mg "_law_cell_at"=some (.ref f3))
  (GR:ay P w K mg base CX0 7 f4 fd4 ["book"] (g9 tbA)) (bR:Binds K fd4 ["book"] []) (kR:PySem.W.keepIn K (.ref f4)=true) (mR:mg "_law_right"=some (.ref f4)):
  ay P w K mg base CX0 8 f fd ["script"] (me K tbA):=by
 refine F.ok scLaw (fun vs H Q E h=>?_) (fun cdv A outer s H vs Q E hr h=>?_)
 ·obtain ⟨a,ns,rfl,_⟩:=h
  rfl
 obtain ⟨a,ns,rfl,hS,hlen,hTb,q⟩:=h
 have hu:=dR hr
 have hu0:=hr.units0
 have hr1:=hr.mono (show 1<=7 by decide)
 have hr6:=hr.mono (show 6<=7 by decide)
 obtain ⟨t,ht,hq⟩:=pV (f:=f) (cdv:=cdv) (A:=A) (outer:=outer) (s:=s) (H0:=H) (E:=E) G GC bC kC mC GR bR kR mR hr
 refine ⟨_,af (ce PassesOwn.never rfl (nr rfl G.range (ac ag (ac (ar (gk rfl) rfl G.max (by decide +kernel) (ac ag (ac (ar (jb rfl) rfl G.min (by decide +kernel) (ac ag (ac (ar av rfl G.len PySem.boot_len (ac (pv 0) ae)) ae))) ae))) (ac ag ae)))) (aL (i:=1) scLaw.nd rfl (Or.inl rfl))
   (af (aq (i:=2) scLaw.nd rfl (Or.inl rfl) (am GB hr6 rfl mB kB bB .nil aw (ac (pv 0) (ac (pv 1) (ac iY ae)))))
   (af (aW (PW.pt (dQ (cZ (cc (am GR hr rfl mR kR bR .nil aw (ac (pv 2) ae))))
    (el (cZ (cc (am GR hr rfl mR kR bR .nil aw (ac (au il (a7 lq (pv 2) bw (bg ag)) (aY (ac (pF (ax aE (pv 2) ag (fun _ _=>rfl)) (pB kY ag)) ae))) ae))))))) cu aM)
   (af (aq (i:=3) scLaw.nd rfl (Or.inl rfl) (bc aU rfl G.tuple (by decide +kernel) (ac (ie (sc0:=aj eh) (N0:=qz) (ys:=[]) (fr:=[]) rfl (bu (ax aE (pv 2) ag (fun _ _=>rfl))) rfl rfl
     cok
     (fun C s H ex=>aD (r:=lB K) (e6 hu0) (ax (r:=iO K) aE (pv 0) ag (fun _ _=>rfl)) (aY ae) (by with_unfolding_all rfl)) (fun C s H ex=>pv 0)) ae)))
   (af (aW (PW.pt (er (aD (r:=lB K) (e6 hu0) (pv 3) (aY ae) (aH _)) (dl (cZ (cc (am GR hr rfl mR kR bR .nil aw (ac (au il (a7 lq (pv 2) bw (bg ag)) (aY (ac (pv 3) ae))) ae))))))) cu aM)
   ht)))))
  (al (aJ iY)),?_⟩
 have hll:(ns.map V.int).length=ns.length:=List.length_map _
 refine ⟨_,rfl,a,_,rfl,.inl hS,55,_,rfl,1,_,rfl,0,_,11,rfl,?_,?_⟩
 ·rw [hll]
  refine ⟨by decide,by decide,?_,?_,by decide,by decide⟩ <;> split <;> split <;> omega
 rw [hll]
 have hb:Builtin.Range.rangeSize 0 (if (if (ns.length:Int) <55 then (ns.length:Int)else 55) >1 then (if (ns.length:Int) <55 then (ns.length:Int)else 55)else 1) 11<=8:=by
  unfold Builtin.Range.rangeSize
  rw [if_pos (by decide)]
  split <;> (try split) <;> (try split) <;> omega
 refine qf (fun i σ H'=> ∃ o1 o2 o3 o4,σ=[some (.ref a),o1,o2,o3,o4]/\Kp tbA H H'/\TabL tbA H') ⟨none,none,none,none,rfl,fun b o h _=>h,hTb⟩ ?_ ?_
 ·rintro i x σ H2 hi rfl ⟨o1,o2,o3,o4,rfl,k2,t2⟩
  have hi8:(i:Int) <8:=by omega
  have hS2:=hTb.sql k2 hS
  refine ⟨_,rfl,_,rfl,a,ns,_,false,rfl,hS2,hlen,by omega,by omega,fun bv bk H3 hB hok s3=>?_⟩
  have hg:=hok.bkG
  have t3:=t2.same s3
  have S3':SqL K H3 a (ns.map V.int):=s3.seq hS2
  have k3:Kp tbA H H3:=fun b o h hb=>s3 _ _ (k2 _ _ h hb)
  clear k2 t2 hS2 s3
  refine ⟨_,rfl,bv,bk,rfl,hB,hg,t3,fun H4 k4 t4=>⟨true,rfl,bi ?_⟩⟩
  obtain ⟨b,sa,fa,fv,rfl,hb,⟨sx,hsa,hSs⟩,hfa,hF⟩:=id hB
  have hSA:SrtsAt H3 sa bk.sorts:=⟨sx,hsa,hSs⟩
  have lF:=hF.len
  have lS:bk.sorts.length=sx.length:=hSs.len
  have hfew:=hg.few
  have h4s:=hg.so.2.1
  have tk4:=t3.tk k4
  refine ⟨_,rfl,2,rfl,b,_,rfl,SqT.of (tk4 _ _ hb),fb _ _ _,fun p5 hp5=>?_⟩
  rw [tE]
  have s5:=ai hp5 (.tup [.int bk.wheel,.ref sa])
  have g5:(upd H4 p5 (.tup [.int bk.wheel,.ref sa])) p5=some (.tup [.int bk.wheel,.ref sa]):=ad
  generalize upd H4 p5 (.tup [.int bk.wheel,.ref sa])=H5 at s5 g5 ⊢
  refine ⟨_,rfl,b,_,2,.ref fa,rfl,rfl,SqT.of (s5 _ _ (tk4 _ _ hb)),aG (j:=2) rfl,_,rfl,fa,fv,rfl,rfl,SqT.of (s5 _ _ (tk4 _ _ hfa)),fun p6 hp6=>?_⟩
  have s6:=ai hp6 (.tup fv.reverse)
  have g6:(upd H5 p6 (.tup fv.reverse)) p6=some (.tup fv.reverse):=ad
  generalize upd H5 p6 (.tup fv.reverse)=H6 at s6 g6 ⊢
  refine ⟨(by show 1<=sizeLine;decide),fun p7 hp7=>?_⟩
  have s7:=ai hp7 (.tup [.ref p6])
  have g7:(upd H6 p7 (.tup [.ref p6])) p7=some (.tup [.ref p6]):=ad
  generalize upd H6 p7 (.tup [.ref p6])=H7 at s7 g7 ⊢
  refine ⟨p5,p7,_,_,rfl,rfl,SqT.of (s7 _ _ (s6 _ _ g5)),SqT.of g7,(by show 3<=sizeLine;decide),fun e=>(by cases e),fun _ e=>(by cases e),fun _ _ p8 hp8=>?_⟩
  have s8:=ai hp8 (.tup ([.int bk.wheel,.ref sa]++[.ref p6]))
  have g8:(upd H7 p8 (.tup ([.int bk.wheel,.ref sa]++[.ref p6]))) p8=some (.tup [.int bk.wheel,.ref sa,.ref p6]):=ad
  generalize upd H7 p8 (.tup ([.int bk.wheel,.ref sa]++[.ref p6]))=H8 at s8 g8 ⊢
  have S8:=s5.trans (s6.trans (s7.trans s8))
  have k38:Kp tbA H3 H8:=fun b o h hb=>S8 _ _ (k4 _ _ h hb)
  have tk8:=t3.tk k38
  refine ⟨.ref p8,⟨bk.wheel,bk.sorts,bk.forms.reverse⟩,rfl,⟨p8,sa,p6,fv.reverse,rfl,g8,hSA.mono tk8,s8 _ _ (s7 _ _ g6),et (hF.mono tk8)⟩,hg.turned,t4.same S8,fun H9 k9 t9=>⟨true,rfl,bi ?_⟩⟩
  have k39:Kp tbA H3 H9:=fun b o h hb=>k9 _ _ (k38 _ _ h hb) hb
  have tk9:=t3.tk k39
  clear g5 g6 g7 g8 s5 s6 s7 s8 S8 k38 tk8 k4 tk4 t4 k9
  refine ⟨_,rfl,b,_,2,.ref fa,rfl,rfl,SqT.of (tk9 _ _ hb),aG (j:=2) rfl,fa,rfl,⟨fv,SqT.of (tk9 _ _ hfa)⟩,?_⟩
  refine eN (by omega) (hF.mono tk9) (cF (tk9 _ _ hfa)) (cE (tk9 _ _ hfa)) (db (tk9 _ _ hfa)) (fun fr=> !fr.parts.isEmpty) (fun H fr v=>RepF H fr v) (fun t h=>h.mono t) ?_ ?_ ?_
  ·rintro fr v Ha k hfr ⟨b',pa,ra,rv,rfl,hb',hpa,_⟩ sa' hk
   refine ⟨_,rfl,b',_,2,.ref pa,rfl,rfl,SqT.of (sa' _ _ hb'),aG (j:=2) rfl,(by show 0<=sizeLine;decide),fun pe hpe=>?_⟩
   have se:=ai hpe (.tup [])
   have ge:(upd Ha pe (.tup [])) pe=some (.tup []):=ad
   generalize upd Ha pe (.tup [])=He at se ge ⊢
   refine ⟨pa,pe,_,rfl,rfl,SqT.of (se _ _ (sa' _ _ hpa)),SqT.of ge,_,rfl,?_⟩
   have e:(a8 fr.parts).isEmpty=fr.parts.isEmpty:=by unfold a8;cases fr.parts <;> rfl
   refine (show k (!(a8 fr.parts).isEmpty) He from ?_)
   rw [e]
   exact hk He se
  ·rintro fr v Ha k hfr hR _ sa' hk
   exact ⟨_,rfl,hk _ Ha (Same.refl Ha) (hR.mono (aK sa'))⟩
  intro p10 ws H10 hp10 s10 g10 hw
  refine ⟨p10,ws,rfl,.inl ⟨SqL.of g10,fun p11 hp11=>?_⟩⟩
  have s11:=ai hp11 (.tup ws)
  have g11:(upd H10 p11 (.tup ws)) p11=some (.tup ws):=ad
  generalize upd H10 p11 (.tup ws)=H11 at s11 g11 ⊢
  have hw11:RepFs H11 (bk.forms.filter fun fr=> !fr.parts.isEmpty) ws:=RepFs.mono (aK s11) hw
  have S11:=s10.trans s11
  have k311:Kp tbA H3 H11:=fun b o h hb=>S11 _ _ (k39 _ _ h hb)
  have t11:=t9.same S11
  clear g10 hw hp10 hp11 s10 s11 S11 k39 tk9 t9
  refine ⟨_,rfl,(by show 0<=sizeLine;decide),fun p12 hp12=>?_⟩
  have s12:=ai hp12 (.tup [])
  have g12:(upd H11 p12 (.tup [])) p12=some (.tup []):=ad
  generalize upd H11 p12 (.tup [])=H12 at s12 g12 ⊢
  have k312:Kp tbA H3 H12:=fun b o h hb=>s12 _ _ (k311 _ _ h hb)
  have tk12:=t3.tk k312
  have t12:=t11.same s12
  refine ⟨p11,p12,ws,rfl,rfl,SqT.of (s12 _ _ g11),SqT.of g12,_,rfl,?_⟩
  refine dE (fun _=>?_) (fun _=>bi (by
   refine hq _ a ns _ b bk H3 _ _ _ S3' hlen ?_ hB hg t3 k312 t12 ?_
   ·omega
   ·exact fun H'' o3 o4 k'' t''=>⟨_,_,_,_,rfl,fun b o h hb=>k'' _ _ (k3 _ _ h hb) hb,t''⟩))
  refine ⟨_,rfl,2,rfl,b,_,rfl,SqT.of (tk12 _ _ hb),fb _ _ _,fun p5 hp5=>?_⟩
  rw [tE]
  have s5:=ai hp5 (.tup [.int bk.wheel,.ref sa])
  have g5:(upd H12 p5 (.tup [.int bk.wheel,.ref sa])) p5=some (.tup [.int bk.wheel,.ref sa]):=ad
  generalize upd H12 p5 (.tup [.int bk.wheel,.ref sa])=H5 at s5 g5 ⊢
  refine ⟨_,rfl,(by show 1<=sizeLine;decide),fun p7 hp7=>?_⟩
  have s7:=ai hp7 (.tup [.ref p11])
  have g7:(upd H5 p7 (.tup [.ref p11])) p7=some (.tup [.ref p11]):=ad
  generalize upd H5 p7 (.tup [.ref p11])=H7 at s7 g7 ⊢
  refine ⟨p5,p7,_,_,rfl,rfl,SqT.of (s7 _ _ g5),SqT.of g7,(by show 3<=sizeLine;decide),fun e=>(by cases e),fun _ e=>(by cases e),fun _ _ p8 hp8=>?_⟩
  have s8:=ai hp8 (.tup ([.int bk.wheel,.ref sa]++[.ref p11]))
  have g8:(upd H7 p8 (.tup ([.int bk.wheel,.ref sa]++[.ref p11]))) p8=some (.tup [.int bk.wheel,.ref sa,.ref p11]):=ad
  generalize upd H7 p8 (.tup ([.int bk.wheel,.ref sa]++[.ref p11]))=H8 at s8 g8 ⊢
  have S8:=s5.trans (s7.trans s8)
  have k38:Kp tbA H3 H8:=fun b o h hb=>S8 _ _ (k312 _ _ h hb)
  have S118:=s12.trans S8
  refine ⟨.ref p8,⟨bk.wheel,bk.sorts,bk.forms.filter _⟩,rfl,⟨p8,sa,p11,ws,rfl,g8,hSA.mono (t3.tk k38),S118 _ _ g11,hw11.mono (aK S118)⟩,hg.some _,t12.same S8,fun H13 k13 t13=>⟨true,rfl,bi ?_⟩⟩
  refine hq _ a ns _ b bk H3 _ _ _ S3' hlen ?_ hB hg t3 (fun b o h hb=>k13 _ _ (k38 _ _ h hb) hb) t13 ?_
  ·omega
  ·exact fun H'' o3 o4 k'' t''=>⟨_,_,_,_,rfl,fun b o h hb=>k'' _ _ (k3 _ _ h hb) hb,t''⟩
 ·rintro σ H2 ⟨o1,o2,o3,o4,rfl,k2,t2⟩
  exact q _
theorem iu {K:PySem.W.Frag} {C:Addr} {b:Value} {r:Bool} (h:PySem.W.mroIn K C b=some r):(PySem.W.clsIn K C).isSome=true:=by
 unfold PySem.W.mroIn at h
 cases e:PySem.W.clsIn K C with
 | none=>rw [e]at h;cases h
 | some c=>rfl
theorem df {α:Type} {l:List α} (h:l.length=1): ∃ a,l=[a]:=by
 match l,h with
 | [a],_=>exact ⟨a,rfl⟩
theorem cq {α:Type} {l:List α} (h:l.length=2): ∃ a b,l=[a,b]:=by
 match l,h with
 | [a,b],_=>exact ⟨a,b,rfl⟩
theorem qu {α:Type} {l:List α} (h:l.length=3): ∃ a b c,l=[a,b,c]:=by
 match l,h with
 | [a,b,c],_=>exact ⟨a,b,c,rfl⟩
theorem vA {α:Type} {l:List α} (h:l.length=4): ∃ a b c d,l=[a,b,c,d]:=by
 match l,h with
 | [a,b,c,d],_=>exact ⟨a,b,c,d,rfl⟩
theorem tK {α:Type} {l:List α} (h:l.length=5): ∃ a b c d e,l=[a,b,c,d,e]:=by
 match l,h with
 | [a,b,c,d,e],_=>exact ⟨a,b,c,d,e,rfl⟩
theorem tJ {α:Type} {l:List α} (h:l.length=6): ∃ a b c d e f,l=[a,b,c,d,e,f]:=by
 match l,h with
 | [a,b,c,d,e,f],_=>exact ⟨a,b,c,d,e,f,rfl⟩
/-- what is told of a def -/
structure Df (K:PySem.W.Frag) (nm:Str) (st:Stmt) (f:Addr) (fd:FuncData):Prop where
 a:PySem.W.nsIn K mainGlobals nm=some (some (.ref f))
 k:PySem.W.keepIn K (.ref f)=true
 F:Fun K nm nm st f fd
theorem Df.m {K:PySem.W.Frag} {nm:Str} {st:Stmt} {f:Addr} {fd:FuncData} {h:Heap} {mg:Str->Option Value} (d:Df K nm st f fd) (X:K.In h) (G:h.Ns mainGlobals mg):mg nm=some (.ref f):=PySem.W.mg_of X G d.a
theorem Df.of {K:PySem.W.Frag} {nm:Str} {st:Stmt} {f:Addr} {oc:Value} {od an:Option Addr} {osl:Array (Option Value)} {kV doc pm cdv ct:Value} (a:PySem.W.nsIn K mainGlobals nm=some (some (.ref f))) (k:PySem.W.keepIn K (.ref f)=true)
  (l:K.lookup f=some ⟨oc,od,.func (PySem.W.fnOf nm nm (fM st) (bz st) (aj st) .none kV doc pm an cdv ct),osl⟩) (c:PySem.W.codeIn K cdv nm=true):Df K nm st f (PySem.W.fnOf nm nm (fM st) (bz st) (aj st) .none kV doc pm an cdv ct):=
 ⟨a,k,⟨⟨oc,od,kV,doc,pm,an,cdv,ct,osl,rfl,l,c⟩,k⟩⟩
theorem all_mk {l:PySem.W.OpenLaw} {w:World} {K:PySem.W.Frag} {h:Heap} {mg:Str->Option Value} {fa cS Pt C CB f1 f2 f3 f4 f5 f6 f7 f8 f9 f10 f11 f12 f13 f14 f15 f16 f17 f18 f19 f20 f21 f22 f23 f24 f25 f26 f27 f28 f29 f30 f31 D0 D1 D2 D3 D4 D5 D6 D7 D8 D9 D10 D11 D12 D13 D14 D15 D16:Addr} {r1 r2 r3 r4 r5 r6 r7 r8 r9 r10 r11 r12 r13 r14 r15 r16 r17 r18 r19 r20 r21 r22 r23 r24 r25 r26 r27 r28 r29 r30 r31:FuncData} (X:K.In h) (G:h.Ns mainGlobals mg) (hfa:mg "law"=some (.ref fa)) (hTb:qw h mg "least_tree" cS Pt)
  (d1:Df K "sorts_of" hZ f1 r1)
  (d2:Df K "forms_of" h9 f2 r2)
  (d3:Df K "sort_of_form" dZ f3 r3)
  (d4:Df K "parts_of" h8 f4 r4)
  (d5:Df K "least_sizes" ef f5 r5)
  (d6:Df K "sizes_one_round_on" eE f6 r6)
  (d7:Df K "grown_forms" eF f7 r7)
  (d8:Df K "least_size_by" gL f8 r8)
  (d9:Df K "least_tree" bY f9 r9)
  (d10:Df K "live_forms" dJ f10 r10)
  (d11:Df K "forms_that_live" fX f11 r11)
  (d12:Df K "_law_cell_at" pd f12 r12)
  (d13:Df K "_law_tape" oZ f13 r13)
  (d14:Df K "_law_digit" lx f14 r14)
  (d15:Df K "_law_names" ee f15 r15)
  (d16:Df K "_law_number" jo f16 r16)
  (d17:Df K "_law_leaf" pc f17 r17)
  (d18:Df K "_law_formula" dA f18 r18)
  (d19:Df K "_law_sorts" ls f19 r19)
  (d20:Df K "_law_targets" dY f20 r20)
  (d21:Df K "_law_readings" cY f21 r21)
  (d22:Df K "_law_form" lu f22 r22)
  (d23:Df K "_law_book" dP f23 r23)
  (d24:Df K "_law_whole" jr f24 r24)
  (d25:Df K "_law_same" jX f25 r25)
  (d26:Df K "_law_form_of" js f26 r26)
  (d27:Df K "_law_check" jt f27 r27)
  (d28:Df K "_law_sizes" fA f28 r28)
  (d29:Df K "_law_no_tree" jp f29 r29)
  (d30:Df K "_law_right" dI f30 r30)
  (d31:Df K "law" eh f31 r31)
  (z1:PySem.W.nsIn K mainGlobals "isinstance"=some none)
  (z2:PySem.W.nsIn K mainGlobals "int"=some none)
  (z3:PySem.W.nsIn K mainGlobals "bool"=some none)
  (z4:PySem.W.nsIn K mainGlobals "str"=some none)
  (z5:PySem.W.nsIn K mainGlobals "tuple"=some none)
  (z6:PySem.W.nsIn K mainGlobals "len"=some none)
  (z7:PySem.W.nsIn K mainGlobals "all"=some none)
  (z8:PySem.W.nsIn K mainGlobals "range"=some none)
  (z9:PySem.W.nsIn K mainGlobals "max"=some none)
  (z10:PySem.W.nsIn K mainGlobals "min"=some none)
  (z11:PySem.W.nsIn K mainGlobals "list"=some none)
  (z12:PySem.W.nsIn K mainGlobals "zip"=some none)
  (z13:PySem.W.nsIn K mainGlobals "sum"=some none)
  (z14:PySem.W.nsIn K mainGlobals "sorted"=some none)
  (z15:PySem.W.nsIn K mainGlobals "dict"=some none)
  (z16:PySem.W.nsIn K mainGlobals "ValueError"=some none)
  (aC:PySem.W.nsIn K mainGlobals "NoTree"=some (some (.ref C))) (aB:PySem.W.nsIn K mainGlobals "BoughError"=some (some (.ref CB)))
  (c0:PySem.W.nsIn K mainGlobals "NoBook"=some (some (.ref D0)))
  (c1:PySem.W.nsIn K mainGlobals "NoBuild"=some (some (.ref D1)))
  (c2:PySem.W.nsIn K mainGlobals "NoChange"=some (some (.ref D2)))
  (c3:PySem.W.nsIn K mainGlobals "NoFit"=some (some (.ref D3)))
  (c4:PySem.W.nsIn K mainGlobals "NoGiven"=some (some (.ref D4)))
  (c5:PySem.W.nsIn K mainGlobals "NoName"=some (some (.ref D5)))
  (c6:PySem.W.nsIn K mainGlobals "NoPlace"=some (some (.ref D6)))
  (c7:PySem.W.nsIn K mainGlobals "NoPlain"=some (some (.ref D7)))
  (c8:PySem.W.nsIn K mainGlobals "NoPrice"=some (some (.ref D8)))
  (c9:PySem.W.nsIn K mainGlobals "NoRow"=some (some (.ref D9)))
  (c10:PySem.W.nsIn K mainGlobals "NoSpot"=some (some (.ref D10)))
  (c11:PySem.W.nsIn K mainGlobals "NoText"=some (some (.ref D11)))
  (c12:PySem.W.nsIn K mainGlobals "NoWorth"=some (some (.ref D12)))
  (c13:PySem.W.nsIn K mainGlobals "Ring"=some (some (.ref D13)))
  (c14:PySem.W.nsIn K mainGlobals "Tangled"=some (some (.ref D14)))
  (c15:PySem.W.nsIn K mainGlobals "TooGreat"=some (some (.ref D15)))
  (c16:PySem.W.nsIn K mainGlobals "TooMany"=some (some (.ref D16)))
  (x1:PySem.W.excIn K C [.type "ValueError",.type "Exception",.type "BaseException",.type "object"] "ValueError.__new__"=true)
  (x2:PySem.W.findIn K (.ref C) "__getattribute__"=some (some (.builtin "BaseException.__getattribute__"))) (x3:PySem.W.findIn K (.ref C) "__getattr__"=some none) (x4:PySem.W.findIn K (.ref C) "__class__"=some (some (.builtin "object.__class__")))
  (x5:PySem.W.specialIn K (.builtin "object.__class__") "__get__"=some (some (.builtin "getset_descriptor.__get__"))) (x6:PySem.W.takesIn K (.builtin "object.__class__")=some true)
  (x7:PySem.W.mroIn K C (.type "object")=some true) (x8:PySem.W.mroIn K C (.type "BaseException")=some true) (x9:PySem.W.mroIn K C (.ref CB)=some true) (x10:PySem.W.mroIn K CB (.type "BaseException")=some true) (x11:PySem.W.typeIn K (.ref CB)=some (.type "type"))
  (x12:PySem.W.kitAny K (.ref C) [.ref D0,.ref D1,.ref D2,.ref D3,.ref D4,.ref D5,.ref D6,.ref D7,.ref D8,.ref D9,.ref D10,.ref D11,.ref D12,.ref D13,.ref D14,.ref D15,.ref D16]=some false) (x13:PySem.W.kitOne K (.ref C) (.type "ValueError")=some true):
  ∃ fd:FuncData,(∀ (s:Shared) (v:Value),BindsTo s fd ⟨[v],[]⟩ [("script",v)])/\ ∀ base:Heap,K.In base->base.Ns mainGlobals mg->PySem.W.CodeHd base cS Pt->base.BuiltinsAt mg Pt->ay l.prog w K mg base CX0 8 fa fd ["script"] (me K Pt):=by
 have e:=hfa.symm.trans (d31.m X G)
 cases e
 have b1:=d1.F.binds (ps:=["book"]) fun _ _ _ _ _ _ us hl=>by obtain ⟨x,rfl⟩:=df hl;rfl
 have m1:=d1.m X G
 have b2:=d2.F.binds (ps:=["book"]) fun _ _ _ _ _ _ us hl=>by obtain ⟨x,rfl⟩:=df hl;rfl
 have m2:=d2.m X G
 have b3:=d3.F.binds (ps:=["form"]) fun _ _ _ _ _ _ us hl=>by obtain ⟨x,rfl⟩:=df hl;rfl
 have m3:=d3.m X G
 have b4:=d4.F.binds (ps:=["form"]) fun _ _ _ _ _ _ us hl=>by obtain ⟨x,rfl⟩:=df hl;rfl
 have m4:=d4.m X G
 have b5:=d5.F.binds (ps:=["book"]) fun _ _ _ _ _ _ us hl=>by obtain ⟨x,rfl⟩:=df hl;rfl
 have m5:=d5.m X G
 have b6:=d6.F.binds (ps:=["book","before"]) fun _ _ _ _ _ _ us hl=>by obtain ⟨x,y,rfl⟩:=cq hl;rfl
 have m6:=d6.m X G
 have b7:=d7.F.binds (ps:=["book","sizes"]) fun _ _ _ _ _ _ us hl=>by obtain ⟨x,y,rfl⟩:=cq hl;rfl
 have m7:=d7.m X G
 have b8:=d8.F.binds (ps:=["form","sizes"]) fun _ _ _ _ _ _ us hl=>by obtain ⟨x,y,rfl⟩:=cq hl;rfl
 have m8:=d8.m X G
 have b9:=d9.F.binds (ps:=["book","sort"]) fun _ _ _ _ _ _ us hl=>by obtain ⟨x,y,rfl⟩:=cq hl;rfl
 have m9:=d9.m X G
 have b10:=d10.F.binds (ps:=["book"]) fun _ _ _ _ _ _ us hl=>by obtain ⟨x,rfl⟩:=df hl;rfl
 have m10:=d10.m X G
 have b11:=d11.F.binds (ps:=["book"]) fun _ _ _ _ _ _ us hl=>by obtain ⟨x,rfl⟩:=df hl;rfl
 have m11:=d11.m X G
 have b12:=d12.F.binds (ps:=["script","k"]) fun _ _ _ _ _ _ us hl=>by obtain ⟨x,y,rfl⟩:=cq hl;rfl
 have m12:=d12.m X G
 have b13:=d13.F.binds (ps:=["script","k"]) fun _ _ _ _ _ _ us hl=>by obtain ⟨x,y,rfl⟩:=cq hl;rfl
 have m13:=d13.m X G
 have b14:=d14.F.binds (ps:=["tape","many"]) fun _ _ _ _ _ _ us hl=>by obtain ⟨x,y,rfl⟩:=cq hl;rfl
 have m14:=d14.m X G
 have b15:=d15.F.binds (ps:=["tape","many"]) fun _ _ _ _ _ _ us hl=>by obtain ⟨x,y,rfl⟩:=cq hl;rfl
 have m15:=d15.m X G
 have b16:=d16.F.binds (ps:=["tape"]) fun _ _ _ _ _ _ us hl=>by obtain ⟨x,rfl⟩:=df hl;rfl
 have m16:=d16.m X G
 have b17:=d17.F.binds (ps:=["tape","readings"]) fun _ _ _ _ _ _ us hl=>by obtain ⟨x,y,rfl⟩:=cq hl;rfl
 have m17:=d17.m X G
 have b18:=d18.F.binds (ps:=["tape","readings"]) fun _ _ _ _ _ _ us hl=>by obtain ⟨x,y,rfl⟩:=cq hl;rfl
 have m18:=d18.m X G
 have b19:=d19.F.binds (ps:=["tape","few"]) fun _ _ _ _ _ _ us hl=>by obtain ⟨x,y,rfl⟩:=cq hl;rfl
 have m19:=d19.m X G
 have b20:=d20.F.binds (ps:=["sorts","own","parts"]) fun _ _ _ _ _ _ us hl=>by obtain ⟨x,y,z,rfl⟩:=qu hl;rfl
 have m20:=d20.m X G
 have b21:=d21.F.binds (ps:=["sorts","own","parts","mode","j"]) fun _ _ _ _ _ _ us hl=>by obtain ⟨x,y,z,u,v,rfl⟩:=tK hl;rfl
 have m21:=d21.m X G
 have b22:=d22.F.binds (ps:=["tape","sorts","name","own","parts","mode"]) fun _ _ _ _ _ _ us hl=>by obtain ⟨x,y,z,u,v,w,rfl⟩:=tJ hl;rfl
 have m22:=d22.m X G
 have b23:=d23.F.binds (ps:=["script","start","few"]) fun _ _ _ _ _ _ us hl=>by obtain ⟨x,y,z,rfl⟩:=qu hl;rfl
 have m23:=d23.m X G
 have b24:=d24.F.binds (ps:=["found"]) fun _ _ _ _ _ _ us hl=>by obtain ⟨x,rfl⟩:=df hl;rfl
 have m24:=d24.m X G
 have b25:=d25.F.binds (ps:=["found","due"]) fun _ _ _ _ _ _ us hl=>by obtain ⟨x,y,rfl⟩:=cq hl;rfl
 have m25:=d25.m X G
 have b26:=d26.F.binds (ps:=["book","name"]) fun _ _ _ _ _ _ us hl=>by obtain ⟨x,y,rfl⟩:=cq hl;rfl
 have m26:=d26.m X G
 have b27:=d27.F.binds (ps:=["book","thing"]) fun _ _ _ _ _ _ us hl=>by obtain ⟨x,y,rfl⟩:=cq hl;rfl
 have m27:=d27.m X G
 have b28:=d28.F.binds (ps:=["book"]) fun _ _ _ _ _ _ us hl=>by obtain ⟨x,rfl⟩:=df hl;rfl
 have m28:=d28.m X G
 have b29:=d29.F.binds (ps:=["book","sort"]) fun _ _ _ _ _ _ us hl=>by obtain ⟨x,y,rfl⟩:=cq hl;rfl
 have m29:=d29.m X G
 have b30:=d30.F.binds (ps:=["book"]) fun _ _ _ _ _ _ us hl=>by obtain ⟨x,rfl⟩:=df hl;rfl
 have m30:=d30.m X G
 have Gb0:Gb mg:=⟨PySem.W.mg_none_of X G z1,PySem.W.mg_none_of X G z2,PySem.W.mg_none_of X G z3,PySem.W.mg_none_of X G z4,PySem.W.mg_none_of X G z5,PySem.W.mg_none_of X G z6,PySem.W.mg_none_of X G z7,PySem.W.mg_none_of X G z8,PySem.W.mg_none_of X G z9,PySem.W.mg_none_of X G z10⟩
 have v11:=PySem.W.mg_none_of X G z11
 have v12:=PySem.W.mg_none_of X G z12
 have v13:=PySem.W.mg_none_of X G z13
 have v14:=PySem.W.mg_none_of X G z14
 have v15:=PySem.W.mg_none_of X G z15
 have v16:=PySem.W.mg_none_of X G z16
 have cl:uT K mg C CB D0 D1 D2 D3 D4 D5 D6 D7 D8 D9 D10 D11 D12 D13 D14 D15 D16:=⟨PySem.W.mg_of X G c0,PySem.W.mg_of X G c1,PySem.W.mg_of X G c2,PySem.W.mg_of X G c3,PySem.W.mg_of X G c4,PySem.W.mg_of X G c5,PySem.W.mg_of X G c6,PySem.W.mg_of X G c7,PySem.W.mg_of X G c8,PySem.W.mg_of X G c9,PySem.W.mg_of X G c10,PySem.W.mg_of X G c11,PySem.W.mg_of X G c12,PySem.W.mg_of X G c13,PySem.W.mg_of X G c14,PySem.W.mg_of X G c15,PySem.W.mg_of X G c16,PySem.W.mg_of X G aC,PySem.W.mg_of X G aB,v16,⟨x2,x3,x4,x5,x6,x7,x8,iu x7⟩,⟨x9,x10,x11,iu x10⟩,x12,(by unfold PySem.W.kitOne;rw [if_pos (beq_self_eq_true _)]),x13⟩
 have hfc:r9.code=.ref cS:=by
  obtain ⟨⟨a,o,fd,t1,t2,t3,t4⟩,_⟩:=hTb
  rw [m9]at t1
  cases t1
  obtain ⟨oc,od,kV,doc,pm,an,cdv,ct,osl,_,lk,_⟩:=d9.F.ex
  rw [X _ _ lk]at t2
  cases t2
  cases t3
  exact t4
 have F31:=d31.F
 obtain ⟨_,_,kV,dc,pm,an,cd,ct,_,rfl,_,_⟩:=d31.F.ex
 refine ⟨PySem.W.fnOf "law" "law" (fM eh) (bz eh) (aj eh) .none kV dc pm an cd ct,fun s v=>.of_eq rfl,fun base _ _ hC hB=>?_⟩
 have g_sortsOf:=lL (P:=l.prog) (w:=w) (mg:=mg) (base:=base) d1.F
 have g_formsOf:=lM (P:=l.prog) (w:=w) (mg:=mg) (base:=base) d2.F
 have g_sortOf:=iP (P:=l.prog) (w:=w) (mg:=mg) (base:=base) d3.F
 have g_partsOf:=im (P:=l.prog) (w:=w) (mg:=mg) (base:=base) d4.F
 have g_sizeBy:=fun b=>nv (P:=l.prog) (w:=w) (mg:=mg) (base:=b) d8.F v13 (im (P:=l.prog) (w:=w) (mg:=mg) (base:=b) d4.F) b4 d4.k m4
 have g_grown:=nE d7.F Gb0 g_formsOf b2 d2.k m2 g_partsOf b4 d4.k m4
 have g_round:=j5 d6.F Gb0 g_sortsOf b1 d1.k m1 g_grown b7 d7.k m7 g_sortOf b3 d3.k m3 (g_sizeBy base) b8 d8.k m8
 have g_least:=nC d5.F g_round b6 d6.k m6
 have g_thatLive:=j4 d11.F g_grown b7 d7.k m7 g_least b5 d5.k m5
 have g_live:=qX d10.F g_thatLive b11 d11.k m11
 have g_tree:=jx d9.F Gb0 v14 hfc hC hB cl.c x1 PySem.F.excBase_ValueError g_least b5 d5.k m5 g_grown b7 d7.k m7 g_sortOf b3 d3.k m3 g_sizeBy b8 d8.k m8 g_partsOf b4 d4.k m4
 have g_cell:=qY (P:=l.prog) (w:=w) (base:=base) d12.F Gb0
 have g_tape:=qW d13.F g_cell b12 d12.k m12
 have g_digit:=pN (P:=l.prog) (w:=w) (mg:=mg) (base:=base) d14.F
 have g_names:=nA d15.F Gb0 g_digit b14 d14.k m14
 have g_number:=ny d16.F g_digit b14 d14.k m14
 have g_formula:=fun ρ=>j6 (ρ:=ρ) d18.F Gb0 g_digit b14 d14.k m14 (pM (ρ:=ρ) d17.F Gb0 g_digit b14 d14.k m14 g_number b16 d16.k m16) b17 d17.k m17
 have g_sorts:=pI d19.F Gb0 g_digit b14 d14.k m14 g_names b15 d15.k m15
 have g_targets:=lK (P:=l.prog) (w:=w) (mg:=mg) (base:=base) d20.F Gb0
 have g_lread:=jw d21.F Gb0 g_targets b20 d20.k m20
 have g_lform:=pL d22.F Gb0 g_targets b20 d20.k m20 g_lread b21 d21.k m21 g_formula b18 d18.k m18
 have g_book:=qZ d23.F Gb0 g_digit b14 d14.k m14 g_lform b22 d22.k m22 g_tape b13 d13.k m13 g_sorts b19 d19.k m19 g_names b15 d15.k m15
 have g_lwhole:=nB (P:=l.prog) (w:=w) (mg:=mg) (base:=base) d24.F Gb0
 have g_same:=mi d25.F Gb0 v11 v12 b25 m25 g_lwhole b24 d24.k m24 3
 have g_formOf:=nF (P:=l.prog) (w:=w) (mg:=mg) (base:=base) d26.F
 have g_check:=j7 d27.F Gb0 v12 g_formOf b26 d26.k m26 b27 m27 4
 have g_lsizes:=nD (P:=l.prog) (w:=w) (mg:=mg) (base:=base) d28.F Gb0 v13
 have g_noTree:=nz d29.F Gb0.isi cl g_tree b9 d9.k m9
 have g_right:=nw d30.F Gb0 v15 g_lsizes b28 d28.k m28 g_least b5 d5.k m5 g_live b10 d10.k m10 g_same b25 d25.k m25 g_lwhole b24 d24.k m24 g_check b27 d27.k m27 g_tree b9 d9.k m9 g_noTree b29 d29.k m29
 exact sS F31 Gb0 g_book b23 d23.k m23 g_cell b12 d12.k m12 g_right b30 d30.k m30
theorem walk {l:PySem.W.OpenLaw} {q:Program} {loose:List Str} {XP:(Str->Option Value)->Heap->Prop} {YP:World->Heap->Prop} {d:DefRec} {K:Params->PySem.W.Frag} (hn:l.most=some 63) (hdf:d.params.defaults=[])
  (hY: ∀ (w:World) (h:Heap),YP w h->(K w.params).In h) (hrec: ∃ e∈PyProof.Rows.recsOf q,e.name="least_tree") (hKt: ∀ w:World,PySem.W.noTabs (K w.params)=true)
  (F: ∀ (w:World) (mg:Str->Option Value) (fa c Pt:Addr) (h:Heap),(K w.params).In h->h.Ns mainGlobals mg->mg d.name=some (.ref fa)->qw h mg "least_tree" c Pt->
   ∃ fd:FuncData,(∀ (s:Shared) (u:Value),BindsTo s fd ⟨[u],[]⟩ [("script",u)])/\ ∀ base:Heap,(K w.params).In base->base.Ns mainGlobals mg->PySem.W.CodeHd base c Pt->base.BuiltinsAt mg Pt->ay l.prog w (K w.params) mg base CX0 8 fa fd ["script"] (me (K w.params) Pt)):
  PySem.W.WalkO q loose XP YP l.row.toRowW d [] (fun f vs=>PySem.call f vs):=
 L2.walk_ofT (n:=63) (k:=8) (x:="script") (nm:="least_tree") (sp:=fun w Pt=>me (K w.params) Pt) hn (by decide) hdf ⟨rfl,by decide,by decide⟩ hY hrec hKt F (fun _ Pt H a ns hl hP hS=>⟨a,ns,rfl,hS,hl,.inl hP,fun _=>rfl⟩)
end My
open PySem PySem.W PyProof.Rows
set_option maxRecDepth 100000 in
set_option maxHeartbeats 0 in
theorem PySem.Challenge.cw_boughworth_k20_least_trees_and_live_form_holds : PySem.Challenge.rw_boughworth_k20_least_trees_and_live_form.Holds := by
 refine My.parts.c My.parts.a My.parts.g My.parts.b ?_
 delta My.parts
 dsimp only
 k_fill
 refine My.walk (l:=PySem.Challenge.rw_boughworth_k20_least_trees_and_live_form) rfl rfl (fun w h Y=>PySem.W.km_in_of Y) ?R ?T ?F
 case R=>exact ⟨_,List.mem_of_getElem? (i:=8) rfl,rfl⟩
 case T=>exact fun w=>rfl
 case F=>
  intro w mg fa cS Pt h KX G hmg hTb
  refine' My.all_mk KX G hmg hTb ?d1 ?d2 ?d3 ?d4 ?d5 ?d6 ?d7 ?d8 ?d9 ?d10 ?d11 ?d12 ?d13 ?d14 ?d15 ?d16 ?d17 ?d18 ?d19 ?d20 ?d21 ?d22 ?d23 ?d24 ?d25 ?d26 ?d27 ?d28 ?d29 ?d30 ?d31 ?z1 ?z2 ?z3 ?z4 ?z5 ?z6 ?z7 ?z8 ?z9 ?z10 ?z11 ?z12 ?z13 ?z14 ?z15 ?z16 ?aC ?aB ?c0 ?c1 ?c2 ?c3 ?c4 ?c5 ?c6 ?c7 ?c8 ?c9 ?c10 ?c11 ?c12 ?c13 ?c14 ?c15 ?c16 ?x1 ?x2 ?x3 ?x4 ?x5 ?x6 ?x7 ?x8 ?x9 ?x10 ?x11 ?x12 ?x13
  (case d1=>exact My.Df.of (by k_is) (by k_is) (by k_is) (by k_is))
  (case d2=>exact My.Df.of (by k_is) (by k_is) (by k_is) (by k_is))
  (case d3=>exact My.Df.of (by k_is) (by k_is) (by k_is) (by k_is))
  (case d4=>exact My.Df.of (by k_is) (by k_is) (by k_is) (by k_is))
  (case d5=>exact My.Df.of (by k_is) (by k_is) (by k_is) (by k_is))
  (case d6=>exact My.Df.of (by k_is) (by k_is) (by k_is) (by k_is))
  (case d7=>exact My.Df.of (by k_is) (by k_is) (by k_is) (by k_is))
  (case d8=>exact My.Df.of (by k_is) (by k_is) (by k_is) (by k_is))
  (case d9=>exact My.Df.of (by k_is) (by k_is) (by k_is) (by k_is))
  (case d10=>exact My.Df.of (by k_is) (by k_is) (by k_is) (by k_is))
  (case d11=>exact My.Df.of (by k_is) (by k_is) (by k_is) (by k_is))
  (case d12=>exact My.Df.of (by k_is) (by k_is) (by k_is) (by k_is))
  (case d13=>exact My.Df.of (by k_is) (by k_is) (by k_is) (by k_is))
  (case d14=>exact My.Df.of (by k_is) (by k_is) (by k_is) (by k_is))
  (case d15=>exact My.Df.of (by k_is) (by k_is) (by k_is) (by k_is))
  (case d16=>exact My.Df.of (by k_is) (by k_is) (by k_is) (by k_is))
  (case d17=>exact My.Df.of (by k_is) (by k_is) (by k_is) (by k_is))
  (case d18=>exact My.Df.of (by k_is) (by k_is) (by k_is) (by k_is))
  (case d19=>exact My.Df.of (by k_is) (by k_is) (by k_is) (by k_is))
  (case d20=>exact My.Df.of (by k_is) (by k_is) (by k_is) (by k_is))
  (case d21=>exact My.Df.of (by k_is) (by k_is) (by k_is) (by k_is))
  (case d22=>exact My.Df.of (by k_is) (by k_is) (by k_is) (by k_is))
  (case d23=>exact My.Df.of (by k_is) (by k_is) (by k_is) (by k_is))
  (case d24=>exact My.Df.of (by k_is) (by k_is) (by k_is) (by k_is))
  (case d25=>exact My.Df.of (by k_is) (by k_is) (by k_is) (by k_is))
  (case d26=>exact My.Df.of (by k_is) (by k_is) (by k_is) (by k_is))
  (case d27=>exact My.Df.of (by k_is) (by k_is) (by k_is) (by k_is))
  (case d28=>exact My.Df.of (by k_is) (by k_is) (by k_is) (by k_is))
  (case d29=>exact My.Df.of (by k_is) (by k_is) (by k_is) (by k_is))
  (case d30=>exact My.Df.of (by k_is) (by k_is) (by k_is) (by k_is))
  (case d31=>exact My.Df.of (by k_is) (by k_is) (by k_is) (by k_is))
  (case z1=>k_is)
  (case z2=>k_is)
  (case z3=>k_is)
  (case z4=>k_is)
  (case z5=>k_is)
  (case z6=>k_is)
  (case z7=>k_is)
  (case z8=>k_is)
  (case z9=>k_is)
  (case z10=>k_is)
  (case z11=>k_is)
  (case z12=>k_is)
  (case z13=>k_is)
  (case z14=>k_is)
  (case z15=>k_is)
  (case z16=>k_is)
  (case aC=>k_is)
  (case aB=>k_is)
  (case c0=>k_is)
  (case c1=>k_is)
  (case c2=>k_is)
  (case c3=>k_is)
  (case c4=>k_is)
  (case c5=>k_is)
  (case c6=>k_is)
  (case c7=>k_is)
  (case c8=>k_is)
  (case c9=>k_is)
  (case c10=>k_is)
  (case c11=>k_is)
  (case c12=>k_is)
  (case c13=>k_is)
  (case c14=>k_is)
  (case c15=>k_is)
  (case c16=>k_is)
  (case x1=>k_exc)
  (case x2=>k_is)
  (case x3=>k_is)
  (case x4=>k_is)
  (case x5=>k_is)
  (case x6=>k_is)
  (case x7=>k_is)
  (case x8=>k_is)
  (case x9=>k_is)
  (case x10=>k_is)
  (case x11=>k_is)
  (case x12=>kit_is)
  (case x13=>kit_is)
