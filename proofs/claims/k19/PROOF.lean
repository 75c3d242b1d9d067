import PyProof.Rows.All
import Wide.All
import OpenK.AllK
import Wide.FinOn
import Lean
import PyProof.EqAt
import PyProof.EqKinds
import PyProof.TupleCall
import PyProof.SumWalk
import KE.KDictList
import PyProof.NeKinds
import PyProof.Draws
import PyProof.ZipIter
import PyProof.ListMulRoad
import KE.RegKIsAll
import OpenK.KOwn
import PyProof.EnumMake
import PyProof.Rows.StrNews
import PyProof.StrCalls6
import PyProof.ToksMono
import PyProof.StrLawsReplace
import PyProof.StrLawsJoin
import PyProof.Rows.StrSplitJoin
import PyProof.DictValues
import PyProof.DictWalks
import KE.KRevIter
import PyProof.CollectWalk
import KE.KItemsList
import PySem.Challenge.RW_boughworth_k19_texts_of_no_tree
set_option Elab.async false
set_option linter.all false
set_option bootstrap.genMatcherCode false
set_option compiler.extract_closed false
set_option genSizeOfSpec false
set_option maxRecDepth 100000
set_option maxHeartbeats 4000000
namespace My
open PySem PySem.W PySem.Calls PyProof.Rows
theorem with_hl {P R Q:Prop} (hl:P) (hc:R) (main:Q):Q:=main
structure Parts (Q:Prop):Type where
 {P1:Prop}
 {P2:Prop}
 {P3:Prop}
 {W:Prop}
 a:P1
 g:P2
 b:P3
 c:P1->P2->P3->W->Q
noncomputable def yy (_:Params):Obj:={cls:=Value.type "tuple",data:=Data.seq #[]}
noncomputable def yx (_:Params):Obj:={cls:=Value.none,data:=Data.fields #[]}
noncomputable def yw (_:Params):Obj:={cls:=Value.type "code",data:=Data.fields #[Value.str (Str.ofString "<module>") 182,Value.str (Str.ofString "<module>") 183,Value.str (Str.ofString "/claim/cut.py") 184,Value.int 1 0,Value.int 0 0,Value.int 0 0,Value.int 0 0,Value.int 0 0,Value.ref 11,Value.bool false,Value.int 181 0,Value.ref 12,Value.none,Value.none,Value.none,Value.none,Value.int 185 0,Value.int 1 0,Value.str (Str.ofString "/claim/cut.py") 186]}
noncomputable def yu (_:Params):Obj:={cls:=Value.type "frame",slots:= #[some (Value.ref 13),some (Value.ref 3),some (Value.ref 3),none,some (Value.str (Str.ofString "__main__") 164),none,some (Value.ref 0)]}
noncomputable def xT (P:Params):BT:=(BT.node (boot_o_0 P) (BT.node (boot_o_1 P) (BT.node (boot_o_3 P) (BT.node (boot_o_7 P) BT.nil BT.nil) (BT.node (yy P) BT.nil BT.nil)) (BT.node (boot_o_5 P) (BT.node (boot_o_9 P) BT.nil BT.nil) (BT.node (yw P) BT.nil BT.nil))) (BT.node (boot_o_2 P) (BT.node (boot_o_4 P) (BT.node (boot_o_8 P) BT.nil BT.nil) (BT.node (yx P) BT.nil BT.nil)) (BT.node (boot_o_6 P) (BT.node (boot_o_10 P) BT.nil BT.nil) (BT.node (yu P) BT.nil BT.nil))))
noncomputable def wU (p:Program):Env:={scope:=p.main.scope,locals:=mainNs,globals:=mainNs,cells:=[],code:=.ref 13,frame:=some 14}
noncomputable abbrev hC (p:Program):Code:=.body (behindTheImports p) (wU p)
noncomputable def hSt (w:World) (os:OsState):SharedT:=⟨xT w.params,15,{},#[],{},187,os⟩
abbrev nv:Pos:=⟨0,0,0,0⟩
noncomputable abbrev xU (p:Program):Thread:=piecesOf (behindTheImports p) (wU p) (hC p) nv [topFrame nv]
noncomputable abbrev uf (p:Program) (n:Nat) (w:World) (os:OsState):Option (Flow×SharedT×Code×Pos):=PySem.W.Fast.tw10110043849684766642 PySem.W.Fast.tw14364793385576792824 p w 11 (some (.ref 6)) 1 n (hSt w os) (xU p)
theorem yz {p:Program} {w:World} {n₀:Nat} {ann:Option Value} (s:Shared) (c:Code) (pos:Pos):topRun treeTable p w n₀ ann 2 s ⟨doneF .next,c,pos,[topFrame nv]⟩=some s:=by
 obtain ⟨h,g,d,t,o⟩:=s
 kernel_rfl
theorem xV (P:Params):((boot_heap P).isNs mainGlobals&&(#[]:Array GenState).size==0,(boot_heap P).objs.size,(boot_heap P).nsMap mainGlobals "__annotations__")=(true,11,some (.ref 6)):=by kernel_rfl
theorem left_of {p q:Program} {loose:List Str} {Xt:Shared->Bool} {α:Type} {Yf:Shared->α} {Ya:World->α} {N n:Nat} {g0:Bool} {posE:Pos}
  (e:opening p=plainProg p.main.scope.names) (hN:Nat.ble 600 N=true) (f: ∀ s,fenceModules? p s=some s) (le:Nat.ble (12+ (1+ (n+2))) N=true)
  (pre: ∀ (w:World) (os:OsState),topGo treeTable p w 11 (some (.ref 6)) 12 ⟨boot_heap w.params,#[],boot_drawn,boot_toks,os⟩ (topStub p)=some ((hSt w os).abs,⟨denote treeTable (hC p),hC p,nv,[topFrame nv]⟩))
  (block: ∀ (w:World) (os:OsState),segRun treeTable p w 11 (some (.ref 6)) 1 1 (hSt w os).abs (blockOf (behindTheImports p) (wU p) (hC p) nv [topFrame nv])=some (.next,(hSt w os).abs,hC p,nv))
  (runA: ∀ (w:World) (os:OsState),(uf p n w os).map (fun r=>(r.1,r.2.2,(staticsOk (importedModules p.main.body) (boot_heap w.params) r.2.1.abs.heap&&namesBound p r.2.1.abs.heap&&gensDone r.2.1.abs&&laidKept (boot_heap w.params) r.2.1.abs.heap),(openSeen q loose (importedModules p.main.body) Xt g0 r.2.1.abs).1,Yf r.2.1.abs))=some (.next,(hC p,posE),true,(openGood q loose).1,Ya w))
  (runE: ∀ (w:World) (os:OsState),(uf p n w os).map (fun r=>((openSeen q loose (importedModules p.main.body) Xt g0 r.2.1.abs).2.1,(openSeen q loose (importedModules p.main.body) Xt g0 r.2.1.abs).2.2.1))=some ((openGood q loose).2.1,(openGood q loose).2.2.1))
  (runB: ∀ (w:World) (os:OsState),(uf p n w os).map (fun r=>(openSeen q loose (importedModules p.main.body) Xt g0 r.2.1.abs).2.2.2)=some (openGood q loose).2.2.2):LeftO p q loose Xt Yf Ya N g0:=by
 intro w
 obtain ⟨⟨h,gs,d,k,os⟩,e1,e'⟩:=Option.map_eq_some_iff.mp (boot_open e hN f w)
 obtain ⟨rfl,rfl,rfl,rfl⟩:h=boot_heap w.params/\gs= #[]/\d=boot_drawn/\k=boot_toks:=by simpa using e'
 obtain ⟨z1,z2,z3⟩:_/\_/\_:=by simpa only [Prod.mk.injEq]using xV w.params
 have E:segRunT treeTable p w 11 (some (.ref 6)) 1 n (hSt w os) (xU p)=uf p n w os:=by
  unfold uf
  rw [<- PySem.W.Fast.te10110043849684766642,<- PySem.W.Fast.te14364793385576792824]
 have A:=runA w os
 have B:=runB w os
 have E2:=runE w os
 obtain ⟨⟨fl,x,c,pos⟩,r1,r2⟩:=Option.map_eq_some_iff.mp A
 simp only [Prod.mk.injEq]at r2
 obtain ⟨rfl,⟨rfl,rfl⟩,l1,l2a,yb⟩:=r2
 have l2e:((openSeen q loose (importedModules p.main.body) Xt g0 x.abs).2.1,(openSeen q loose (importedModules p.main.body) Xt g0 x.abs).2.2.1)=((openGood q loose).2.1,(openGood q loose).2.2.1):=by rw [r1]at E2;exact Option.some.inj E2
 have l2d:(openSeen q loose (importedModules p.main.body) Xt g0 x.abs).2.2.2=(openGood q loose).2.2.2:=by rw [r1]at B;exact Option.some.inj B
 have l2:openSeen q loose (importedModules p.main.body) Xt g0 x.abs=openGood q loose:=Prod.ext l2a (Prod.ext (Prod.mk.inj l2e).1 (Prod.ext (Prod.mk.inj l2e).2 l2d))
 have s1:=segRun_of (E.trans r1)
 have t1:=piece_app (rest:=[]) s1 (piece_nil (yz x.abs _ _))
 rw [List.append_nil]at t1
 have t3:=go_top (pre w os) (piece_block (block w os) t1)
 have r:=topRun_mono (N- (12+ (1+ (n+2)))) _ _ _ _ t3
 rw [show 12+ (1+ (n+2)) + (N- (12+ (1+ (n+2))))=N by have:=Nat.le_of_ble_eq_true le;omega]at r
 have t:topFrom treeTable p w N ⟨boot_heap w.params,#[],boot_drawn,boot_toks,os⟩=some x.abs:=by
  unfold topFrom
  dsimp only
  rw [z1,z2,z3,r]
  show (match staticsOk _ _ _&&namesBound _ _&&gensDone _&&laidKept _ _ with | true=>_ | false=>_)=_
  rw [l1]
 unfold openEnds
 rw [e1]
 change Option.map _ (topFrom treeTable p w N _)=_
 rw [t]
 exact congrArg some (Prod.ext l2 yb)
end My
open PySem PySem.W PyProof.Rows in
set_option maxHeartbeats 0 in
noncomputable def My.parts:My.Parts PySem.Challenge.rw_boughworth_k19_texts_of_no_tree.Holds:=by
 apply My.Parts.mk
 case c=>
  intro ha he hb hW
  w_on;o_law
  apply My.with_hl
  case main=>
   k_head;(case hw=>w_witness2)
  case hc=>exact hW
  case hl=>
   refine My.left_of (n:=5200) (posE:=⟨341,0,354,63⟩) ?e ?hN ?f ?le ?pre ?block ha he hb
   case e=>kernel_rfl
   case hN=>decide
   case f=>intro s;kernel_rfl
   case le=>decide
   case pre=>(intro w os;kernel_rfl)
   case block=>(intro w os;kernel_rfl)
 case a=>(intro w os;kernel_rfl)
 case g=>(intro w os;kernel_rfl)
 case b=>(intro w os;kernel_rfl)
namespace L2
open PySem PySem.Spec PyProof.Rows
noncomputable abbrev Key:=Sum Int Str
noncomputable def kf:Key->Value->Bool
 | .inl k,v=>Value.isInt k v
 | .inr x,v=>Value.isStrOf x v
noncomputable def yp (w:World):Key->Int
 | .inl k=>hashInt k
 | .inr x=>hashStr w x
theorem bU: ∀ {k:Key} {v:Value},kf k v=true->(∃ i t,k=Sum.inl i/\v=Value.int i t)\/(∃ x t,k=Sum.inr x/\v=Value.str x t)
 | .inl i,v,h=>by
  obtain ⟨t,e⟩:=Value.isInt_shape (k:=i) (v:=v) h
  exact .inl ⟨i,t,rfl,e⟩
 | .inr x,v,h=>by
  obtain ⟨t,e⟩:=Value.isStrOf_shape (x:=x) (v:=v) h
  exact .inr ⟨x,t,rfl,e⟩
theorem q9 (i:Int) (t:Tok):kf (.inl i) (.int i t)=true:=by simp [kf,Value.isInt]
theorem q8 (x:Str) (t:Tok):kf (.inr x) (.str x t)=true:=by simp [kf,Value.isStrOf]
theorem wO (a b:Int):decide ((Sum.inl a:Key)=Sum.inl b)=(a==b):=by
 by_cases e:a=b
 ·subst e;simp
 ·have h: ¬ (Sum.inl a:Key)=Sum.inl b:=fun q=>e (Sum.inl.inj q)
  rw [decide_eq_false h]
  exact (beq_eq_false_iff_ne.mpr e).symm
theorem wL (a b:Str):decide ((Sum.inr a:Key)=Sum.inr b)=decide (a=b):=by
 by_cases e:a=b
 ·subst e;simp
 ·have h: ¬ (Sum.inr a:Key)=Sum.inr b:=fun q=>e (Sum.inr.inj q)
  rw [decide_eq_false h,decide_eq_false e]
theorem wN (a:Int) (b:Str):decide ((Sum.inl a:Key)=Sum.inr b)=false:=decide_eq_false (fun q=>nomatch q)
theorem wM (a:Str) (b:Int):decide ((Sum.inr a:Key)=Sum.inl b)=false:=decide_eq_false (fun q=>nomatch q)
noncomputable def bX (prog:Program) (w:World):PySem.KeyKind prog w Key where
 is:=kf
 hash:=yp w
 inj:=fun v a b ha hb=>by
  rcases bU ha with ⟨i,t,rfl,rfl⟩ | ⟨x,t,rfl,rfl⟩
  ·rcases bU hb with ⟨j,u,rfl,e⟩ | ⟨y,u,rfl,e⟩
   ·injection e with e1 _;rw [e1]
   ·exact nomatch e
  ·rcases bU hb with ⟨j,u,rfl,e⟩ | ⟨y,u,rfl,e⟩
   ·exact nomatch e
   ·injection e with e1 _;rw [e1]
 byValue:=fun k v h=>by
  rcases bU h with ⟨i,t,rfl,rfl⟩ | ⟨x,t,rfl,rfl⟩ <;> rfl
 pyHash:=fun hv h=>by
  rcases bU hv with ⟨i,t,rfl,rfl⟩ | ⟨x,t,rfl,rfl⟩
  ·exact wpAny_pyHash_int h
  ·exact wpAny_pyHash_str h
 eqBool:=fun hu hv h=>by
  rcases bU hu with ⟨i,t,rfl,rfl⟩ | ⟨x,t,rfl,rfl⟩
  ·rcases bU hv with ⟨j,u,rfl,rfl⟩ | ⟨y,u,rfl,rfl⟩
   ·rw [wO]at h;exact wpAny_eqBool_int h
   ·rw [wN]at h;exact SeqAt.EqAt.int_str i t y u _ _ _ _ h
  ·rcases bU hv with ⟨j,u,rfl,rfl⟩ | ⟨y,u,rfl,rfl⟩
   ·rw [wM]at h;exact SeqAt.EqAt.str_int x t j u _ _ _ _ h
   ·rw [wL]at h;exact wpAny_eqBool_str h
 «strs» :=fun k x t v h=>by
  rcases bU h with ⟨i,u,rfl,e⟩ | ⟨y,u,rfl,e⟩
  ·exact nomatch e
  ·injection e with e1 _
   subst e1
   cases v <;> rfl
theorem na (prog:Program) (w:World) (i:Int) (t:Tok):(bX prog w).is (.inl i) (.int i t)=true:=q9 i t
theorem mZ (prog:Program) (w:World) (x:Str) (t:Tok):(bX prog w).is (.inr x) (.str x t)=true:=q8 x t
inductive V where
 | non | bl (b:Bool) | int (i:Int) | str (x:Str) | byt (b:Array UInt8) | flt (b:UInt64) | ref (a:Addr) | ty (n:String)
 deriving DecidableEq
noncomputable def RelV:V->Value->Prop
 | .non,u=>u=Value.none
 | .bl b,u=>u=Value.bool b
 | .int i,u=> ∃ t,u=Value.int i t
 | .str x,u=> ∃ t,u=Value.str x t
 | .byt b,u=> ∃ t,u=Value.bytes b t
 | .flt b,u=> ∃ t,u=Value.float b t
 | .ref a,u=>u=Value.ref a
 | .ty n,u=>u=Value.type n
noncomputable abbrev Vals:List V->List Value->Prop:=Paired RelV
theorem Vals.length {xs:List V} {us:List Value} (r:Vals xs us):xs.length=us.length:=Paired.length r
theorem Vals.get: ∀ {xs:List V} {us:List Value} {i:Nat} {x:V},Vals xs us->xs[i]? =some x-> ∃ u,us[i]? =some u/\RelV x u
 | _,_,_,_,.nil,e=>by simp at e
 | _,_,0,_,.cons r _,e=>by simp at e;subst e;exact ⟨_,rfl,r⟩
 | _,_,i+1,x,.cons _ t,e=>by
  obtain ⟨u,h1,h2⟩:=Vals.get (i:=i) (x:=x) t (by simpa using e)
  exact ⟨u,by simpa using h1,h2⟩
theorem Vals.set {x:V} {u:Value} (r:RelV x u): ∀ {xs:List V} {us:List Value} (i:Nat),Vals xs us->Vals (xs.set i x) (us.set i u)
 | _,_,_,.nil=>.nil
 | _,_,0,.cons _ t=>.cons r t
 | _,_,i+1,.cons q t=>.cons q (Vals.set r i t)
theorem Vals.append: ∀ {xs ys:List V} {us ws:List Value},Vals xs us->Vals ys ws->Vals (xs++ys) (us++ws)
 | _,_,_,_,.nil,s=>s
 | _,_,_,_,.cons r t,s=>.cons r (Vals.append t s)
theorem Vals.take: ∀ {xs:List V} {us:List Value} (n:Nat),Vals xs us->Vals (xs.take n) (us.take n)
 | _,_,0,_=>.nil
 | _,_,_+1,.nil=>.nil
 | _,_,n+1,.cons r t=>.cons r (Vals.take n t)
theorem Vals.drop: ∀ {xs:List V} {us:List Value} (n:Nat),Vals xs us->Vals (xs.drop n) (us.drop n)
 | _,_,0,r=>r
 | _,_,_+1,.nil=>.nil
 | _,_,n+1,.cons _ t=>Vals.drop n t
theorem Vals.none_of: ∀ {xs:List V} {us:List Value} {i:Nat},Vals xs us->xs[i]? =none->us[i]? =none:=fun {xs us i} r e=>by
 have h1:=r.length
 have h2:xs.length<=i:=List.getElem?_eq_none_iff.mp e
 exact List.getElem?_eq_none_iff.mpr (by lia)
noncomputable def RelO:Option V->Option Value->Prop
 | some v,some u=>RelV v u
 | none,none=>True
 | _,_=>False
noncomputable def KV {κ:Type}:List (κ×V)->List (κ×Value)->Prop:=Paired fun (p:κ×V) (q:κ×Value)=>p.1=q.1/\RelV p.2 q.2
noncomputable def kV:Key->V
 | .inl i=>.int i
 | .inr x=>.str x
inductive HO where
 /-- a list -/
 | lst (xs:List V)
 /-- a tuple (never changes) -/
 | tup (xs:List V)
 /-- a dict whose keys are ints and texts; one whose keys are tuples of ints and texts (the empty one is both) -/
 | dK (kvs:List (Key×V)) | dT (kvs:List (List Key×V))
 /-- a set of ints: its members, its size -/
 | set (S:Int->Bool) (n:Nat)
 /-- an instance of the class at C, its dict at dx, its attributes -/
 | ins (C dx:Addr) (fs:List (Str×V))
 /-- the dict of the instance at x -/
 | own (x:Addr)
 /-- the dict of an exception -/
 | xd (fs:List (Str×V))
 /-- a bound method, f of x -/
 | met (f x:Addr)
 /-- a range object lo, lo + 1, .. below hi -/
 | rng (lo hi:Int)
 /-- a thing that is known to the object (the script; a dict while a loop walks it): read, never written while it is so -/
 | frz (o:Obj) (u:HO)
 /-- a code object's table -/
 | tbl (ps:Array Value)
 /-- any other thing, by what is true of its one object (a def of one's own: SetO a S n := HO.ext fun h => ..) -/
 | ext (φ:Heap->Prop)
noncomputable abbrev Hp:=Addr->Option HO
noncomputable def upd (H:Hp) (a:Addr) (o:HO):Hp:=fun b=>if b=a then some o else H b
theorem ac {H:Hp} {a:Addr} {o:HO}:upd H a o a=some o:=by unfold upd;rw [if_pos rfl]
theorem al {H:Hp} {a b:Addr} {o:HO} (h:b≠a):upd H a o b=H b:=by unfold upd;rw [if_neg h]
theorem cM {H:Hp} {a:Addr} {o u:HO}:upd (upd H a o) a u=upd H a u:=by
 funext b;unfold upd;split <;> rfl
theorem xJ {H:Hp} {a b:Addr} {o u:HO} (h:H a=some o) (h':H b=some u) (d:o≠u):a≠b:=by
 intro e;subst e;rw [h]at h';exact d (Option.some.inj h')
theorem ah {H:Hp} {a b:Addr} {o:HO} (h:H a=some o) (h':H b=none):a≠b:=by
 intro e;subst e;rw [h]at h';cases h'
section
variable (P:Program) (w:World)
noncomputable def ObjOk (H:Hp) (h:Heap) (a:Addr):HO->Prop
 | .lst xs=>xs.length<=sizeLine/\ ∃ (its:List Value) (n:Nat),Vals xs its/\h.get? a=some {cls:=.type "list",data:=.seq its.toArray n}
 | .tup xs=>xs.length<=sizeLine/\ ∃ its:List Value,Vals xs its/\IsTup h a its.toArray
 | .dK kvs=>kvs.length<=sizeLine/\(a==sysModules)=false/\ ∃ vs,KV kvs vs/\h.DictOf (bX P w) a vs
 | .dT kvs=>kvs.length<=sizeLine/\(a==sysModules)=false/\ ∃ xs:List (List Key×Addr×Value),
   Paired (fun (p:List Key×V) (q:List Key×Addr×Value)=>p.1=q.1/\H q.2.1=some (.tup (p.1.map kV))/\RelV p.2 q.2.2) kvs xs/\
   ∃ o es ep,h.get? a=some o/\o.ExactDict/\o.data=.dict es ep/\es.toList=xs.map (entryOfKey (tupleKind (bX P w)))/\(xs.map (·.1)).Nodup
 | .set S n=>h.SetOf (intKind P w) a S n
 | .ins C dx fs=>H dx=some (.own a)/\fs.length<=1000/\dx≠a/\h.get? a=some (PySem.W.instObj C dx)/\
   ∃ mA,h.Ns1 dx mA/\(∀ f,RelO (fs.lookup f) (mA f))/\PySem.Within mA (fs.map (·.1))
 | .own _=> ∃ o,h.get? a=some o
 | .xd fs=> ∃ mA,h.Ns1 a mA/\ ∀ f,RelO (fs.lookup f) (mA f)
 | .rng lo hi=> ∃ t u v,h.get? a=some {cls:=.type "range",data:=.fields #[.int lo t,.int hi u,.int 1 v]}
 | .frz o u=>h.get? a=some o/\ObjOk H h a u
 | .tbl ps=>h.get? a=some {cls:=.none,data:=.fields ps}
 | .met f x=>h.get? a=some (PySem.W.methodObj (.ref f) (.ref x))
 | .ext φ=>φ h/\(∃ o,h.get? a=some o)/\ ∀ h1 h2:Heap,φ h1->(∀ o,h1.get? a=some o->h2.get? a=some o)->φ h2
noncomputable def HOk (H:Hp) (h:Heap):Prop:= ∀ a o,H a=some o->ObjOk P w H h a o
end
section
variable {P:Program} {w:World} {H H':Hp} {h h':Heap} {a:Addr} {o:HO}
theorem ObjOk.lt (x:ObjOk P w H h a o):a<h.objs.size:=by
 cases o with
 | lst xs=>obtain ⟨_,_,_,_,e⟩:=x;exact Heap.lt_size e
 | tup xs=>obtain ⟨_,_,_,p⟩:=x;exact p.lt
 | dK kvs=>obtain ⟨_,_,_,_,o,_,_,e,_⟩:=x;exact Heap.lt_size e
 | dT kvs=>obtain ⟨_,_,_,_,o,_,_,e,_⟩:=x;exact Heap.lt_size e
 | set S n=>obtain ⟨o,_,_,_,e,_⟩:=x;exact Heap.lt_size e
 | ins C dx fs=>obtain ⟨_,_,_,e,_⟩:=x;exact Heap.lt_size e
 | own y=>obtain ⟨_,e⟩:=x;exact Heap.lt_size e
 | xd fs=>obtain ⟨_,⟨_,_,_,e,_⟩,_⟩:=x;exact Heap.lt_size e
 | rng lo hi=>obtain ⟨_,_,_,e⟩:=x;exact Heap.lt_size e
 | frz ob u=>obtain ⟨e,_⟩:=x;exact Heap.lt_size e
 | tbl ps=>exact Heap.lt_size (show h.get? a=some _ from x)
 | met f y=>exact Heap.lt_size (show h.get? a=some _ from x)
 | ext φ=>obtain ⟨_,⟨_,e⟩,_⟩:=x;exact Heap.lt_size e
theorem Paired.mapP {α β:Type} {F G:α->β->Prop}: ∀ {l₁:List α} {l₂:List β},Paired F l₁ l₂->(∀ a b,F a b->G a b)->Paired G l₁ l₂
 | _,_,.nil,_=>.nil
 | _,_,.cons r t,f=>.cons (f _ _ r) (Paired.mapP t f)
theorem ObjOk.stay (x:ObjOk P w H h a o) (k: ∀ b u,(b=a\/H b=some (.own a))->h.get? b=some u->h'.get? b=some u)
  (ho: ∀ b,H b=some (.own a)->H' b=some (.own a)) (ht: ∀ b xs,H b=some (.tup xs)->H' b=some (.tup xs)):ObjOk P w H' h' a o:=by
 induction o with
 | lst xs=>obtain ⟨z,its,n,r,e⟩:=x;exact ⟨z,its,n,r,k _ _ (.inl rfl) e⟩
 | tup xs=>obtain ⟨z,its,r,ob,e,c⟩:=x;exact ⟨z,its,r,ob,k _ _ (.inl rfl) e,c⟩
 | dK kvs=>obtain ⟨z,y,vs,r,ob,es,ep,e,c⟩:=x;exact ⟨z,y,vs,r,ob,es,ep,k _ _ (.inl rfl) e,c⟩
 | dT kvs=>
  obtain ⟨z,y,xs,r,ob,es,ep,e,c⟩:=x
  exact ⟨z,y,xs,Paired.mapP r fun p q z=>⟨z.1,ht _ _ z.2.1,z.2.2⟩,ob,es,ep,k _ _ (.inl rfl) e,c⟩
 | set S n=>obtain ⟨ob,es,ep,t,e,c⟩:=x;exact ⟨ob,es,ep,t,k _ _ (.inl rfl) e,c⟩
 | ins C dx fs=>
  obtain ⟨d,z,ne,e,mA,⟨od,es,ep,e2,c⟩,r⟩:=x
  exact ⟨ho _ d,z,ne,k _ _ (.inl rfl) e,mA,⟨od,es,ep,k _ _ (.inr d) e2,c⟩,r⟩
 | own y=>obtain ⟨ob,e⟩:=x;exact ⟨ob,k _ _ (.inl rfl) e⟩
 | xd fs=>obtain ⟨mA,⟨od,es,ep,e,c⟩,r⟩:=x;exact ⟨mA,⟨od,es,ep,k _ _ (.inl rfl) e,c⟩,r⟩
 | rng lo hi=>obtain ⟨t,u,v,e⟩:=x;exact ⟨t,u,v,k _ _ (.inl rfl) e⟩
 | frz ob u ih=>obtain ⟨e,q⟩:=x;exact ⟨k _ _ (.inl rfl) e,ih q⟩
 | tbl ps=>
  have e:h.get? a=some {cls:=.none,data:=.fields ps}:=x
  show h'.get? a=some {cls:=.none,data:=.fields ps}
  exact k a _ (.inl rfl) e
 | met f y=>
  have e:h.get? a=some (PySem.W.methodObj (.ref f) (.ref y)):=x
  show h'.get? a=some (PySem.W.methodObj (.ref f) (.ref y))
  exact k a _ (.inl rfl) e
 | ext φ=>obtain ⟨p,⟨o,e⟩,st⟩:=x;exact ⟨st _ _ p fun o q=>k _ _ (.inl rfl) q,⟨o,k _ _ (.inl rfl) e⟩,st⟩
theorem HOk.lt (x:HOk P w H h) (e:H a=some o):a<h.objs.size:=(x a o e).lt
theorem HOk.fresh (x:HOk P w H h) (e:h.objs.size<=a):H a=none:=by
 cases q:H a with
 | none=>rfl
 | some u=>exact absurd (Nat.lt_of_lt_of_le (x.lt q) e) (Nat.lt_irrefl _)
theorem HOk.kept (x:HOk P w H h) (k: ∀ b u,h.get? b=some u->h'.get? b=some u):HOk P w H h':=fun a o e=>
 (x a o e).stay (fun b u _ q=>k b u q) (fun _ q=>q) fun _ _ q=>q
theorem HOk.laid (x:HOk P w H h) (k: ∀ b u,h.get? b=some u->h'.get? b=some u) (hp:h.objs.size<=a) (new:ObjOk P w (upd H a o) h' a o):HOk P w (upd H a o) h':=fun b u e=>by
 have hn:=x.fresh hp
 by_cases hb:b=a
 ·subst hb;rw [ac]at e;cases e;exact new
 ·rw [al hb]at e
  exact (x b u e).stay (fun c v _ q=>k c v q) (fun c q=>by rw [al (ah q hn)];exact q) fun c xs q=>by rw [al (ah q hn)];exact q
end
noncomputable def Rd (H:Hp) (a:Addr) (u:HO):Prop:=H a=some u\/ ∃ o,H a=some (.frz o u)
theorem Rd.ok {P:Program} {w:World} {H:Hp} {h:Heap} {a:Addr} {u:HO} (r:Rd H a u) (x:HOk P w H h):ObjOk P w H h a u:=by
 rcases r with r | ⟨o,r⟩
 ·exact x a u r
 ·obtain ⟨_,q⟩:=x a _ r
  exact q
noncomputable def Mut:Option HO->Prop
 | some (.lst _)=>True
 | some (.dK _)=>True
 | some (.dT _)=>True
 | some (.set _ _)=>True
 | some (.ins _ _ _)=>True
 | some (.ext _)=>True
 | _=>False
section
variable {P:Program} {w:World} {H:Hp} {h h':Heap} {x e:Addr} {o':HO}
theorem HOk.write (ok:HOk P w H h) (mu:Mut (H x)) (he:e=x\/H e=some (.own x)) (k: ∀ b u,b≠e->h.get? b=some u->h'.get? b=some u) (heo: ∃ u,h'.get? e=some u)
  (new:ObjOk P w (upd H x o') h' x o'):HOk P w (upd H x o') h':=fun b u q=>by
 have nown: ∀ c y,H c=some (.own y)->c≠x:=fun c y r z=>by subst z;rw [r]at mu;exact mu
 have ntup: ∀ c xs,H c=some (.tup xs)->c≠x:=fun c xs r z=>by subst z;rw [r]at mu;exact mu
 by_cases hb:b=x
 ·subst hb;rw [ac]at q;cases q;exact new
 ·rw [al hb]at q
  by_cases hbe:b=e
  ·have q':H b=some (.own x):=by
    rcases he with z | z
    ·exact absurd (hbe.trans z) hb
    ·rw [hbe];exact z
   rw [q]at q';cases q'
   obtain ⟨v,hv⟩:=heo
   exact ⟨v,by rw [hbe];exact hv⟩
  ·refine (ok b u q).stay (fun c v hc r=>k c v ?_ r) (fun c r=>by rw [al (nown c b r)];exact r) fun c xs r=>by rw [al (ntup c xs r)];exact r
   rcases hc with rfl | hc
   ·exact hbe
   ·rintro rfl
    rcases he with z | z
    ·exact nown c b hc z
    ·rw [hc]at z;cases z;exact hb rfl
end
structure Un (fs ex:List Addr) (H H':Hp) (h h':Heap):Prop where
 keep: ∀ b o,h.get? b=some o->H b=none->b∉fs->b∉ex->h'.get? b=some o
 slot: ∀ b o,h.get? b=some o->H b=none->b∈fs->b∉ex-> ∃ sl,h'.get? b=some {o with slots:=sl}
 free: ∀ b o,h.get? b=some o->H b=none->b∉ex->H' b=none
 there: ∀ b o,h.get? b=some o->b∉ex-> ∃ o',h'.get? b=some o'
 tups: ∀ b xs,H b=some (.tup xs)->H' b=some (.tup xs)
 frzs: ∀ b o u,H b=some (.frz o u)->H' b=some (.frz o u)
 tbls: ∀ b ps,H b=some (.tbl ps)-> ∃ more,H' b=some (.tbl (ps++more))
section
variable {fs fs' ex ex':List Addr} {H H1 H2:Hp} {h h1 h2 h':Heap} {a x e:Addr} {o:HO}
theorem Un.any (u:Un fs ex H H1 h h1) {b:Addr} {ob:Obj} (q:h.get? b=some ob) (n:H b=none) (hx:b∉ex): ∃ sl,h1.get? b=some {ob with slots:=sl}:=by
 by_cases hb:b∈fs
 ·exact u.slot b ob q n hb hx
 ·exact ⟨ob.slots,u.keep b ob q n hb hx⟩
theorem Un.kept (k: ∀ b u,h.get? b=some u->h'.get? b=some u):Un fs ex H H h h':=
 ⟨fun b ob q _ _ _=>k b ob q,fun b ob q _ _ _=>⟨ob.slots,k b ob q⟩,fun _ _ _ n _=>n,fun b ob q _=>⟨ob,k b ob q⟩,fun _ _ q=>q,fun _ _ _ q=>q,fun _ ps q=>⟨#[],by rw [q];simp⟩⟩
theorem Un.refl:Un fs ex H H h h:=Un.kept fun _ _ q=>q
theorem Un.laid (k: ∀ b u,h.get? b=some u->h'.get? b=some u) (hp:h.objs.size<=a) (hn:H a=none):Un fs ex H (upd H a o) h h' where
 keep:=fun b u q _ _ _=>k b u q
 slot:=fun b u q _ _ _=>⟨u.slots,k b u q⟩
 free:=fun b u q n _=>by rw [al (Nat.ne_of_lt (Nat.lt_of_lt_of_le (Heap.lt_size q) hp))];exact n
 there:=fun b u q _=>⟨u,k b u q⟩
 tups:=fun b xs q=>by rw [al (ah q hn)];exact q
 frzs:=fun b u xs q=>by rw [al (ah q hn)];exact q
 tbls:=fun b ps q=>⟨#[],by rw [al (ah q hn),q];simp⟩
theorem Un.write (mu:Mut (H x)) (he:e=x\/H e=some (.own x)) (k: ∀ b u,b≠e->h.get? b=some u->h'.get? b=some u) (heo: ∃ u,h'.get? e=some u):Un fs ex H (upd H x o) h h':=by
 have hx: ∀ b,H b=none->b≠x:=fun b n z=>by subst z;rw [n]at mu;exact mu
 have hb: ∀ b,H b=none->b≠e:=fun b n z=>by
  subst z
  rcases he with r | r
  ·exact hx b n r
  ·rw [n]at r;cases r
 have hm: ∀ b u,H b=some u-> ¬ Mut (some u)->b≠x:=fun b u q nm z=>by subst z;rw [q]at mu;exact nm mu
 refine ⟨fun b u q n _ _=>k b u (hb b n) q,fun b u q n _ _=>⟨u.slots,k b u (hb b n) q⟩,fun b u q n _=>by rw [al (hx b n)];exact n,fun b u q _=>?_,
  fun b xs q=>by rw [al (hm b _ q fun z=>z)];exact q,fun b u xs q=>by rw [al (hm b _ q fun z=>z)];exact q,fun b ps q=>⟨#[],by rw [al (hm b _ q fun z=>z),q];simp⟩⟩
 by_cases hbe:b=e
 ·subst hbe;exact heo
 ·exact ⟨u,k b u hbe q⟩
end
noncomputable def trk (h:Heap) (H:Hp):List Addr:=(List.range h.objs.size).filter fun a=>(H a).isSome
noncomputable def lR (h:Heap) (H:Hp):Heap:=PySem.W.hideAll h (trk h H)
theorem rg (h:Heap) (H:Hp):(lR h H).objs.size=h.objs.size:=PySem.W.hideAll_size _ _
theorem ue {h:Heap} {H:Hp} {b:Addr} {o:Obj} (e:h.get? b=some o) (n:H b=none):(lR h H).get? b=some o:=
 PySem.W.hideAll_get _ e fun hm=>by
  have q:(H b).isSome=true:=(List.mem_filter.mp hm).2
  rw [n]at q;simp at q
theorem vc {h:Heap} {H:Hp} {b:Addr} {o:Obj} (e:(lR h H).get? b=some o):h.get? b=some o/\H b=none:=by
 have e':h.get? b=some o:=PySem.W.of_hideAll (trk h H) e
 refine ⟨e',?_⟩
 cases q:H b with
 | none=>rfl
 | some x=>
  have hm:b∈trk h H:=List.mem_filter.mpr ⟨List.mem_range.mpr (Heap.lt_size e'),by simp [q]⟩
  have z:(lR h H).get? b=none:=PySem.W.hideAll_none (trk h H) hm
  rw [z]at e;cases e
structure Mod (K:PySem.W.Frag) (mg:Str->Option Value) (base:Heap):Prop where
 kin:K.In base
 glob:base.Ns mainGlobals mg
 blt: ∃ mb,base.Ns builtinsNs mb/\ ∀ x:Str,x≠"__name__"->mb x=bootBuiltins x
 nolimit:base.NoLimit
structure Cx where
 prog:Program
 w:World
 K:PySem.W.Frag
 mg:Str->Option Value
 base:Heap
 A:Around
 N:List Str
 s₀:Shared
 H₀:Hp
 env:Env
 outer:List Env
 stack:List Env
 ex:List Addr
 fn:Str->Bool
 calm:Bool
 pn:List (Addr×Obj)
 xe:Value->Shared->Prop
noncomputable def frs (l:List Env):List Addr:=l.filterMap (·.frame)
noncomputable abbrev Cx.fs (X:Cx):List Addr:=frs X.outer
noncomputable def Vis (sc:Scope) (x:Str):Prop:=sc.names.lookup x=some .local\/sc.names.lookup x=some .cell\/sc.names.lookup x=some .free
noncomputable def Loc (sc:Scope) (x:Str):Prop:=sc.names.lookup x=some .local\/sc.names.lookup x=some .cell
noncomputable def yL (env:Env) (h:Heap) (m:Str->Option Value) (x:Str) (u:Value):Prop:=
 (env.kindOf x=some .local/\m x=some u)\/((env.kindOf x=some .cell\/env.kindOf x=some .free)/\ ∃ c,env.cells.lookup x=some c/\h.IsCell c (some u))
structure Cx.Ok (X:Cx):Prop where
 mod:Mod X.K X.mg X.base
 kind:X.env.scope.kind=.function
 glob:X.env.globals=mainGlobals
 blt:X.env.builtins=builtinsNs
 above:X.s₀.heap.objs.size<=X.env.locals
 inj: ∀ x y c,X.env.cells.lookup x=some c->X.env.cells.lookup y=some c->x=y
 has: ∀ x,(X.env.kindOf x=some .cell\/X.env.kindOf x=some .free)-> ∃ c,X.env.cells.lookup x=some c
 cab: ∀ x c,X.fn x=true->X.env.cells.lookup x=some c->X.s₀.heap.objs.size<=c
 hd:X.calm=true->X.A.handled=none
 frames:X.A.frames=some X.stack
 stk:X.stack=X.outer\/(X.stack=X.env::X.outer/\X.env.frame=some X.env.locals)
 exf: ∀ b∈X.ex,b≠X.env.locals/\ ∀ x c,X.env.cells.lookup x=some c->c≠b
 bs: ∀ b o,X.base.get? b=some o->X.s₀.heap.get? b=some o/\X.H₀ b=none
 bsz:X.base.objs.size<=X.s₀.heap.objs.size
 noex: ∀ b o,X.base.get? b=some o->b∉X.ex
 exfs: ∀ b∈X.ex,b∉X.fs
 funs:X.s₀.heap.FunFrames X.base X.outer
 frf: ∀ b∈X.fs,X.H₀ b=none
structure Inv (X:Cx) (pins:List (Addr×Obj)) (σ:List (Option V)) (H:Hp) (s:Shared):Prop where
 ok:X.Ok
 os:s.os=X.s₀.os
 bare:AllBare s.gens
 base:Un X.fs X.ex X.H₀ H X.s₀.heap s.heap
 loc: ∃ m,s.heap.Ns X.env.locals m/\ ∀ (i:Nat) (x:Str) (v:V),X.N[i]? =some x->σ[i]? =some (some v)->Vis X.env.scope x-> ∃ u,RelV v u/\yL X.env s.heap m x u
 cell: ∀ x c,X.env.cells.lookup x=some c-> ∃ v,s.heap.IsCell c v
 free:H X.env.locals=none
 freeC: ∀ x c,X.env.cells.lookup x=some c->H c=none
 pin: ∀ p∈X.pn++pins,s.heap.get? p.1=some p.2/\H p.1=none/\p.1≠X.env.locals/\p.1∉X.fs/\ ∀ v,p.2.data≠ .cell v
 hok:HOk X.prog X.w H s.heap
 len:σ.length=X.N.length
section
variable {X:Cx} {pins:List (Addr×Obj)} {σ:List (Option V)} {H H':Hp} {s:Shared} {h':Heap}
theorem Cx.Ok.nofr (ok:X.Ok) {b:Addr} {o:Obj} (e:X.base.get? b=some o):b∉X.fs:=fun hb=>by
 have:=(ok.funs.mem hb).1
 rw [e]at this;cases this
theorem Inv.bs (I:Inv X pins σ H s): ∀ b o,X.base.get? b=some o->s.heap.get? b=some o/\H b=none:=fun b o e=>
 ⟨I.base.keep b o (I.ok.bs b o e).1 (I.ok.bs b o e).2 (I.ok.nofr e) (I.ok.noex b o e),I.base.free b o (I.ok.bs b o e).1 (I.ok.bs b o e).2 (I.ok.noex b o e)⟩
theorem Inv.bk (I:Inv X pins σ H s): ∀ b o,X.base.get? b=some o->s.heap.get? b=some o:=fun b o e=>(I.bs b o e).1
theorem Inv.mod (I:Inv X pins σ H s):Mod X.K X.mg X.base:=I.ok.mod
theorem Inv.kIn (I:Inv X pins σ H s):X.K.In s.heap:=I.ok.mod.kin.keeps I.bk
theorem Inv.lt (I:Inv X pins σ H s):X.env.locals<s.heap.objs.size:=let ⟨_,hn,_⟩:=I.loc;hn.lt
theorem Inv.sz (I:Inv X pins σ H s):X.s₀.heap.objs.size<=s.heap.objs.size:=Nat.le_trans I.ok.above (Nat.le_of_lt I.lt)
theorem Inv.nofs (I:Inv X pins σ H s) {a:Addr} (h:s.heap.objs.size<=a):a∉X.fs:=fun hb=>by
 obtain ⟨_,o,ho,_⟩:=I.ok.funs.mem hb
 exact absurd (Nat.lt_of_lt_of_le (Heap.lt_size ho) (Nat.le_trans I.sz h)) (Nat.lt_irrefl _)
theorem Inv.cne (I:Inv X pins σ H s): ∀ x c,X.env.cells.lookup x=some c->c≠X.env.locals:=fun x c e z=>by
 obtain ⟨v,o,ho,hd⟩:=I.cell x c e
 obtain ⟨m,⟨o',es,ep,ho',hd',_⟩,_⟩:=I.loc
 rw [z,ho']at ho;cases ho;rw [hd']at hd;cases hd
theorem Inv.funs (I:Inv X pins σ H s):s.heap.FunFrames X.base X.outer:=by
 have all: ∀ (l:List Env),(∀ b∈frs l,b∈X.fs)->X.s₀.heap.FunFrames X.base l->s.heap.FunFrames X.base l:=by
  intro l
  induction l with
  | nil=>intro _ _;trivial
  | cons env r ih=>
   intro hs hl
   obtain ⟨hk,⟨L,o,hf,hn,ho,hd⟩,hr⟩:=hl
   have hL:L∈X.fs:=hs L (by unfold frs;rw [List.filterMap_cons,hf];exact List.mem_cons_self)
   obtain ⟨sl,e⟩:=I.base.slot L o ho (I.ok.frf L hL) hL fun z=>I.ok.exfs L z hL
   exact ⟨hk,⟨L,_,hf,hn,e,hd⟩,ih (fun b hb=>hs b (by unfold frs;rw [List.filterMap_cons,hf];exact List.mem_cons_of_mem _ hb)) hr⟩
 exact all X.outer (fun _ hb=>hb) I.ok.funs
theorem Inv.stack (I:Inv X pins σ H s):s.heap.FunFrames X.base X.stack:=by
 rcases I.ok.stk with e | ⟨e,hf⟩
 ·rw [e];exact I.funs
 ·rw [e]
  obtain ⟨m,hn,_⟩:=I.loc
  refine .cons (by rw [I.ok.kind];decide) hf hn ?_ I.funs
  exact Heap.get?_none_of_le (Nat.le_trans I.ok.bsz I.ok.above)
theorem Inv.stkSub (I:Inv X pins σ H s): ∀ b∈frs X.stack,b∈X.env.locals::X.fs:=fun b hb=>by
 rcases I.ok.stk with e | ⟨e,hf⟩
 ·rw [e]at hb;exact List.mem_cons_of_mem _ hb
 ·rw [e]at hb
  unfold frs at hb
  rw [List.filterMap_cons,hf]at hb
  exact hb
theorem Inv.stkFree (I:Inv X pins σ H s): ∀ b∈frs X.stack,H b=none:=fun b hb=>by
 rcases List.mem_cons.mp (I.stkSub b hb)with e | hb
 ·rw [e];exact I.free
 ·obtain ⟨_,o,ho,_⟩:=I.ok.funs.mem hb
  exact I.base.free b o ho (I.ok.frf b hb) fun z=>I.ok.exfs b z hb
theorem Inv.step {g':Array GenState} {t':Nat} {d':Drawn} {ch:List Addr} (I:Inv X pins σ H s)
  (hch: ∀ b∈ch,(b∈X.ex\/X.s₀.heap.objs.size<=b)/\b≠X.env.locals/\(∀ x c,X.env.cells.lookup x=some c->c≠b)/\ ∀ p∈X.pn++pins,p.1≠b)
  (keep: ∀ b o,b≠X.env.locals->b∉X.fs->b∉ch->s.heap.get? b=some o->H b=none->h'.get? b=some o)
  (slot: ∀ b o,b≠X.env.locals->b∈X.fs->b∉ch->s.heap.get? b=some o->H b=none-> ∃ sl,h'.get? b=some {o with slots:=sl}) (free: ∀ b o,b∉ch->s.heap.get? b=some o->H b=none->H' b=none)
  (there: ∀ b o,b∉ch->s.heap.get? b=some o-> ∃ o',h'.get? b=some o')
  (tups: ∀ b xs,H b=some (.tup xs)->H' b=some (.tup xs)) (frzs: ∀ b o u,H b=some (.frz o u)->H' b=some (.frz o u)) (tbls: ∀ b ps,H b=some (.tbl ps)-> ∃ more,H' b=some (.tbl (ps++more)))
  (ns: ∀ m,s.heap.Ns X.env.locals m->h'.Ns X.env.locals m) (hok:HOk X.prog X.w H' h') (hg:AllBare g'):
  Inv X pins σ H' {s with heap:=h',gens:=g',drawn:=d',toks:=t'}:=by
 have neL: ∀ b o,X.s₀.heap.get? b=some o->b≠X.env.locals:=fun b o e=>Nat.ne_of_lt (Nat.lt_of_lt_of_le (Heap.lt_size e) I.ok.above)
 have neC: ∀ b o,X.s₀.heap.get? b=some o->b∉X.ex->b∉ch:=fun b o e hx hb=>by
  rcases (hch b hb).1 with z | z
  ·exact hx z
  ·exact absurd (Nat.lt_of_lt_of_le (Heap.lt_size e) z) (Nat.lt_irrefl _)
 have cellK: ∀ x c,X.env.cells.lookup x=some c-> ∀ v,s.heap.IsCell c v->h'.IsCell c v:=fun x c e v ⟨o,ho,hd⟩=>by
  have nch:c∉ch:=fun z=>(hch c z).2.2.1 x c e rfl
  by_cases hc:c∈X.fs
  ·obtain ⟨sl,q⟩:=slot c o (I.cne x c e) hc nch ho (I.freeC x c e)
   exact ⟨_,q,hd⟩
  ·exact ⟨o,keep c o (I.cne x c e) hc nch ho (I.freeC x c e),hd⟩
 refine ⟨I.ok,I.os,hg,⟨fun b o e n hb hx=>?_,fun b o e n hb hx=>?_,fun b o e n hx=>?_,fun b o e hx=>?_,fun b xs e=>tups b xs (I.base.tups b xs e),fun b o xs e=>frzs b o xs (I.base.frzs b o xs e),fun b ps e=>?_⟩,?_,fun x c e=>?_,?_,fun x c e=>?_,fun p hp=>?_,hok,I.len⟩
 ·exact keep b o (neL b o e) hb (neC b o e hx) (I.base.keep b o e n hb hx) (I.base.free b o e n hx)
 ·obtain ⟨sl,e1⟩:=I.base.slot b o e n hb hx
  obtain ⟨sl',e2⟩:=slot b _ (neL b o e) hb (neC b o e hx) e1 (I.base.free b o e n hx)
  exact ⟨sl',e2⟩
 ·obtain ⟨o',e1⟩:=I.base.there b o e hx
  exact free b o' (neC b o e hx) e1 (I.base.free b o e n hx)
 ·obtain ⟨o',e1⟩:=I.base.there b o e hx
  exact there b o' (neC b o e hx) e1
 ·obtain ⟨m1,e1⟩:=I.base.tbls b ps e
  obtain ⟨m2,e2⟩:=tbls b _ e1
  exact ⟨m1++m2,by rw [e2,Array.append_assoc]⟩
 ·obtain ⟨m,hn,hl⟩:=I.loc
  refine ⟨m,ns m hn,fun i x v e1 e2 e3=>?_⟩
  obtain ⟨u,r,l⟩:=hl i x v e1 e2 e3
  refine ⟨u,r,?_⟩
  rcases l with l | ⟨k,c,e,z⟩
  ·exact .inl l
  ·exact .inr ⟨k,c,e,cellK x c e _ z⟩
 ·obtain ⟨v,z⟩:=I.cell x c e
  exact ⟨v,cellK x c e v z⟩
 ·obtain ⟨m,⟨o,_,_,ho,_⟩,_⟩:=I.loc
  exact free _ o (fun z=>(hch _ z).2.1 rfl) ho I.free
 ·obtain ⟨v,o,ho,hd⟩:=I.cell x c e
  exact free c o (fun z=>(hch c z).2.2.1 x c e rfl) ho (I.freeC x c e)
 ·obtain ⟨e,n,ne,nf,d⟩:=I.pin p hp
  have nch:p.1∉ch:=fun z=>(hch p.1 z).2.2.2 p hp rfl
  exact ⟨keep p.1 p.2 ne nf nch e n,free p.1 p.2 nch e n,ne,nf,d⟩
theorem Inv.un {t':Nat} (I:Inv X pins σ H s) (u:Un X.fs [] H H' s.heap h') (hok:HOk X.prog X.w H' h'):Inv X pins σ H' {s with heap:=h',toks:=t'}:=by
 obtain ⟨m,⟨o,es,ep,ho,r⟩,_⟩:=id I.loc
 obtain ⟨sl,hL⟩:=u.any ho I.free (by simp)
 exact I.step (g':=s.gens) (d':=s.drawn) (ch:=[]) (fun _ z=>nomatch z) (fun b o _ hb _ e n=>u.keep b o e n hb (by simp)) (fun b o _ hb _ e n=>u.slot b o e n hb (by simp)) (fun b o _ e n=>u.free b o e n (by simp)) (fun b o _ e=>u.there b o e (by simp)) u.tups u.frzs u.tbls (fun m' hm=>by
  obtain ⟨o',es',ep',ho',r'⟩:=hm
  rw [ho]at ho';cases ho'
  exact ⟨_,es',ep',hL,r'⟩) hok I.bare
theorem Inv.call {g':Array GenState} {t':Nat} {d':Drawn} {ch:List Addr} (I:Inv X pins σ H s) (u:Un (frs X.stack) ch H H' s.heap h') (hok:HOk X.prog X.w H' h') (hg:AllBare g')
  (hch: ∀ b∈ch,(b∈X.ex\/X.s₀.heap.objs.size<=b)/\b≠X.env.locals/\(∀ x c,X.env.cells.lookup x=some c->c≠b)/\ ∀ p∈X.pn++pins,p.1≠b):
  Inv X pins σ H' {s with heap:=h',gens:=g',drawn:=d',toks:=t'}:=by
 obtain ⟨m,⟨o,es,ep,ho,r⟩,_⟩:=id I.loc
 obtain ⟨sl,hL⟩:=u.any ho I.free fun z=>(hch _ z).2.1 rfl
 exact I.step (ch:=ch) hch (fun b o hL hb hc e n=>u.keep b o e n (fun z=>(List.mem_cons.mp (I.stkSub b z)).elim hL hb) hc) (fun b o _ _ hc e n=>u.any e n hc) (fun b o hc e n=>u.free b o e n hc) (fun b o hc e=>u.there b o e hc) u.tups u.frzs u.tbls (fun m' hm=>by
  obtain ⟨o',es',ep',ho',r'⟩:=hm
  rw [ho]at ho';cases ho'
  exact ⟨_,es',ep',hL,r'⟩) hok hg
theorem Inv.turned {t':Nat} {it:Addr} (I:Inv X pins σ H s) (k: ∀ b o,b≠it->s.heap.get? b=some o->h'.get? b=some o) (hn:H it=none) (hL:it≠X.env.locals)
  (h1:it∈X.ex\/X.s₀.heap.objs.size<=it) (h2: ∀ x c,X.env.cells.lookup x=some c->c≠it) (h3: ∀ p∈X.pn++pins,p.1≠it):Inv X pins σ H {s with heap:=h',toks:=t'}:=by
 have nit: ∀ b u,H b=some u->b≠it:=fun b u e z=>by rw [z,hn]at e;cases e
 refine I.step (g':=s.gens) (d':=s.drawn) (ch:=[it]) (fun b hb=>?_) (fun b o _ _ hc e _=>k b o (fun z=>hc (by simp [z])) e) (fun b o _ _ hc e _=>⟨o.slots,k b o (fun z=>hc (by simp [z])) e⟩) (fun _ _ _ _ n=>n)
  (fun b o hc e=>⟨o,k b o (fun z=>hc (by simp [z])) e⟩) (fun _ _ e=>e) (fun _ _ _ e=>e) (fun b ps e=>⟨#[],by rw [e];simp⟩) (fun m hm=>?_) (fun b u e=>?_) I.bare
 ·have e:b=it:=by simpa using hb
  subst e
  exact ⟨h1,hL,h2,h3⟩
 ·obtain ⟨o,es,ep,ho,r⟩:=hm
  exact ⟨o,es,ep,k _ o (Ne.symm hL) ho,r⟩
 ·refine (I.hok b u e).stay (fun c v hc q=>k c v ?_ q) (fun _ q=>q) fun _ _ q=>q
  rcases hc with z | z
  ·rw [z];exact nit b u e
  ·exact nit c _ z
theorem Inv.tok (I:Inv X pins σ H s) (t:Nat):Inv X pins σ H {s with toks:=t}:=I.un (h':=s.heap) (t':=t) Un.refl I.hok
theorem Inv.kept {t':Nat} (I:Inv X pins σ H s) (k: ∀ b u,s.heap.get? b=some u->h'.get? b=some u):Inv X pins σ H {s with heap:=h',toks:=t'}:=I.un (Un.kept k) (I.hok.kept k)
theorem Inv.laid {a:Addr} {o:HO} {t':Nat} (I:Inv X pins σ H s) (k: ∀ b u,s.heap.get? b=some u->h'.get? b=some u) (hp:s.heap.objs.size<=a) (new:ObjOk X.prog X.w (upd H a o) h' a o):
  Inv X pins σ (upd H a o) {s with heap:=h',toks:=t'}:=I.un (Un.laid k hp (I.hok.fresh hp)) (I.hok.laid k hp new)
theorem Inv.write {x e:Addr} {o:HO} {t':Nat} (I:Inv X pins σ H s) (mu:Mut (H x)) (he:e=x\/H e=some (.own x)) (k: ∀ b u,b≠e->s.heap.get? b=some u->h'.get? b=some u) (heo: ∃ u,h'.get? e=some u)
  (new:ObjOk X.prog X.w (upd H x o) h' x o):Inv X pins σ (upd H x o) {s with heap:=h',toks:=t'}:=I.un (Un.write mu he k heo) (I.hok.write mu he k heo new)
theorem Inv.pins_of {pins':List (Addr×Obj)} (I:Inv X pins σ H s) (h: ∀ p∈pins',s.heap.get? p.1=some p.2/\H p.1=none/\p.1≠X.env.locals/\p.1∉X.fs/\ ∀ v,p.2.data≠ .cell v):Inv X pins' σ H s:=
 ⟨I.ok,I.os,I.bare,I.base,I.loc,I.cell,I.free,I.freeC,fun p hp=>(List.mem_append.mp hp).elim (fun z=>I.pin p (List.mem_append_left _ z)) (h p),I.hok,I.len⟩
theorem fB {N:List Str} (hN:N.Nodup) {i j:Nat} {x:Str} (a:N[i]? =some x) (b:N[j]? =some x):i=j:=by
 obtain ⟨h1,e1⟩:=List.getElem?_eq_some_iff.mp a
 obtain ⟨h2,e2⟩:=List.getElem?_eq_some_iff.mp b
 exact (List.getElem_inj hN).mp (e1.trans e2.symm)
theorem fE {M:Model} {A:Around} {E:Value->Shared->Prop} {i:Nat} {x:Str} {v:V} {u:Value} {Q:Unit->Shared->Prop} (I:Inv X pins σ H s) (hN:X.N.Nodup) (hi:X.N[i]? =some x) (hx:Loc X.env.scope x) (r:RelV v u)
  (h: ∀ s',Inv X pins (σ.set i (some v)) H s'->(∃ a,Heap.SameBut a s.heap s'.heap/\(a=X.env.locals\/X.env.cells.lookup x=some a))->Q () s') (hf:X.fn x=true\/X.env.scope.names.lookup x=some .local:=by first | exact .inl rfl | exact .inr rfl | assumption):wpAny M A (storeName X.env x u) Q E s:=by
 obtain ⟨m,hn,hl⟩:=id I.loc
 have hcls:(X.env.scope.kind== .class||(X.env.scope.kind== .module&&X.env.locals !=X.env.globals))=false:=by rw [I.ok.kind];rfl
 have hiσ:i<σ.length:=by rw [I.len];exact (List.getElem?_eq_some_iff.mp hi).1
 have cne:=I.cne
 have tracked: ∀ {a:Addr} {h':Heap},(∃ o,s.heap.get? a=some o/\H a=none)->Heap.SameBut a s.heap h'->HOk X.prog X.w H h':=fun {a h'} ha hs b ob e=>by
  obtain ⟨_,_,hfree⟩:=ha
  refine (I.hok b ob e).stay (fun c w' hc q=>(hs.2 c ?_).trans q) (fun _ q=>q) fun _ _ q=>q
  rintro rfl
  rcases hc with rfl | hc
  ·rw [hfree]at e;cases e
  ·rw [hfree]at hc;cases hc
 rcases hx with hk | hk
 ·refine wpAny_storeName_local hk hn (fun h' hn' hs=>?_) hcls
  obtain ⟨oL,_,_,hoL,_⟩:=id hn
  refine h _ ⟨I.ok,I.os,I.bare,⟨fun b o e n hb hx=>?_,fun b o e n hb hx=>?_,I.base.free,fun b o e hx=>?_,I.base.tups,I.base.frzs,I.base.tbls⟩,⟨_,hn',fun j y v' e1 e2 e3=>?_⟩,fun y c e=>?_,I.free,I.freeC,fun p hp=>?_,tracked ⟨oL,hoL,I.free⟩ hs,by simpa using I.len⟩ ⟨_,hs,.inl rfl⟩
  ·exact (hs.2 b (Nat.ne_of_lt (Nat.lt_of_lt_of_le (Heap.lt_size e) I.ok.above))).trans (I.base.keep b o e n hb hx)
  ·obtain ⟨sl,e1⟩:=I.base.slot b o e n hb hx
   exact ⟨sl,(hs.2 b (Nat.ne_of_lt (Nat.lt_of_lt_of_le (Heap.lt_size e) I.ok.above))).trans e1⟩
  ·obtain ⟨o',e1⟩:=I.base.there b o e hx
   exact ⟨o',(hs.2 b (Nat.ne_of_lt (Nat.lt_of_lt_of_le (Heap.lt_size e) I.ok.above))).trans e1⟩
  ·by_cases hj:j=i
   ·subst hj
    rw [hi]at e1;cases e1
    rw [List.getElem?_set_self hiσ]at e2
    cases e2
    exact ⟨u,r,.inl ⟨hk,by simp⟩⟩
   ·rw [List.getElem?_set_ne (Ne.symm hj)]at e2
    obtain ⟨u',r',q⟩:=hl j y v' e1 e2 e3
    refine ⟨u',r',?_⟩
    rcases q with ⟨k,e⟩ | ⟨k,c,e,z⟩
    ·refine .inl ⟨k,?_⟩
     have:y≠x:=fun e=>hj (fB hN e1 (e▸hi))
     simp [this,e]
    ·exact .inr ⟨k,c,e,z.sameBut hs (cne y c e)⟩
  ·obtain ⟨w',z⟩:=I.cell y c e
   exact ⟨w',z.sameBut hs (cne y c e)⟩
  ·obtain ⟨e,n,ne,nf,d⟩:=I.pin p hp
   exact ⟨(hs.2 p.1 ne).trans e,n,ne,nf,d⟩
 ·have hfn:X.fn x=true:=by
   rcases hf with z | z
   ·exact z
   ·rw [z]at hk;cases hk
  obtain ⟨c,hc⟩:=I.ok.has x (.inl hk)
  obtain ⟨w',z⟩:=I.cell x c hc
  refine wpAny_storeName_cell I.ok.kind hk hc z (fun h' hc' hs=>?_)
  obtain ⟨oc,hoc,hocd⟩:=id z
  refine h {s with heap:=h'} ⟨I.ok,I.os,I.bare,⟨fun b o e n hb hx=>?_,fun b o e n hb hx=>?_,I.base.free,fun b o e hx=>?_,I.base.tups,I.base.frzs,I.base.tbls⟩,⟨m,hn.sameBut hs (Ne.symm (cne x c hc)),fun j y v' e1 e2 e3=>?_⟩,fun y c' e=>?_,I.free,I.freeC,fun p hp=>?_,tracked ⟨oc,hoc,I.freeC x c hc⟩ hs,by simpa using I.len⟩ ⟨c,hs,.inr hc⟩
  ·exact (hs.2 b (Nat.ne_of_lt (Nat.lt_of_lt_of_le (Heap.lt_size e) (I.ok.cab x c hfn hc)))).trans (I.base.keep b o e n hb hx)
  ·obtain ⟨sl,e1⟩:=I.base.slot b o e n hb hx
   exact ⟨sl,(hs.2 b (Nat.ne_of_lt (Nat.lt_of_lt_of_le (Heap.lt_size e) (I.ok.cab x c hfn hc)))).trans e1⟩
  ·obtain ⟨o',e1⟩:=I.base.there b o e hx
   exact ⟨o',(hs.2 b (Nat.ne_of_lt (Nat.lt_of_lt_of_le (Heap.lt_size e) (I.ok.cab x c hfn hc)))).trans e1⟩
  ·by_cases hj:j=i
   ·subst hj
    rw [hi]at e1;cases e1
    rw [List.getElem?_set_self hiσ]at e2
    cases e2
    exact ⟨u,r,.inr ⟨.inl hk,c,hc,hc'⟩⟩
   ·rw [List.getElem?_set_ne (Ne.symm hj)]at e2
    obtain ⟨u',r',q⟩:=hl j y v' e1 e2 e3
    refine ⟨u',r',?_⟩
    rcases q with q | ⟨k,c',e,z'⟩
    ·exact .inl q
    ·refine .inr ⟨k,c',e,z'.sameBut hs ?_⟩
     rintro rfl
     exact hj (fB hN e1 (I.ok.inj _ _ _ e hc▸hi))
  ·by_cases hcc:c'=c
   ·subst hcc;exact ⟨_,hc'⟩
   ·obtain ⟨w2,z2⟩:=I.cell y c' e
    exact ⟨w2,z2.sameBut hs hcc⟩
  ·obtain ⟨e,n,ne,nf,d⟩:=I.pin p hp
   refine ⟨(hs.2 p.1 ?_).trans e,n,ne,nf,d⟩
   intro q
   rw [q,hoc]at e
   have q':oc=p.2:=Option.some.inj e
   exact d w' (by rw [<- q'];exact hocd)
theorem cX {M:Model} {A:Around} {E:Value->Shared->Prop} {i:Nat} {x:Str} {v:V} {u:Value} {Q:Unit->Shared->Prop} (I:Inv X pins σ H s) (hN:X.N.Nodup) (hi:X.N[i]? =some x) (hx:Loc X.env.scope x) (r:RelV v u)
  (h: ∀ s',Inv X pins (σ.set i (some v)) H s'->Q () s') (hf:X.fn x=true\/X.env.scope.names.lookup x=some .local:=by first | exact .inl rfl | exact .inr rfl | assumption):wpAny M A (storeName X.env x u) Q E s:=
 fE I hN hi hx r (fun s' I' _=>h s' I') hf
theorem Inv.call' {s':Shared} {ch:List Addr} (I:Inv X pins σ H s) (ho:s'.os=s.os) (u:Un (frs X.stack) ch H H' s.heap s'.heap) (hok:HOk X.prog X.w H' s'.heap) (hg:AllBare s'.gens)
  (hch: ∀ b∈ch,(b∈X.ex\/X.s₀.heap.objs.size<=b)/\b≠X.env.locals/\(∀ x c,X.env.cells.lookup x=some c->c≠b)/\ ∀ p∈X.pn++pins,p.1≠b):Inv X pins σ H' s':=by
 obtain ⟨h',g',d',t',o'⟩:=s'
 have e:o'=s.os:=ho
 subst e
 exact I.call (g':=g') (t':=t') (d':=d') u hok hg hch
end
noncomputable abbrev XK:=Value->Option Addr->Hp->Prop
noncomputable abbrev St:=List (Option V)
noncomputable abbrev VK:=V->Hp->Prop
noncomputable abbrev TE:=St->Hp->VK->Prop
noncomputable abbrev TT:=St->Hp->(Bool->Hp->Prop)->Prop
noncomputable abbrev TA:=St->Hp->(List V->Hp->Prop)->Prop
structure eR where
 nx:St->Hp->Prop
 rt:VK
 bk:St->Hp->Prop:=fun _ _=>False
 ct:St->Hp->Prop:=fun _ _=>False
noncomputable abbrev TS:=eR->St->Hp->Prop
inductive EP (X:Cx) (pins:List (Addr×Obj)) (σ:St) (Q:VK) (u:Value) (s':Shared):Prop
 | mk: ∀ v H',(Inv X pins σ H' s')->(RelV v u)->(Q v H')->EP X pins σ Q u s'
noncomputable def TP (X:Cx) (pins:List (Addr×Obj)) (σ:St) (Q:Bool->Hp->Prop) (b:Bool) (s':Shared):Prop:= ∃ H',Inv X pins σ H' s'/\Q b H'
inductive AP (X:Cx) (pins:List (Addr×Obj)) (σ:St) (Q:List V->Hp->Prop) (us:List Value) (s':Shared):Prop
 | mk: ∀ vs H',(Inv X pins σ H' s')->(Vals vs us)->(Q vs H')->AP X pins σ Q us s'
noncomputable def SP (X:Cx) (pins:List (Addr×Obj)) (D:eR) (f:Flow) (s':Shared):Prop:=
 match f with
 | .next=> ∃ σ' H',Inv X pins σ' H' s'/\D.nx σ' H'
 | .brk=> ∃ σ' H',Inv X pins σ' H' s'/\D.bk σ' H'
 | .cont=> ∃ σ' H',Inv X pins σ' H' s'/\D.ct σ' H'
 | .ret u=> ∃ v σ' H',Inv X pins σ' H' s'/\RelV v u/\D.rt v H'
noncomputable def PE (X:Cx) (e:Expr) (t:TE):Prop:=
 ∀ (pins:List (Addr×Obj)) (s:Shared) (σ:St) (H:Hp) (Q:VK),Inv X pins σ H s->t σ H Q->wpAny (model X.prog X.w) X.A (eval e X.env) (EP X pins σ Q) X.xe s
noncomputable def PT (X:Cx) (e:Expr) (t:TT):Prop:=
 ∀ (pins:List (Addr×Obj)) (s:Shared) (σ:St) (H:Hp) (Q:Bool->Hp->Prop),Inv X pins σ H s->t σ H Q->wpAny (model X.prog X.w) X.A (isTrue e X.env (eval e X.env)) (TP X pins σ Q) X.xe s
noncomputable def PW (X:Cx) (e:Expr) (t:TT):Prop:=
 ∀ (whole:Sem Value) (pins:List (Addr×Obj)) (s:Shared) (σ:St) (H:Hp) (Q:Bool->Hp->Prop),Inv X pins σ H s->t σ H Q->wpAny (model X.prog X.w) X.A (isTrue e X.env whole) (TP X pins σ Q) X.xe s
theorem PW.pt {X:Cx} {e:Expr} {t:TT} (h:PW X e t):PT X e t:=h _
noncomputable def PA (X:Cx) (es:List Expr) (t:TA):Prop:=
 ∀ (pos:Pos) (pins:List (Addr×Obj)) (s:Shared) (σ:St) (H:Hp) (Q:List V->Hp->Prop),Inv X pins σ H s->t σ H Q->wpAny (model X.prog X.w) X.A (spliced (backTo pos (starEach es X.env))) (AP X pins σ Q) X.xe s
noncomputable def PS (X:Cx) (st:Stmt) (t:TS):Prop:=
 ∀ (pins:List (Addr×Obj)) (s:Shared) (σ:St) (H:Hp) (D:eR),Inv X pins σ H s->t D σ H->wpAny (model X.prog X.w) X.A (exec st X.env) (SP X pins D) X.xe s
noncomputable def PSs (X:Cx) (st:List Stmt) (t:TS):Prop:=
 ∀ (pins:List (Addr×Obj)) (s:Shared) (σ:St) (H:Hp) (D:eR),Inv X pins σ H s->t D σ H->wpAny (model X.prog X.w) X.A (execs st X.env) (SP X pins D) X.xe s
theorem thn {α:Type} {t:Sem α} {Q Q':α->Shared->Prop} {M:Model} {A:Around} {E:Value->Shared->Prop} {s:Shared} (h:wpAny M A t Q E s) (hQ: ∀ a s,Q a s->Q' a s):wpAny M A t Q' E s:=wpAny_mono h hQ fun _ _ x=>x
section
variable {X:Cx}
theorem bin {a b:Expr} {ta tb:TE} (ha:PE X a ta) (hb:PE X b tb) {pins:List (Addr×Obj)} {s:Shared} {σ:St} {H:Hp} {R:V->V->Hp->Prop} (I:Inv X pins σ H s) (h:ta σ H fun x H1=>tb σ H1 fun y H2=>R x y H2)
  {α:Type} {Q:α->Shared->Prop} {f:Value->Value->Sem α}
  (hf: ∀ v u s2 x y H2,Inv X pins σ H2 s2->RelV x v->RelV y u->R x y H2->wpAny (model X.prog X.w) X.A (f v u) Q X.xe s2):
  wpAny (model X.prog X.w) X.A (eval a X.env) (fun v s₁=>wpAny (model X.prog X.w) X.A (eval b X.env) (fun u s₂=>wpAny (model X.prog X.w) X.A (f v u) Q X.xe s₂) X.xe s₁) X.xe s:=by
 refine thn (ha pins s σ H _ I h) fun v s1 ⟨x,H1,I1,r1,q1⟩=>?_
 refine thn (hb pins s1 σ H1 _ I1 q1) fun u s2 ⟨y,H2,I2,r2,q2⟩=>?_
 exact hf v u s2 x y H2 I2 r1 r2 q2
inductive qp (i:Nat) (σ:St) (H:Hp) (Q:VK):Prop
 | mk: ∀ v,(σ[i]? =some (some v))->(Q v H)->qp i σ H Q
noncomputable def tC (v:V):TE:=fun _ H Q=>Q v H
theorem wC {i:Nat} {x:Str} {pos:Pos} (hN:X.N[i]? =some x) (hv:Vis X.env.scope x) (hd:(x==("__debug__":Str))=false:=by decide) (hcd:(x==("__classdict__":Str))=false:=by decide):PE X (.Name x pos) (qp i):=by
 intro pins s σ H Q I h
 obtain ⟨v,e,h⟩:=h
 obtain ⟨m,hn,hl⟩:=I.loc
 obtain ⟨u,r,l⟩:=hl i x v hN e hv
 have fin:EP X pins σ Q u s:=⟨v,H,I,r,h⟩
 rcases l with ⟨hk,hm⟩ | ⟨hk,c,hc,hcell⟩
 ·exact wpAny_Name (wpAny_loadName_local I.ok.kind hk hn hm fin) hd
 ·rcases hk with hk | hk
  ·exact wpAny_Name (wpAny_loadName_cell I.ok.kind hk hc hcell fin) hd
  ·exact wpAny_Name (wpAny_loadName_free I.ok.kind hk hc hcell fin hcd) hd
theorem ae {i j pos}:PE X (.Constant (.int i) j pos) (tC (.int i)):=fun _ _ _ H _ I h=>wpAny_Constant_int ⟨.int i,H,I.tok _,⟨_,rfl⟩,h⟩
theorem j8 {b j pos}:PE X (.Constant (.bool b) j pos) (tC (.bl b)):=fun _ _ _ H _ I h=>Constant_bool ⟨.bl b,H,I,rfl,h⟩
theorem bA {j pos}:PE X (.Constant .none j pos) (tC .non):=fun _ _ _ H _ I h=>Constant_none ⟨.non,H,I,rfl,h⟩
theorem aN {x j pos}:PE X (.Constant (.str x) j pos) (tC (.str x)):=fun _ _ _ H _ I h=>Calls.Constant_str ⟨.str x,H,I.tok _,⟨_,rfl⟩,h⟩
noncomputable def Gl (X:Cx) (x:Str):Prop:=X.env.kindOf x=some .globalImplicit
theorem eL {E:Value->Shared->Prop} {pins:List (Addr×Obj)} {s:Shared} {σ:St} {H:Hp} {x:Str} {u:Value} {pos:Pos} {Q:Value->Shared->Prop} (I:Inv X pins σ H s) (hg:Gl X x) (hm:X.mg x=some u) (h:Q u s)
  (hd:(x==("__debug__":Str))=false:=by decide):wpAny (model X.prog X.w) X.A (eval (.Name x pos) X.env) Q E s:=
 Calls.Name_function_global I.ok.kind hg (Calls.loadGlobal_global (by rw [I.ok.glob];exact I.mod.glob.keeps I.bk) hm h) hd
theorem dA {E:Value->Shared->Prop} {pins:List (Addr×Obj)} {s:Shared} {σ:St} {H:Hp} {x:Str} {u:Value} {pos:Pos} {Q:Value->Shared->Prop} (I:Inv X pins σ H s) (hg:Gl X x) (hm:X.mg x=none) (hv:bootBuiltins x=some u) (h:Q u s)
  (hn:x≠"__name__":=by decide) (hd:(x==("__debug__":Str))=false:=by decide):wpAny (model X.prog X.w) X.A (eval (.Name x pos) X.env) Q E s:=by
 obtain ⟨mb,h1,h2⟩:=I.mod.blt
 exact Calls.Name_function_global I.ok.kind hg (Calls.loadGlobal_builtin (by rw [I.ok.glob];exact I.mod.glob.keeps I.bk) hm (by rw [I.ok.blt];exact h1.keeps I.bk) ((h2 x hn).trans hv) h) hd
theorem bw {x:Str} {v:V} {u:Value} {pos:Pos} (hg:Gl X x) (hm:X.mg x=some u) (r:RelV v u) (hd:(x==("__debug__":Str))=false:=by decide):PE X (.Name x pos) (tC v):=
 fun _ _ _ H _ I h=>eL I hg hm ⟨v,H,I,r,h⟩ hd
theorem ce {x:Str} {v:V} {u:Value} {pos:Pos} (hg:Gl X x) (hm:X.mg x=none) (hv:bootBuiltins x=some u) (r:RelV v u) (hn:x≠"__name__":=by decide) (hd:(x==("__debug__":Str))=false:=by decide):PE X (.Name x pos) (tC v):=
 fun _ _ _ H _ I h=>dA I hg hm hv ⟨v,H,I,r,h⟩ hn hd
noncomputable def t2I (ta tb:TE) (k:Int->Int->Hp->Prop):St->Hp->Prop:=fun σ H=>ta σ H fun x H1=>tb σ H1 fun y H2=> ∃ i j,x=.int i/\y=.int j/\k i j H2
variable {a b:Expr} {ta tb:TE} {pos:Pos}
noncomputable def PC (X:Cx) (op:CmpOp) (a b:Expr) (t:TE):Prop:=
 ∀ (pins:List (Addr×Obj)) (s:Shared) (σ:St) (H:Hp) (Q:VK),Inv X pins σ H s->t σ H Q->
  wpAny (model X.prog X.w) X.A (eval a X.env) (fun v s₁=>wpAny (model X.prog X.w) X.A (eval b X.env) (fun u s₂=>wpAny (model X.prog X.w) X.A (compareOp op v u) (EP X pins σ Q) X.xe s₂) X.xe s₁) X.xe s
theorem mY (b:Expr) {op:CmpOp} (h:op≠ .In) (h2:op≠ .NotIn):behindInMarks op b=false:=by
 have e1:(op==CmpOp.In)=false:=by cases op <;> first | rfl | exact absurd rfl h
 have e2:(op==CmpOp.NotIn)=false:=by cases op <;> first | rfl | exact absurd rfl h2
 cases b <;> simp [behindInMarks,e1,e2]
noncomputable def we (p:Int->Int->Bool) (ta tb:TE):TE:=fun σ H Q=>t2I ta tb (fun i j H2=>Q (.bl (p i j)) H2) σ H
noncomputable abbrev tGt:TE->TE->TE:=we fun i j=>decide (j<i)
noncomputable abbrev yl:TE->TE->TE:=we fun i j=>decide (i=j)
theorem tf {op:CmpOp} {p:Int->Int->Bool} (ha:PE X a ta) (hb:PE X b tb)
  (rule: ∀ (i j:Int) (t u:Tok) (Q:Value->Shared->Prop) (s:Shared),Q (.bool (p i j)) s->wpAny (model X.prog X.w) X.A (compareOp op (.int i t) (.int j u)) Q X.xe s):PC X op a b (we p ta tb):=by
 intro pins s σ H Q I h
 refine bin ha hb I h fun v u s2 x y H2 I2 rx ry q=>?_
 obtain ⟨i,j,rfl,rfl,q⟩:=q
 obtain ⟨t,rfl⟩:=rx
 obtain ⟨t',rfl⟩:=ry
 exact rule i j t t' _ s2 ⟨.bl _,H2,I2,rfl,q⟩
theorem xF (ha:PE X a ta) (hb:PE X b tb):PC X .Gt a b (tGt ta tb):=tf ha hb fun _ _ _ _ _ _ h=>gt_int h
theorem tm (ha:PE X a ta) (hb:PE X b tb):PC X .Eq a b (yl ta tb):=tf ha hb fun _ _ _ _ _ _ h=>eq_int (by rw [Bool.beq_eq_decide_eq];exact h)
inductive rBl  (x:V) (H1:Hp) (Q:(Bool->Hp->Prop)):Prop
 | mk: ∀ c,(x=.bl c)->(Q c H1)->rBl x H1 Q
noncomputable def tB (t:TE):TT:=fun σ H Q=>t σ H fun x H1=>rBl x H1 Q
theorem sY {op:CmpOp} {t:TE} (h:PC X op a b t) (h1:behindInMarks op b=false:=by first | exact mY _ (by decide) (by decide) | rfl):PE X (.Compare a [op] [b] pos) t:=fun pins s σ H Q I hw=>wpAny_Compare1 (h pins s σ H Q I hw) h1
theorem lK {op:CmpOp} {t:TE} (h:PC X op a b t) (h1:behindInMarks op b=false:=by first | exact mY _ (by decide) (by decide) | rfl):PT X (.Compare a [op] [b] pos) (tB t):=by
 intro pins s σ H Q I hw
 refine wpAny_isTrue_Compare1 (thn (h pins s σ H _ I hw) fun v s1 h1=>thn h1 fun u s2 h2=>thn h2 fun c s3 ⟨x,H1,I1,r1,q1⟩=>?_) h1
 obtain ⟨d,rfl,q⟩:=q1
 cases r1
 exact wpAny_truthy_bool ⟨H1,I1,q⟩
theorem dQ {e:Expr} {t:TE} (h:PE X e t) (he: ∀ whole,isTrue e X.env whole=(do let v <- whole;standAt e.pos;holding [v] (truthy v)):=by intro _;rfl):PT X e (tB t):=by
 intro pins s σ H Q I hw
 refine isTrue_plain (thn (h pins s σ H _ I hw) fun v s1 ⟨x,H1,I1,r1,q1⟩=>?_) (he _)
 obtain ⟨d,rfl,q⟩:=q1
 cases r1
 exact wpAny_truthy_bool ⟨H1,I1,q⟩
variable {tA tB':TT} {rest:List Expr}
noncomputable def yn (t u:TT):TT:=fun σ H Q=>t σ H fun c H1=>if c=true then u σ H1 Q else Q false H1
noncomputable def tOr (t u:TT):TT:=fun σ H Q=>t σ H fun c H1=>if c=true then Q true H1 else u σ H1 Q
noncomputable def xp (t:TT):TT:=fun σ H Q=>t σ H fun c H1=>Q (!c) H1
theorem eG (ha:PT X a tA):PW X (.BoolOp .And [a] pos) tA:=by
 intro wh pins s σ H Q I h
 refine isTrue_and (thn (ha pins s σ H Q I h) fun c s1 e=>?_)
 cases c with
 | true=>exact isTrue_and_nil e
 | false=>exact e
theorem ft (ha:PT X a tA):PW X (.BoolOp .Or [a] pos) tA:=by
 intro wh pins s σ H Q I h
 refine isTrue_or (thn (ha pins s σ H Q I h) fun c s1 e=>?_)
 cases c with
 | false=>exact isTrue_or_nil e
 | true=>exact e
theorem ge (ha:PT X a tA) (hb:PW X (.BoolOp .And (b::rest) pos) tB'):PW X (.BoolOp .And (a::b::rest) pos) (yn tA tB'):=by
 intro wh pins s σ H Q I h
 refine isTrue_and (thn (ha pins s σ H _ I h) fun c s1 ⟨H1,I1,q1⟩=>?_)
 cases c with
 | true=>exact hb wh pins s1 σ H1 Q I1 q1
 | false=>exact ⟨H1,I1,q1⟩
theorem fQ (ha:PT X a tA) (hb:PW X (.BoolOp .Or (b::rest) pos) tB'):PW X (.BoolOp .Or (a::b::rest) pos) (tOr tA tB'):=by
 intro wh pins s σ H Q I h
 refine isTrue_or (thn (ha pins s σ H _ I h) fun c s1 ⟨H1,I1,q1⟩=>?_)
 cases c with
 | true=>exact ⟨H1,I1,q1⟩
 | false=>exact hb wh pins s1 σ H1 Q I1 q1
theorem oq (ha:PT X a tA):PT X (.UnaryOp .Not a pos) (xp tA):=by
 intro pins s σ H Q I h
 exact isTrue_not (ha pins s σ H (fun c H1=>Q (!c) H1) I h)
noncomputable def vM (ta tb:TE):TE:=fun σ H Q=>ta σ H fun x H1=> ∃ c,x=.bl c/\if c=true then tb σ H1 Q else Q (.bl false) H1
noncomputable def xo (ta:TE):TE:=fun σ H Q=>ta σ H fun x H1=> ∃ c,x=.bl c/\Q (.bl (!c)) H1
theorem gf {op} {t:TE} (h:PE X a t):PE X (.BoolOp op [a] pos) t:=fun pins s σ H Q I hw=>BoolOp_one (h pins s σ H Q I hw)
theorem gh (ha:PE X a ta) (hb:PE X (.BoolOp .And (b::rest) pos) tb):PE X (.BoolOp .And (a::b::rest) pos) (vM ta tb):=by
 intro pins s σ H Q I h
 refine BoolOp_and (thn (ha pins s σ H _ I h) fun v s1 ⟨x,H1,I1,r1,q1⟩=>?_)
 obtain ⟨c,rfl,q1⟩:=q1
 cases r1
 refine wpAny_truthy_bool ?_
 cases c with
 | true=>exact hb pins s1 σ H1 Q I1 q1
 | false=>exact ⟨.bl false,H1,I1,rfl,q1⟩
theorem wD (ha:PE X a ta):PE X (.UnaryOp .Not a pos) (xo ta):=by
 intro pins s σ H Q I h
 refine UnaryOp_ (thn (ha pins s σ H _ I h) fun v s1 ⟨x,H1,I1,r1,q1⟩=>?_)
 obtain ⟨c,rfl,q1⟩:=q1
 cases r1
 exact not_of (wpAny_truthy_bool ⟨.bl (!c),H1,I1,rfl,q1⟩)
noncomputable def tIf (t:TT) (ta tb:TE):TE:=fun σ H Q=>t σ H fun c H1=>if c=true then ta σ H1 Q else tb σ H1 Q
theorem ji {c:Expr} (hc:PT X c tA) (ha:PE X a ta) (hb:PE X b tb):PE X (.IfExp c a b pos) (tIf tA ta tb):=by
 intro pins s σ H Q I h
 refine wpAny_IfExp (thn (hc pins s σ H _ I h) fun d s1 ⟨H1,I1,q1⟩=>?_)
 cases d with
 | true=>exact ha pins s1 σ H1 Q I1 q1
 | false=>exact hb pins s1 σ H1 Q I1 q1
end
noncomputable def SqL (K:PySem.W.Frag) (H:Hp) (a:Addr) (xs:List V):Prop:=
 Rd H a (.lst xs)\/
  ∃ (o:Obj) (its:Array Value) (n:Nat),K.lookup a=some o/\o.cls=.type "list"/\o.dict=none/\o.data=.seq its n/\its.size<=sizeLine/\Vals xs its.toList
noncomputable def SqT (K:PySem.W.Frag) (H:Hp) (a:Addr) (xs:List V):Prop:=
 Rd H a (.tup xs)\/
  ∃ (o:Obj) (its:Array Value) (n:Nat),K.lookup a=some o/\o.cls=.type "tuple"/\o.data=.seq its n/\its.size<=sizeLine/\Vals xs its.toList
noncomputable def yJ:Value->Option V
 | .none=>some .non
 | .bool b=>some (.bl b)
 | .int i _=>some (.int i)
 | .str x _=>some (.str x)
 | .bytes b _=>some (.byt b)
 | .float b _=>some (.flt b)
 | .ref a=>some (.ref a)
 | .type n=>some (.ty n)
 | _=>none
theorem RelV.abs {x:V} {u:Value} (r:RelV x u):yJ u=some x:=by
 cases x with
 | non=>cases r;rfl
 | bl _=>cases r;rfl
 | int _=>obtain ⟨t,rfl⟩:=r;rfl
 | str _=>obtain ⟨t,rfl⟩:=r;rfl
 | byt _=>obtain ⟨t,rfl⟩:=r;rfl
 | flt _=>obtain ⟨t,rfl⟩:=r;rfl
 | ref _=>cases r;rfl
 | ty _=>cases r;rfl
theorem RelV.inj {x y:V} {u:Value} (r:RelV x u) (q:RelV y u):x=y:=Option.some.inj (r.abs.symm.trans q.abs)
theorem Vals.inj: ∀ {xs ys:List V} {us:List Value},Vals xs us->Vals ys us->xs=ys
 | _,_,_,.nil,.nil=>rfl
 | _,_,_,.cons r t,.cons r' t'=>by rw [r.inj r',Vals.inj t t']
section
variable {X:Cx} {pins:List (Addr×Obj)} {σ:St} {H:Hp} {s:Shared} {a:Addr} {xs ys:List V}
theorem SqL.of {K:PySem.W.Frag} (h:H a=some (.lst xs)):SqL K H a xs:=.inl (.inl h)
theorem SqT.of {K:PySem.W.Frag} (h:H a=some (.tup xs)):SqT K H a xs:=.inl (.inl h)
theorem Inv.list (I:Inv X pins σ H s) (h:SqL X.K H a xs): ∃ its:List Value,Vals xs its/\PlainL s.heap a its.toArray/\xs.length<=sizeLine:=by
 rcases h with h | ⟨o,its,n,hk,hc,hd,hs,hz,r⟩
 ·obtain ⟨z,its,n,r,e⟩:=h.ok I.hok
  exact ⟨its,r,⟨_,n,e,rfl,rfl,rfl⟩,z⟩
 ·refine ⟨its.toList,r,⟨o,n,I.kIn a o hk,hc,hd,by simpa using hs⟩,?_⟩
  have e:=r.length
  simp only [Array.length_toList]at e
  lia
theorem Inv.tuple (I:Inv X pins σ H s) (h:SqT X.K H a xs): ∃ its:List Value,Vals xs its/\IsTup s.heap a its.toArray/\xs.length<=sizeLine:=by
 rcases h with h | ⟨o,its,n,hk,hc,hs,hz,r⟩
 ·obtain ⟨z,its,r,p⟩:=h.ok I.hok
  exact ⟨its,r,p,z⟩
 ·refine ⟨its.toList,r,⟨o,I.kIn a o hk,hc,n,by simpa using hs⟩,?_⟩
  have e:=r.length
  simp only [Array.length_toList]at e
  lia
theorem Inv.list_inj (I:Inv X pins σ H s) (h:SqL X.K H a xs) (h':SqL X.K H a ys):xs=ys:=by
 obtain ⟨its,r,⟨o,n,e,_,_,d⟩,_⟩:=I.list h
 obtain ⟨its',r',⟨o',n',e',_,_,d'⟩,_⟩:=I.list h'
 rw [e]at e';cases e'
 rw [d]at d'
 injection d' with d1 _
 have:its=its':=by simpa using congrArg Array.toList d1
 subst this
 exact r.inj r'
theorem Inv.tuple_inj (I:Inv X pins σ H s) (h:SqT X.K H a xs) (h':SqT X.K H a ys):xs=ys:=by
 obtain ⟨its,r,⟨o,e,_,n,d⟩,_⟩:=I.tuple h
 obtain ⟨its',r',⟨o',e',_,n',d'⟩,_⟩:=I.tuple h'
 rw [e]at e';cases e'
 rw [d]at d'
 injection d' with d1 _
 have:its=its':=by simpa using congrArg Array.toList d1
 subst this
 exact r.inj r'
end
noncomputable abbrev Cx.wish (X:Cx) (E:Value->Shared->Prop):Cx:={X with xe:=E}
noncomputable abbrev Cx.nox (X:Cx):Cx:=X.wish fun _ _=>False
theorem Cx.Ok.wish {X:Cx} (ok:X.Ok) (E:Value->Shared->Prop):(X.wish E).Ok:=
 ⟨ok.mod,ok.kind,ok.glob,ok.blt,ok.above,ok.inj,ok.has,ok.cab,ok.hd,ok.frames,ok.stk,ok.exf,ok.bs,ok.bsz,ok.noex,ok.exfs,ok.funs,ok.frf⟩
theorem Cx.Ok.unwish {X:Cx} {E:Value->Shared->Prop} (ok:(X.wish E).Ok):X.Ok:=
 ⟨ok.mod,ok.kind,ok.glob,ok.blt,ok.above,ok.inj,ok.has,ok.cab,ok.hd,ok.frames,ok.stk,ok.exf,ok.bs,ok.bsz,ok.noex,ok.exfs,ok.funs,ok.frf⟩
section
variable {X:Cx} {pins:List (Addr×Obj)} {σ:St} {H:Hp} {s:Shared} {E:Value->Shared->Prop}
theorem Inv.wish (I:Inv X pins σ H s) (E:Value->Shared->Prop):Inv (X.wish E) pins σ H s:=⟨I.ok.wish E,I.os,I.bare,I.base,I.loc,I.cell,I.free,I.freeC,I.pin,I.hok,I.len⟩
theorem Inv.unwish (I:Inv (X.wish E) pins σ H s):Inv X pins σ H s:=⟨I.ok.unwish,I.os,I.bare,I.base,I.loc,I.cell,I.free,I.freeC,I.pin,I.hok,I.len⟩
theorem SP.unwish {D:eR} {f:Flow} {s':Shared} (h:SP (X.wish E) pins D f s'):SP X pins D f s':=by
 cases f with
 | next=>obtain ⟨σ',H',I,q⟩:=h;exact ⟨σ',H',I.unwish,q⟩
 | brk=>obtain ⟨σ',H',I,q⟩:=h;exact ⟨σ',H',I.unwish,q⟩
 | cont=>obtain ⟨σ',H',I,q⟩:=h;exact ⟨σ',H',I.unwish,q⟩
 | ret u=>obtain ⟨v,σ',H',I,r,q⟩:=h;exact ⟨v,σ',H',I.unwish,r,q⟩
theorem PSs.nox {st:List Stmt} {t:TS} (h:PSs X.nox st t):PSs X st t:=fun pins s σ H D I hw=>
 wpAny_mono (h pins s σ H D (I.wish _) hw) (fun _ _ q=>q.unwish) fun _ _ z=>False.elim z
end
section
variable {X:Cx} {st:Stmt} {rest:List Stmt} {t u:TS} {e:Expr} {te:TE} {pos:Pos}
noncomputable def xq:TS:=fun D σ H=>D.nx σ H
noncomputable def vY (t u:TS):TS:=fun D σ H=>t {D with nx:=u D} σ H
theorem aH:PSs X [] xq:=fun _ _ σ H _ I h=>wpAny_execs_nil ⟨σ,H,I,h⟩
theorem af (h1:PS X st t) (h2:PSs X rest u):PSs X (st::rest) (vY t u):=by
 intro pins s σ H D I h
 refine wpAny_execs_cons (thn (h1 pins s σ H {D with nx:=u D} I h) fun f s1 q=>?_)
 cases f with
 | next=>
  obtain ⟨σ',H',I',q⟩:=q
  exact h2 pins s1 σ' H' D I' q
 | ret v=>exact q
 | brk=>exact q
 | cont=>exact q
theorem ak (h1:PS X st t):PSs X [st] t:=by
 intro pins s σ H D I h
 refine wpAny_execs_cons (thn (h1 pins s σ H D I h) fun f s1 q=>?_)
 cases f with
 | next=>exact wpAny_execs_nil q
 | ret v=>exact q
 | brk=>exact q
 | cont=>exact q
theorem Inv.quiet {pins:List (Addr×Obj)} {σ:St} {H:Hp} {s:Shared} (I:Inv X pins σ H s):interactive X.env=false:=by simp [interactive,I.ok.kind]
noncomputable def xw (te:TE):TS:=fun D σ H=>te σ H fun _ H1=>D.nx σ H1
theorem cx (he:PE X e te) (hs:swapsWith e none pos.line X.env=pure false:=by rfl):PS X (.Expr e pos) (xw te):=by
 intro pins s σ H D I h
 exact wpAny_Expr_any (thn (he pins s σ H _ I h) fun v s1 ⟨x,H1,I1,r1,q1⟩=>⟨σ,H1,I1,q1⟩) I.quiet hs
noncomputable def xk (te:TE):TS:=fun D σ H=>te σ H D.rt
theorem aF (he:PE X e te):PS X (.Return (some e) pos) (xk te):=by
 intro pins s σ H D I h
 exact wpAny_Return_some (thn (he pins s σ H _ I h) fun v s1 ⟨x,H1,I1,r1,q1⟩=>⟨x,σ,H1,I1,r1,q1⟩)
noncomputable def xt (c:TT) (t u:TS):TS:=fun D σ H=>c σ H fun b H1=>if b=true then t D σ H1 else u D σ H1
theorem a7 {c:Expr} {a b:List Stmt} {tc:TT} (hc:PT X c tc) (ha:PSs X a t) (hb:PSs X b u):PS X (.If c a b pos) (xt tc t u):=by
 intro pins s σ H D I h
 refine wpAny_If (thn (hc pins s σ H _ I h) fun d s1 ⟨H1,I1,q1⟩=>?_)
 cases d with
 | true=>exact ha pins s1 σ H1 D I1 q1
 | false=>exact hb pins s1 σ H1 D I1 q1
noncomputable def v5:TS:=fun _ _ _=>False
theorem j7 {sts:List Stmt}:PSs X sts v5:=fun _ _ _ _ _ _ h=>h.elim
end
noncomputable abbrev TG:=V->St->Hp->(St->Hp->Prop)->Prop
noncomputable abbrev TGs:=List V->St->Hp->(St->Hp->Prop)->Prop
noncomputable def PG (X:Cx) (target:Expr) (t:TG):Prop:=
 ∀ (pins:List (Addr×Obj)) (s:Shared) (σ:St) (H:Hp) (v:V) (u:Value) (Q:St->Hp->Prop),Inv X pins σ H s->RelV v u->t v σ H Q->
  wpAny (model X.prog X.w) X.A (assign target X.env u) (fun _ s'=> ∃ σ' H',Inv X pins σ' H' s'/\Q σ' H') X.xe s
noncomputable def PGs (X:Cx) (ts:List Expr) (t:TGs):Prop:=
 ∀ (pins:List (Addr×Obj)) (s:Shared) (σ:St) (H:Hp) (vs:List V) (us:List Value) (Q:St->Hp->Prop),Inv X pins σ H s->Vals vs us->t vs σ H Q->
  wpAny (model X.prog X.w) X.A (assignInOrder ((assignEach ts X.env).map (·.2)) us) (fun _ s'=> ∃ σ' H',Inv X pins σ' H' s'/\Q σ' H') X.xe s
noncomputable abbrev xb:=V->V->V->Hp->(Hp->Prop)->Prop
noncomputable def yc (X:Cx) (t:xb):Prop:=
 ∀ (pins:List (Addr×Obj)) (s:Shared) (σ:St) (H:Hp) (o i v:V) (ov iv u:Value) (Q:Hp->Prop),Inv X pins σ H s->RelV o ov->RelV i iv->RelV v u->t o i v H Q->
  wpAny (model X.prog X.w) X.A (setItem ov iv u) (fun _ s'=> ∃ H',Inv X pins σ H' s'/\Q H') X.xe s
noncomputable abbrev TIp:=V->V->Hp->VK->Prop
noncomputable def PIp (X:Cx) (op:Operator) (t:TIp):Prop:=
 ∀ (pins:List (Addr×Obj)) (s:Shared) (σ:St) (H:Hp) (x y:V) (v u:Value) (Q:VK),Inv X pins σ H s->RelV x v->RelV y u->t x y H Q->
  wpAny (model X.prog X.w) X.A (inplaceOp op v u) (EP X pins σ Q) X.xe s
section
variable {X:Cx} {pos:Pos}
noncomputable def eW (i:Nat):TG:=fun v σ H Q=>Q (σ.set i (some v)) H
theorem aS {i:Nat} {x:Str} (hN:X.N.Nodup) (hi:X.N[i]? =some x) (hx:Loc X.env.scope x) (hf:X.fn x=true\/X.env.scope.names.lookup x=some .local:=by first | exact .inl rfl | exact .inr rfl | assumption):PG X (.Name x pos) (eW i):=by
 intro pins s σ H v u Q I r h
 exact wpAny_assign_Name (cX I hN hi hx r (fun s' I'=>⟨_,H,I',h⟩) hf)
noncomputable def xW:TGs:=fun vs σ H Q=>vs=[]/\Q σ H
inductive pV (t:TG) (u:TGs) (vs:List V) (σ:St) (H:Hp) (Q:(St->Hp->Prop)):Prop
 | mk: ∀ v r,(vs=v::r)->(t v σ H fun σ' H'=>u r σ' H' Q)->pV t u vs σ H Q
theorem gU:PGs X [] xW:=by
 intro pins s σ H vs us Q I r h
 obtain ⟨e,h⟩:=h
 subst e
 cases r
 exact assignInOrder_nil ⟨σ,H,I,h⟩
theorem bO {e:Expr} {es:List Expr} {t:TG} {u:TGs} (h1:PG X e t) (h2:PGs X es u)
  (hs:(assignEach (e::es) X.env).map (·.2)=assign e X.env::(assignEach es X.env).map (·.2):=by rfl):PGs X (e::es) (pV t u):=by
 intro pins s σ H vs us Q I r h
 obtain ⟨v,vr,e1,h⟩:=h
 subst e1
 cases r with
 | cons r rr=>
  rw [hs]
  refine assignInOrder_cons (thn (h1 pins s σ H _ _ _ I r h) fun _ s1 ⟨σ1,H1,I1,q1⟩=>?_)
  exact h2 pins s1 σ1 H1 _ _ Q I1 rr q1
inductive wV (K:PySem.W.Frag) (n:Nat) (t:TGs) (v:V) (σ:St) (H:Hp) (Q:(St->Hp->Prop)):Prop
 | mk: ∀ a xs,(v=.ref a)->(SqT K H a xs)->(xs.length=n)->(t xs σ H Q)->wV K n t v σ H Q
theorem jg {es:List Expr} {k:Nat} {t:TGs} {n:Nat} (hc:X.calm=true) (h:PGs X es t)
  (hn:(assignEach es X.env).length=n:=by rfl) (hst:(assignEach es X.env).findIdx? (·.1)=none:=by rfl):PG X (.Tuple es k pos) (wV X.K n t):=by
 intro pins s σ H v u Q I r hw
 obtain ⟨a,xs,e1,hq,hl,hw⟩:=hw
 subst e1
 cases r
 obtain ⟨its,rv,ht,hz⟩:=I.tuple hq
 refine assign_Tuple_tuple (I.ok.hd hc) ht (by simp [hn,<- hl,rv.length]) hst fun h' hx=>?_
 have I1:Inv X pins σ H {s with heap:=h'}:=I.kept (t':=s.toks) fun b o e=>hx b o (Nat.ne_of_lt (Heap.lt_size e)) e
 exact h pins _ σ H xs _ Q I1 (by simpa using rv) hw
noncomputable def yA (to ti:TE) (t:xb):TG:=fun v σ H Q=>to σ H fun o H1=>ti σ H1 fun i H2=>t o i v H2 fun H3=>Q σ H3
theorem wB {o i:Expr} {to ti:TE} {t:xb} (ho:PE X o to) (hi:PE X i ti) (hs:yc X t)
  (ha: ∀ v,assign (.Subscript o i pos) X.env v=(do
   let ov <- holding [v] (eval o X.env)
   let iv <- holding [v,ov] (eval i X.env)
   standAt pos
   holding [v,ov,iv] (setItem ov iv v)
   release [v,ov,iv] []):=by intro _;rfl):PG X (.Subscript o i pos) (yA to ti t):=by
 intro pins s σ H v u Q I r h
 rw [ha]
 refine wpAny_bind (wpAny_holding (thn (ho pins s σ H _ I h) fun ov s1 ⟨x,H1,I1,r1,q1⟩=>?_))
 refine wpAny_bind (wpAny_holding (thn (hi pins s1 σ H1 _ I1 q1) fun iv s2 ⟨y,H2,I2,r2,q2⟩=>?_))
 refine wpAny_bind (wpAny_standAt (wpAny_bind (wpAny_holding (thn (hs pins s2 σ H2 x y v ov iv u _ I2 r1 r2 r q2) fun _ s3 ⟨H3,I3,q3⟩=>?_))))
 exact wpAny_release ⟨σ,H3,I3,q3⟩
noncomputable def ml (te:TE) (g:TG):TS:=fun D σ H=>te σ H fun x H1=>g x σ H1 D.nx
theorem wz {tg e:Expr} {te:TE} {g:TG} (he:PE X e te) (hg:PG X tg g) (hs:swapsWithSole [tg] e pos.line X.env=pure false:=by rfl) (hw:swappedStores [tg] e X.env=pure none:=by rfl)
  (h1:(assignEach [tg] X.env).map (·.2)=[assign tg X.env]:=by rfl):PS X (.Assign [tg] e pos) (ml te g):=by
 intro pins s σ H D I h
 refine wpAny_Assign_stores (thn (he pins s σ H _ I h) fun v s1 ⟨x,H1,I1,r1,q1⟩=>?_) hs hw
 rw [h1]
 exact thn (hg pins s1 σ H1 x v _ I1 r1 q1) fun _ s2 q=>q
theorem aq {i:Nat} {x:Str} {e:Expr} {te:TE} {pos':Pos} (hN:X.N.Nodup) (hi:X.N[i]? =some x) (hx:Loc X.env.scope x) (he:PE X e te) (hs:swapsWith e (some (.Name x pos')) pos.line X.env=pure false:=by rfl) (hf:X.fn x=true\/X.env.scope.names.lookup x=some .local:=by first | exact .inl rfl | exact .inr rfl | assumption):
  PS X (.Assign [.Name x pos'] e pos) (ml te (eW i)):=by
 intro pins s σ H D I h
 refine wpAny_Assign_Name (thn (he pins s σ H _ I h) fun v s1 ⟨y,H1,I1,r1,q1⟩=>?_) hs
 exact cX I1 hN hi hx r1 (fun s2 I2=>⟨_,H1,I2,q1⟩) hf
inductive xy (i:Nat) (te:TE) (ti:TIp) (D:eR) (σ:St) (H:Hp):Prop
 | mk: ∀ x,(σ[i]? =some (some x))->(te σ H fun y H1=>ti x y H1 fun z H2=>D.nx (σ.set i (some z)) H2)->xy i te ti D σ H
theorem wx {i:Nat} {x:Str} {e:Expr} {te:TE} {op:Operator} {ti:TIp} {pos':Pos} (hN:X.N.Nodup) (hi:X.N[i]? =some x) (hx:Loc X.env.scope x) (he:PE X e te) (ho:PIp X op ti) (hf:X.fn x=true\/X.env.scope.names.lookup x=some .local:=by first | exact .inl rfl | exact .inr rfl | assumption):
  PS X (.AugAssign (.Name x pos') op e pos) (xy i te ti):=by
 intro pins s σ H D I h
 obtain ⟨v,e1,h⟩:=h
 obtain ⟨m,hn,hl⟩:=I.loc
 have vis:Vis X.env.scope x:=by rcases hx with k | k;exact .inl k;exact .inr (.inl k)
 obtain ⟨u,r,l⟩:=hl i x v hi e1 vis
 refine wpAny_AugAssign_Name ?_
 have go:wpAny (model X.prog X.w) X.A (eval e X.env) (fun w s₂=>wpAny (model X.prog X.w) X.A (inplaceOp op u w) (fun r s₃=>wpAny (model X.prog X.w) X.A (storeName X.env x r) (fun _=>SP X pins D .next) X.xe s₃) X.xe s₂) X.xe s:=by
  refine thn (he pins s σ H _ I h) fun w s1 ⟨y,H1,I1,r1,q1⟩=>?_
  refine thn (ho pins s1 σ H1 v y u w _ I1 r r1 q1) fun z s2 ⟨zv,H2,I2,r2,q2⟩=>?_
  exact cX I2 hN hi hx r2 (fun s3 I3=>⟨_,H2,I3,q2⟩) hf
 rcases l with ⟨hk,hm⟩ | ⟨hk,c,hc,hcell⟩
 ·exact wpAny_loadName_local I.ok.kind hk hn hm go
 ·rcases hk with hk | hk
  ·exact wpAny_loadName_cell I.ok.kind hk hc hcell go
  ·rcases hx with k | k
   ·have:X.env.scope.names.lookup x=some .free:=hk
    rw [k]at this;cases this
   ·have:X.env.scope.names.lookup x=some .free:=hk
    rw [k]at this;cases this
inductive ipI (f:Int->Int->Int) (x:V) (y:V) (H:Hp) (Q:VK):Prop
 | mk: ∀ i j,(x=.int i)->(y=.int j)->(Q (.int (f i j)) H)->ipI f x y H Q
theorem wS:PIp X .Add (ipI fun i j=>i+j):=by
 intro pins s σ H x y v u Q I r1 r2 h
 obtain ⟨i,j,e1,e2,q⟩:=h
 subst e1;subst e2
 obtain ⟨t,rfl⟩:=r1
 obtain ⟨t',rfl⟩:=r2
 exact iadd_int ⟨.int _,H,I.tok _,⟨_,rfl⟩,q⟩
end
section
variable {X:Cx} {pos:Pos}
inductive nP (c:TT) (tb:TS) (D:eR) (σ:St) (H:Hp):Prop
 | mk: ∀ (W:Nat->St->Hp->Prop),((∃ m,W m σ H))->(∀ m σ H,W m σ H->c σ H fun b H1=>if b=true then ∃ N:St->Hp->Prop,(∀ σ' H',N σ' H'-> ∃ m',m'<m/\W m' σ' H')/\tb {D with nx:=N,ct:=N,bk:=D.nx} σ H1 else D.nx σ H1)->nP c tb D σ H
theorem gN {c:Expr} {body:List Stmt} {tc:TT} {tb:TS} (hp:PassesOwn (model X.prog X.w) X.A X.env X.xe) (hc:PT X c tc) (hb:PSs X body tb):PS X (.While c body [] pos) (nP tc tb):=by
 intro pins s σ H D I h
 obtain ⟨W,⟨m0,w0⟩,turn⟩:=h
 refine wpAny_While (codeAny_whileLoop (fun n s'=> ∃ σ' H',Inv X pins σ' H' s'/\W n σ' H') ?_ m0 ⟨σ,H,I,w0⟩)
 rintro n s1 ⟨σ1,H1,I1,w1⟩
 refine wpAny_passesOwn hp (thn (hc pins s1 σ1 H1 _ I1 (turn n σ1 H1 w1)) fun b s2 ⟨H2,I2,q2⟩=>?_)
 cases b with
 | true=>
  obtain ⟨N,hN,q2⟩:=q2
  rw [if_pos rfl]
  refine wpAny_passesOwn hp (thn (hb pins s2 σ1 H2 _ I2 q2) fun f s3 q3=>?_)
  cases f with
  | next=>
   obtain ⟨σ3,H3,I3,n3⟩:=q3
   obtain ⟨m',hm,w3⟩:=hN σ3 H3 n3
   exact ⟨m',hm,σ3,H3,I3,w3⟩
  | cont=>
   obtain ⟨σ3,H3,I3,n3⟩:=q3
   obtain ⟨m',hm,w3⟩:=hN σ3 H3 n3
   exact ⟨m',hm,σ3,H3,I3,w3⟩
  | brk=>exact q3
  | ret v=>exact q3
 | false=>
  rw [if_neg Bool.false_ne_true]
  exact wpAny_execs_nil ⟨σ1,H2,I2,q2⟩
end
structure It where
 go:Nat->Hp->Prop
 yld:Nat->Hp->V->Hp->Prop
 stop:Nat->Hp->Prop
noncomputable def iN (X:Cx) (pins:List (Addr×Obj)) (H:Hp) (b:Addr):Prop:=
 H b=none/\b≠X.env.locals/\b∉X.fs/\(b∈X.ex\/X.s₀.heap.objs.size<=b)/\(∀ x c,X.env.cells.lookup x=some c->c≠b)/\ ∀ p∈X.pn++pins,p.1≠b
theorem Inv.fpOk {X:Cx} {pins:List (Addr×Obj)} {σ:St} {H H':Hp} {s:Shared} {b:Addr} (I:Inv X pins σ H s) (hb:s.heap.objs.size<=b) (hn:H' b=none):iN X pins H' b:=by
 refine ⟨hn,Nat.ne_of_gt (Nat.lt_of_lt_of_le I.lt hb),I.nofs hb,.inr (Nat.le_trans I.sz hb),fun x c e z=>?_,fun p hp z=>?_⟩
 ·obtain ⟨v,q⟩:=I.cell x c e
  exact absurd (Nat.lt_of_lt_of_le q.lt (by rw [z];exact hb)) (Nat.lt_irrefl _)
 ·exact absurd (Nat.lt_of_lt_of_le (Heap.lt_size (I.pin p hp).1) (by rw [z];exact hb)) (Nat.lt_irrefl _)
structure nG (P:Program) (w:World) (K:PySem.W.Frag) (tg:Expr) (J:It) (fp:List Addr) (it:Addr) (tn:Nat->Heap->Prop):Prop where
 mem:it∈fp
 obj: ∀ i h,tn i h-> ∀ b∈fp,∃ o,h.get? b=some o/\ ∀ v,o.data≠ .cell v
 keep: ∀ i h h',tn i h->(∀ b∈fp,∀ o,h.get? b=some o->h'.get? b=some o)->tn i h'
 item: ∀ (X:Cx),X.prog=P->X.w=w->X.K=K->X.calm=true-> ∀ (i:Nat) (pins:List (Addr×Obj)) (s:Shared) (σ:St) (H:Hp) (E:Value->Shared->Prop),Inv X pins σ H s->(∀ b∈fp,iN X pins H b)->tn i s.heap->J.go i H->
  wpAny (model P w) X.A (pyNext (.ref it)) (fun r s1=> ∃ u,r=some u/\
   wpAny (model P w) X.A (letOwnedTupleGo tg (.ref it) u) (fun _ s2=> ∃ x H',Inv X pins σ H' s2/\RelV x u/\J.yld i H x H'/\tn (i+1) s2.heap/\ ∀ b∈fp,H' b=none) E s1) E s
 done: ∀ (X:Cx),X.prog=P->X.w=w->X.K=K->X.calm=true-> ∀ (i:Nat) (pins:List (Addr×Obj)) (s:Shared) (σ:St) (H:Hp) (E:Value->Shared->Prop),Inv X pins σ H s->(∀ b∈fp,iN X pins H b)->tn i s.heap->J.stop i H->
  wpAny (model P w) X.A (pyNext (.ref it)) (fun r s1=>r=none/\Inv X pins σ H s1) E s
 self: ∀ (A:Around) (i:Nat) (s:Shared) (Q:Value->Shared->Prop) (E:Value->Shared->Prop),tn i s.heap->Q (.ref it) s->wpAny (model P w) A (pyIter (.ref it)) Q E s
noncomputable abbrev TI:=St->Hp->(It->Hp->Prop)->Prop
inductive PIE (X:Cx) (pins:List (Addr×Obj)) (σ:St) (tg:Expr) (R:It->Hp->Prop) (itv:Value) (s2:Shared):Prop
 | mk: ∀ (it:Addr) (fp:List Addr) (tn:Nat->Heap->Prop) (J:It) (H':Hp),(itv=.ref it)->(Inv X pins σ H' s2)->(nG X.prog X.w X.K tg J fp it tn)->(tn 0 s2.heap)->((∀ b∈fp,iN X pins H' b))->(R J H')->PIE X pins σ tg R itv s2
noncomputable def PI (X:Cx) (tg iter:Expr) (wi:TI):Prop:=
 ∀ (pins:List (Addr×Obj)) (s:Shared) (σ:St) (H:Hp) (R:It->Hp->Prop),Inv X pins σ H s->wi σ H R->
  wpAny (model X.prog X.w) X.A (eval iter X.env) (fun v s1=>wpAny (model X.prog X.w) X.A (pyIter v) (PIE X pins σ tg R) X.xe s1) X.xe s
theorem nw {M:Model} {A:Around} {E:Value->Shared->Prop} {s:Shared} {tg:Expr} {it:Addr} {u:Value} {o:Obj} {n:String} {vs:Array Value} {Q:Unit->Shared->Prop} (ho:s.heap.get? it=some o) (hc:o.cls=.type n) (hd:o.data=.fields vs)
  (hn:["enumerate","zip","dict_itemiterator","dict_reverseitemiterator","odict_iterator","itertools.zip_longest","itertools.pairwise"].contains n=false) (hQ:Q () s):wpAny M A (letOwnedTupleGo tg (.ref it) u) Q E s:=by
 unfold letOwnedTupleGo
 cases tg <;> first
  | exact wpAny_pure hQ
  | (cases u <;> first
    | exact wpAny_pure hQ
    | (refine wpAny_bind (wpAny_load ho ?_)
       rw [hc,hd]
       show wpAny M A (if (["enumerate","zip","dict_itemiterator","dict_reverseitemiterator","odict_iterator","itertools.zip_longest","itertools.pairwise"].contains n&&vs[0]? ==some (rawInt _))=true then _ else _) Q E s
       rw [if_neg (by intro h;rw [hn,Bool.false_and]at h;cases h)]
       exact wpAny_pure hQ))
noncomputable def Itl (K:PySem.W.Frag) (a:Addr):It:=
 ⟨fun i H=> ∃ xs x,SqL K H a xs/\xs[i]? =some x,fun i H x H'=>H'=H/\ ∀ xs,SqL K H a xs->xs[i]? =some x,fun i H=> ∃ xs,SqL K H a xs/\xs.length<=i⟩
noncomputable def Itt (K:PySem.W.Frag) (a:Addr):It:=
 ⟨fun i H=> ∃ xs x,SqT K H a xs/\xs[i]? =some x,fun i H x H'=>H'=H/\ ∀ xs,SqT K H a xs->xs[i]? =some x,fun i H=> ∃ xs,SqT K H a xs/\xs.length<=i⟩
noncomputable def Itr (lo:Int) (n:Nat):It:=⟨fun i _=>i<n,fun i H x H'=>H'=H/\x=.int (lo+i),fun i _=>n<=i⟩
theorem qm {P:Program} {w:World} {K:PySem.W.Frag} {tg:Expr} (a it:Addr):nG P w K tg (Itl K a) [it] it (fun i h=>h.IsListIter it a i) where
 mem:=by simp
 obj:=fun i h st b hb=>by
  have e:b=it:=by simpa using hb
  subst e
  obtain ⟨o,e,c,d⟩:=st
  exact ⟨o,e,fun v z=>by rw [d]at z;cases z⟩
 keep:=fun i h h' st k=>st.at fun o e=>k it (by simp) o e
 item:=by
  intro X hP hw hK hc i pins s σ H E I hf st hg
  subst hP hw hK
  obtain ⟨xs,x,hq,hx⟩:=hg
  obtain ⟨its,rv,p,hz⟩:=I.list hq
  obtain ⟨u,hu,ru⟩:=rv.get hx
  obtain ⟨f0,f1,f2,f3,f4,f5⟩:=hf it (by simp)
  refine wpAny_pyNext_list_item st p.isList (x:=u) (by simpa using hu) fun h' st' sb=>?_
  have I1:Inv X pins σ H {s with heap:=h'}:=I.turned (t':=s.toks) (fun b o hb e=>(sb.2 b hb).trans e) f0 f1 f3 f4 f5
  obtain ⟨o,e,c,d⟩:=id st'
  exact ⟨u,rfl,nw (s:={s with heap:=h'}) e c d (by decide) ⟨x,H,I1,ru,⟨rfl,fun ys hy=>by rw [I.list_inj hy hq];exact hx⟩,st',fun b hb=>(hf b hb).1⟩⟩
 done:=by
  intro X hP hw hK hc i pins s σ H E I hf st hg
  subst hP hw hK
  obtain ⟨xs,hq,hx⟩:=hg
  obtain ⟨its,rv,p,hz⟩:=I.list hq
  obtain ⟨f0,f1,f2,f3,f4,f5⟩:=hf it (by simp)
  have hl:=rv.length
  exact wpAny_pyNext_list_end (I.ok.hd hc) st p.isList (by simp;lia) fun h' eb=>⟨rfl,I.turned (t':=s.toks) (fun b o hb e=>eb b o hb e) f0 f1 f3 f4 f5⟩
 self:=fun _ _ _ _ _ st h=>wpAny_pyIter_listiter st h
theorem nM {P:Program} {w:World} {K:PySem.W.Frag} {tg:Expr} (a it:Addr):nG P w K tg (Itt K a) [it] it (fun i h=>h.IsTupleIter it a i) where
 mem:=by simp
 obj:=fun i h st b hb=>by
  have e:b=it:=by simpa using hb
  subst e
  obtain ⟨o,e,c,d⟩:=st
  exact ⟨o,e,fun v z=>by rw [d]at z;cases z⟩
 keep:=fun i h h' st k=>st.at fun o e=>k it (by simp) o e
 item:=by
  intro X hP hw hK hc i pins s σ H E I hf st hg
  subst hP hw hK
  obtain ⟨xs,x,hq,hx⟩:=hg
  obtain ⟨its,rv,p,hz⟩:=I.tuple hq
  obtain ⟨u,hu,ru⟩:=rv.get hx
  obtain ⟨f0,f1,f2,f3,f4,f5⟩:=hf it (by simp)
  refine wpAny_pyNext_tuple_item st (show s.heap.IsTuple a its.toArray from p) (x:=u) (by simpa using hu) fun h' st' sb=>?_
  have I1:Inv X pins σ H {s with heap:=h'}:=I.turned (t':=s.toks) (fun b o hb e=>(sb.2 b hb).trans e) f0 f1 f3 f4 f5
  obtain ⟨o,e,c,d⟩:=id st'
  exact ⟨u,rfl,nw (s:={s with heap:=h'}) e c d (by decide) ⟨x,H,I1,ru,⟨rfl,fun ys hy=>by rw [I.tuple_inj hy hq];exact hx⟩,st',fun b hb=>(hf b hb).1⟩⟩
 done:=by
  intro X hP hw hK hc i pins s σ H E I hf st hg
  subst hP hw hK
  obtain ⟨xs,hq,hx⟩:=hg
  obtain ⟨its,rv,p,hz⟩:=I.tuple hq
  obtain ⟨f0,f1,f2,f3,f4,f5⟩:=hf it (by simp)
  have hl:=rv.length
  exact wpAny_pyNext_tuple_end (I.ok.hd hc) st (show s.heap.IsTuple a its.toArray from p) (by simp;lia) fun h' eb=>⟨rfl,I.turned (t':=s.toks) (fun b o hb e=>eb b o hb e) f0 f1 f3 f4 f5⟩
 self:=fun _ _ _ _ _ st h=>wpAny_pyIter_tupleiter st h
theorem nN {P:Program} {w:World} {K:PySem.W.Frag} {tg:Expr} (it:Addr) (lo:Int) (n:Nat):nG P w K tg (Itr lo n) [it] it (fun i h=>IsRangeIter h it (lo+ (i:Nat) *1) ((n:Int) - (i:Nat)) 1) where
 mem:=by simp
 obj:=fun i h st b hb=>by
  have e:b=it:=by simpa using hb
  subst e
  exact ⟨_,st,fun v z=>by
   have z':Data.fields _=Data.cell v:=z
   cases z'⟩
 keep:=fun i h h' st k=>k it (by simp) _ st
 item:=by
  intro X hP hw hK hc i pins s σ H E I hf st hg
  subst hP hw hK
  obtain ⟨f0,f1,f2,f3,f4,f5⟩:=hf it (by simp)
  have W:=Walks.range (prog:=X.prog) (w:=X.w) (I.ok.hd hc) it lo 1 n
  refine W.item i s _ _ hg st fun v h' tk hv st' kk=>?_
  obtain ⟨t,rfl⟩:=hv
  have I1:Inv X pins σ H {s with heap:=h',toks:=tk}:=I.turned (fun b o hb e=>kk b o (by simpa using hb) e) f0 f1 f3 f4 f5
  refine ⟨_,rfl,nw (s:={s with heap:=h',toks:=tk}) (n:="range_iterator") st' rfl rfl (by decide) ⟨.int (lo+i),H,I1,⟨t,?_⟩,⟨rfl,rfl⟩,st',fun b hb=>(hf b hb).1⟩⟩
  rw [Int.mul_one]
 done:=by
  intro X hP hw hK hc i pins s σ H E I hf st hg
  subst hP hw hK
  obtain ⟨f0,f1,f2,f3,f4,f5⟩:=hf it (by simp)
  exact wpAny_pyNext_range_end (I.ok.hd hc) st (by have:n<=i:=hg;lia) fun h' eb=>⟨rfl,I.turned (t':=s.toks) (fun b o hb e=>eb b o hb e) f0 f1 f3 f4 f5⟩
 self:=fun _ _ _ _ _ st h=>wpAny_pyIter_rangeiter st h
section
variable {X:Cx} {tg:Expr}
noncomputable def xR (K:PySem.W.Frag) (tl:TE):TI:=fun σ H R=>tl σ H fun x H1=> ∃ a,x=.ref a/\(∃ xs,SqL K H1 a xs)/\R (Itl K a) H1
noncomputable def yr (K:PySem.W.Frag) (tl:TE):TI:=fun σ H R=>tl σ H fun x H1=> ∃ a,x=.ref a/\(∃ xs,SqT K H1 a xs)/\R (Itt K a) H1
theorem pG {l:Expr} {tl:TE} (hl:PE X l tl):PI X tg l (xR X.K tl):=by
 intro pins s σ H R I h
 refine thn (hl pins s σ H _ I h) fun v s1 ⟨x,H1,I1,r1,q1⟩=>?_
 obtain ⟨a,e,⟨xs,hq⟩,q⟩:=q1
 subst e
 cases r1
 obtain ⟨its,rv,p,hz⟩:=I1.list hq
 refine wpAny_pyIter_list p.isList ?_
 refine ⟨s1.heap.objs.size,[s1.heap.objs.size],_,_,H1,rfl,I1.kept (t':=s1.toks) fun b o e=>Heap.get?_push_of_some _ e,qm a _,⟨_,Heap.get?_push_size _ rfl,rfl,rfl⟩,fun b hb=>?_,q⟩
 have e:b=s1.heap.objs.size:=by simpa using hb
 subst e
 exact I1.fpOk (Nat.le_refl _) (I1.hok.fresh (Nat.le_refl _))
theorem bZ {l:Expr} {tl:TE} (hl:PE X l tl):PI X tg l (yr X.K tl):=by
 intro pins s σ H R I h
 refine thn (hl pins s σ H _ I h) fun v s1 ⟨x,H1,I1,r1,q1⟩=>?_
 obtain ⟨a,e,⟨xs,hq⟩,q⟩:=q1
 subst e
 cases r1
 obtain ⟨its,rv,p,hz⟩:=I1.tuple hq
 refine wpAny_pyIter_tuple (show s1.heap.IsTuple a its.toArray from p) ?_
 refine ⟨s1.heap.objs.size,[s1.heap.objs.size],_,_,H1,rfl,I1.kept (t':=s1.toks) fun b o e=>Heap.get?_push_of_some _ e,nM a _,⟨_,Heap.get?_push_size _ rfl,rfl,rfl⟩,fun b hb=>?_,q⟩
 have e:b=s1.heap.objs.size:=by simpa using hb
 subst e
 exact I1.fpOk (Nat.le_refl _) (I1.hok.fresh (Nat.le_refl _))
theorem sJ {pins:List (Addr×Obj)} {σ:St} {H:Hp} {s:Shared} {R:It->Hp->Prop} {E:Value->Shared->Prop} {lo hi:Int} {t u v:Tok} {tk:Nat} (I:Inv X pins σ H s) (h1: -(2^62)<=lo) (h2:lo<2^62) (h3: -(2^62)<=hi) (h4:hi<2^62)
  (q:R (Itr lo (hi-lo).toNat) H):wpAny (model X.prog X.w) X.A (pyIter (.ref s.heap.objs.size)) (PIE X pins σ tg R) E {s with heap:=s.heap.push {cls:=.type "range",data:=.fields #[.int lo t,.int hi u,.int 1 v]},toks:=tk}:=by
 refine wpAny_pyIter_range (IsRange.new ..) (small_one h1 h2 h3 h4) ?_
 have I1:Inv X pins σ H {s with heap:=s.heap.push {cls:=.type "range",data:=.fields #[.int lo t,.int hi u,.int 1 v]},toks:=tk}:=I.kept fun b o e=>Heap.get?_push_of_some _ e
 refine ⟨(s.heap.push {cls:=.type "range",data:=.fields #[.int lo t,.int hi u,.int 1 v]}).objs.size,[(s.heap.push {cls:=.type "range",data:=.fields #[.int lo t,.int hi u,.int 1 v]}).objs.size],_,_,H,rfl,
  I1.kept (t':=tk) fun b o e=>Heap.get?_push_of_some _ e,nN _ lo (hi-lo).toNat,?_,fun b hb=>?_,q⟩
 ·have e1:lo+ ((0:Nat):Int) *1=lo:=by simp
  have e2:(((hi-lo).toNat:Nat):Int) - ((0:Nat):Int)=Builtin.Range.rangeSize lo hi 1:=by rw [rangeSize_one];split <;> lia
  show IsRangeIter _ _ (lo+ ((0:Nat):Int) *1) ((((hi-lo).toNat:Nat):Int) - ((0:Nat):Int)) 1
  rw [e1,e2]
  exact Heap.get?_push_size _ rfl
 ·have e:b=(s.heap.push {cls:=.type "range",data:=.fields #[.int lo t,.int hi u,.int 1 v]}).objs.size:=by simpa using hb
  subst e
  exact I1.fpOk (Nat.le_refl _) (I1.hok.fresh (Nat.le_refl _))
noncomputable def xQ (ta:TA):TI:=fun σ H R=>ta σ H fun vs H1=> ∃ j:Int,vs=[.int j]/\ -(2^62)<=j/\j<2^62/\R (Itr 0 j.toNat) H1
theorem bp {a:Expr} {ta:TA} {p pos:Pos} (hg:Gl X "range") (hm:X.mg "range"=none) (ha:PA X [a] ta) (hs:starEach [a] X.env=[(false,eval a X.env)]:=by rfl):PI X tg (.Call (.Name "range" p) [a] [] pos) (xQ ta):=by
 intro pins s σ H R I h
 refine Call_ (dA I hg hm boot_range (PyProof.Rows.callWith_type1 (thn (ha pos pins s σ H _ I h) fun us s1 ⟨vs,H1,I1,r1,q1⟩=>?_) hs rfl))
 obtain ⟨j,e,q1,q2,q⟩:=q1
 subst e
 cases r1 with
 | cons r rr=>
  cases rr
  obtain ⟨t,rfl⟩:=r
  exact call_range_1 (sJ I1 (by lia) (by lia) q1 q2 (by simpa using q))
noncomputable def xu (wi:TI) (g:TG) (tb:TS):TS:=fun D σ H=>wi σ H fun J H1=> ∃ W:Nat->Nat->St->Hp->Prop,(∃ m,W 0 m σ H1)/\ ∀ i m σ H,W i m σ H->
 (J.stop i H/\D.nx σ H)\/(J.go i H/\ ∃ N:St->Hp->Prop,(∀ σ' H',N σ' H'-> ∃ m',m'<m/\W (i+1) m' σ' H')/\ ∀ x H',J.yld i H x H'->g x σ H' fun σ2 H2=>tb {D with nx:=N,ct:=N,bk:=D.nx} σ2 H2)
noncomputable def jf (fp:List Addr) (h:Heap):List (Addr×Obj):=fp.filterMap fun b=>(h.get? b).map fun o=>(b,o)
theorem br {fp:List Addr} {h:Heap} {b:Addr} {o:Obj} (hb:b∈fp) (e:h.get? b=some o):(b,o)∈jf fp h:=List.mem_filterMap.mpr ⟨b,hb,by rw [e];rfl⟩
theorem qR {fp:List Addr} {h:Heap} {p:Addr×Obj} (hp:p∈jf fp h):p.1∈fp/\h.get? p.1=some p.2:=by
 obtain ⟨b,hb,e⟩:=List.mem_filterMap.mp hp
 cases q:h.get? b with
 | none=>rw [q]at e;cases e
 | some o=>
  rw [q]at e
  have e':(b,o)=p:=Option.some.inj e
  subst e'
  exact ⟨hb,q⟩
theorem Inv.pinned {pins:List (Addr×Obj)} {σ:St} {H:Hp} {s:Shared} {fp:List Addr} (I:Inv X pins σ H s) (hf: ∀ b∈fp,iN X pins H b) (ho: ∀ b∈fp,∃ o,s.heap.get? b=some o/\ ∀ v,o.data≠ .cell v):Inv X (pins++jf fp s.heap) σ H s:=
 I.pins_of fun p hp=>(List.mem_append.mp hp).elim (fun z=>I.pin p (List.mem_append_right _ z)) fun z=>by
  obtain ⟨hb,e⟩:=qR z
  obtain ⟨f0,f1,f2,_⟩:=hf p.1 hb
  obtain ⟨o,e',d⟩:=ho p.1 hb
  rw [e]at e';cases e'
  exact ⟨e,f0,f1,f2,d⟩
theorem Inv.unpinned {pins pl:List (Addr×Obj)} {σ:St} {H:Hp} {s:Shared} (I:Inv X (pins++pl) σ H s):Inv X pins σ H s:=I.pins_of fun p hp=>I.pin p (List.mem_append_right _ (List.mem_append_left _ hp))
theorem cr {iter:Expr} {body:List Stmt} {wi:TI} {g:TG} {tb:TS} {pos:Pos} (hp:PassesOwn (model X.prog X.w) X.A X.env X.xe) (hc:X.calm=true) (hi:PI X tg iter wi) (hg:PG X tg g) (hb:PSs X body tb)
  (hs: ∀ x,foldedSetIterable iter X.env x=pure x:=by intro _;rfl):PS X (.For tg iter body [] pos) (xu wi g tb):=by
 intro pins s σ H D I h
 refine wpAny_For (thn (hi pins s σ H _ I h) fun v s1 h1=>thn h1 fun itv s2 h2=>?_) hs
 obtain ⟨it,fp,tn,J,H2,e,I2,T,st2,f2,W,⟨m0,w0⟩,turn⟩:=h2
 subst e
 have stat: ∀ {H':Hp},(∀ b∈fp,H' b=none)-> ∀ b∈fp,iN X pins H' b:=fun hn b hb=>⟨hn b hb,(f2 b hb).2⟩
 refine codeAny_forLoop_any (fun n s'=> ∃ i σ' H',Inv X pins σ' H' s'/\tn i s'.heap/\(∀ b∈fp,H' b=none)/\W i n σ' H') ?_ m0 ⟨0,σ,H2,I2,st2,fun b hb=>(f2 b hb).1,w0⟩
 rintro n s3 ⟨i,σ3,H3,I3,st3,fr3,w3⟩
 rcases turn i n σ3 H3 w3 with ⟨stop,qn⟩ | ⟨go,N,hN,step⟩
 ·refine wpAny_passesOwn hp (thn (T.done X rfl rfl rfl hc i pins s3 σ3 H3 X.xe I3 (stat fr3) st3 stop) fun r s4 ⟨hr,I4⟩=>?_)
  subst hr
  exact wpAny_execs_nil ⟨σ3,H3,I4,qn⟩
 ·refine wpAny_passesOwn hp (thn (T.item X rfl rfl rfl hc i pins s3 σ3 H3 X.xe I3 (stat fr3) st3 go) fun r s4 ⟨u,hr,h4⟩=>?_)
  subst hr
  refine wpAny_passesOwn hp (thn h4 fun _ s5 ⟨x,H5,I5,r5,y5,st5,fr5⟩=>?_)
  have I5':=I5.pinned (stat fr5) (T.obj _ _ st5)
  refine wpAny_passesOwn hp (thn (hg _ s5 σ3 H5 x u _ I5' r5 (step x H5 y5)) fun _ s6 ⟨σ6,H6,I6,q6⟩=>?_)
  refine wpAny_passesOwn hp (thn (hb _ s6 σ6 H6 _ I6 q6) fun f s7 q7=>?_)
  have again: ∀ {σ7:St} {H7:Hp},Inv X (pins++jf fp s5.heap) σ7 H7 s7->N σ7 H7-> ∃ m,m<n/\ ∃ i σ' H',Inv X pins σ' H' s7/\tn i s7.heap/\(∀ b∈fp,H' b=none)/\W i m σ' H':=fun {σ7 H7} I7 n7=>by
   obtain ⟨m',hm,w7⟩:=hN σ7 H7 n7
   refine ⟨m',hm,i+1,σ7,H7,I7.unpinned,T.keep _ _ _ st5 fun b hb o e=>(I7.pin (b,o) (List.mem_append_right _ (List.mem_append_right _ (br hb e)))).1,fun b hb=>?_,w7⟩
   obtain ⟨o,e,d⟩:=T.obj _ _ st5 b hb
   exact (I7.pin (b,o) (List.mem_append_right _ (List.mem_append_right _ (br hb e)))).2.1
  cases f with
  | next=>obtain ⟨σ7,H7,I7,n7⟩:=q7;exact again I7 n7
  | cont=>obtain ⟨σ7,H7,I7,n7⟩:=q7;exact again I7 n7
  | brk=>obtain ⟨σ7,H7,I7,q7⟩:=q7;exact ⟨σ7,H7,I7.unpinned,q7⟩
  | ret v=>obtain ⟨x7,σ7,H7,I7,r7,q7⟩:=q7;exact ⟨x7,σ7,H7,I7.unpinned,r7,q7⟩
end
theorem uh {K:PySem.W.Frag} {a:Addr} {xs:List V} {g:TG} {tb:TS} {D:eR} {σ:St} {H:Hp} (Pv:Nat->St->Hp->Prop) (h0:Pv 0 σ H) (hl: ∀ i σ H,i<=xs.length->Pv i σ H->SqL K H a xs)
  (hs: ∀ i x σ H,xs[i]? =some x->Pv i σ H->g x σ H fun σ2 H2=>tb {D with nx:=Pv (i+1),ct:=Pv (i+1),bk:=D.nx} σ2 H2) (hd: ∀ σ H,Pv xs.length σ H->D.nx σ H):
  ∃ W:Nat->Nat->St->Hp->Prop,(∃ m,W 0 m σ H)/\ ∀ i m σ H,W i m σ H->
   ((Itl K a).stop i H/\D.nx σ H)\/((Itl K a).go i H/\ ∃ N:St->Hp->Prop,(∀ σ' H',N σ' H'-> ∃ m',m'<m/\W (i+1) m' σ' H')/\ ∀ x H',(Itl K a).yld i H x H'->g x σ H' fun σ2 H2=>tb {D with nx:=N,ct:=N,bk:=D.nx} σ2 H2):=by
 refine ⟨fun i m σ H=>m=xs.length-i/\i<=xs.length/\Pv i σ H,⟨xs.length,by simp,Nat.zero_le _,h0⟩,?_⟩
 rintro i m σ H ⟨rfl,hi,p⟩
 have q:=hl i σ H hi p
 by_cases hlt:i<xs.length
 ·refine .inr ⟨⟨xs,xs[i],q,by simp [hlt]⟩,Pv (i+1),fun σ' H' p'=>⟨xs.length- (i+1),by lia,rfl,hlt,p'⟩,fun x H' y=>?_⟩
  obtain ⟨e,y⟩:=y
  subst e
  exact hs i x σ _ (y xs q) p
 ·have e:i=xs.length:=by lia
  subst e
  exact .inl ⟨⟨xs,q,Nat.le_refl _⟩,hd σ H p⟩
theorem dJ {K:PySem.W.Frag} {a:Addr} {xs:List V} {g:TG} {tb:TS} {D:eR} {σ:St} {H:Hp} (Pv:Nat->St->Hp->Prop) (h0:Pv 0 σ H) (hl: ∀ i σ H,i<=xs.length->Pv i σ H->SqT K H a xs)
  (hs: ∀ i x σ H,xs[i]? =some x->Pv i σ H->g x σ H fun σ2 H2=>tb {D with nx:=Pv (i+1),ct:=Pv (i+1),bk:=D.nx} σ2 H2) (hd: ∀ σ H,Pv xs.length σ H->D.nx σ H):
  ∃ W:Nat->Nat->St->Hp->Prop,(∃ m,W 0 m σ H)/\ ∀ i m σ H,W i m σ H->
   ((Itt K a).stop i H/\D.nx σ H)\/((Itt K a).go i H/\ ∃ N:St->Hp->Prop,(∀ σ' H',N σ' H'-> ∃ m',m'<m/\W (i+1) m' σ' H')/\ ∀ x H',(Itt K a).yld i H x H'->g x σ H' fun σ2 H2=>tb {D with nx:=N,ct:=N,bk:=D.nx} σ2 H2):=by
 refine ⟨fun i m σ H=>m=xs.length-i/\i<=xs.length/\Pv i σ H,⟨xs.length,by simp,Nat.zero_le _,h0⟩,?_⟩
 rintro i m σ H ⟨rfl,hi,p⟩
 have q:=hl i σ H hi p
 by_cases hlt:i<xs.length
 ·refine .inr ⟨⟨xs,xs[i],q,by simp [hlt]⟩,Pv (i+1),fun σ' H' p'=>⟨xs.length- (i+1),by lia,rfl,hlt,p'⟩,fun x H' y=>?_⟩
  obtain ⟨e,y⟩:=y
  subst e
  exact hs i x σ _ (y xs q) p
 ·have e:i=xs.length:=by lia
  subst e
  exact .inl ⟨⟨xs,q,Nat.le_refl _⟩,hd σ H p⟩
theorem cL {lo:Int} {n:Nat} {g:TG} {tb:TS} {D:eR} {σ:St} {H:Hp} (Pv:Nat->St->Hp->Prop) (h0:Pv 0 σ H)
  (hs: ∀ i σ H,i<n->Pv i σ H->g (.int (lo+i)) σ H fun σ2 H2=>tb {D with nx:=Pv (i+1),ct:=Pv (i+1),bk:=D.nx} σ2 H2) (hd: ∀ σ H,Pv n σ H->D.nx σ H):
  ∃ W:Nat->Nat->St->Hp->Prop,(∃ m,W 0 m σ H)/\ ∀ i m σ H,W i m σ H->
   ((Itr lo n).stop i H/\D.nx σ H)\/((Itr lo n).go i H/\ ∃ N:St->Hp->Prop,(∀ σ' H',N σ' H'-> ∃ m',m'<m/\W (i+1) m' σ' H')/\ ∀ x H',(Itr lo n).yld i H x H'->g x σ H' fun σ2 H2=>tb {D with nx:=N,ct:=N,bk:=D.nx} σ2 H2):=by
 refine ⟨fun i m σ H=>m=n-i/\i<=n/\Pv i σ H,⟨n,by simp,Nat.zero_le _,h0⟩,?_⟩
 rintro i m σ H ⟨rfl,hi,p⟩
 by_cases hlt:i<n
 ·refine .inr ⟨hlt,Pv (i+1),fun σ' H' p'=>⟨n- (i+1),by lia,rfl,hlt,p'⟩,fun x H' y=>?_⟩
  obtain ⟨e,y⟩:=y
  subst e y
  exact hs i σ _ hlt p
 ·have e:i=n:=by lia
  subst e
  exact .inl ⟨Nat.le_refl _,hd σ H p⟩
theorem l9 {c:TT} {tb:TS} {D:eR} {σ:St} {H:Hp} (Pv:St->Hp->Prop) (μ:St->Hp->Nat) (h0:Pv σ H)
  (hs: ∀ σ H,Pv σ H->c σ H fun b H1=>if b=true then tb {D with nx:=fun σ' H'=>Pv σ' H'/\μ σ' H'<μ σ H,ct:=fun σ' H'=>Pv σ' H'/\μ σ' H'<μ σ H,bk:=D.nx} σ H1 else D.nx σ H1)
  (mono: ∀ σ H Q Q',(∀ b H1,Q b H1->Q' b H1)->c σ H Q->c σ H Q'):nP c tb D σ H:=by
 refine ⟨fun m σ H=>m=μ σ H/\Pv σ H,⟨_,rfl,h0⟩,?_⟩
 rintro m σ H ⟨rfl,p⟩
 refine mono σ H _ _ (fun b H1 q=>?_) (hs σ H p)
 cases b with
 | true=>exact ⟨_,fun σ' H' ⟨p',l⟩=>⟨_,l,rfl,p'⟩,q⟩
 | false=>exact q
noncomputable abbrev R2:=V->V->Hp->VK->Prop
noncomputable def OpR (X:Cx) (f:Value->Value->Sem Value) (r:R2):Prop:=
 ∀ (pins:List (Addr×Obj)) (s:Shared) (σ:St) (H:Hp) (x y:V) (v u:Value) (Q:VK),Inv X pins σ H s->RelV x v->RelV y u->r x y H Q->
  wpAny (model X.prog X.w) X.A (f v u) (EP X pins σ Q) X.xe s
noncomputable def UnR (X:Cx) (f:Value->Sem Value) (r:V->Hp->VK->Prop):Prop:=
 ∀ (pins:List (Addr×Obj)) (s:Shared) (σ:St) (H:Hp) (x:V) (v:Value) (Q:VK),Inv X pins σ H s->RelV x v->r x H Q->
  wpAny (model X.prog X.w) X.A (f v) (EP X pins σ Q) X.xe s
noncomputable def dE (X:Cx) (f:Value) (r:List V->Hp->VK->Prop):Prop:=
 ∀ (pins:List (Addr×Obj)) (s:Shared) (σ:St) (H:Hp) (xs:List V) (us:List Value) (Q:VK),Inv X pins σ H s->Vals xs us->r xs H Q->
  wpAny (model X.prog X.w) X.A (call f us) (EP X pins σ Q) X.xe s
noncomputable def yK (X:Cx) (r:V->Hp->(Bool->Hp->Prop)->Prop):Prop:=
 ∀ (pins:List (Addr×Obj)) (s:Shared) (σ:St) (H:Hp) (x:V) (v:Value) (Q:Bool->Hp->Prop),Inv X pins σ H s->RelV x v->r x H Q->
  wpAny (model X.prog X.w) X.A (truthy v) (TP X pins σ Q) X.xe s
noncomputable def tOp (r:R2) (ta tb:TE):TE:=fun σ H Q=>ta σ H fun x H1=>tb σ H1 fun y H2=>r x y H2 Q
noncomputable def tUn (r:V->Hp->VK->Prop) (ta:TE):TE:=fun σ H Q=>ta σ H fun x H1=>r x H1 Q
inductive rI (C:Int->Int->Prop) (g:Int->Int->V) (x:V) (y:V) (H:Hp) (Q:VK):Prop
 | mk: ∀ i j,(x=.int i)->(y=.int j)->(C i j)->(Q (g i j) H)->rI C g x y H Q
inductive rI0 (g:Int->Int->V) (x:V) (y:V) (H:Hp) (Q:VK):Prop
 | mk: ∀ i j,(x=.int i)->(y=.int j)->(Q (g i j) H)->rI0 g x y H Q
inductive rU (g:Int->V) (x:V) (H:Hp) (Q:VK):Prop
 | mk: ∀ i,(x=.int i)->(Q (g i) H)->rU g x H Q
section
variable {X:Cx} {a b c:Expr} {ta tb tc:TE} {pos:Pos}
theorem xa (ha:PE X a ta) (hb:PE X b tb) {pins:List (Addr×Obj)} {s:Shared} {σ:St} {H:Hp} {R:V->V->Hp->Prop} (I:Inv X pins σ H s)
  (h:ta σ H fun x H1=>tb σ H1 fun y H2=>R x y H2) {Q:Value->Shared->Prop} {f:Value->Value->Sem Value}
  (hf: ∀ v u s2 x y H2,Inv X pins σ H2 s2->RelV x v->RelV y u->R x y H2->wpAny (model X.prog X.w) X.A (f v u) Q X.xe s2):
  wpAny (model X.prog X.w) X.A (eval a X.env) (fun v s₁=>wpAny (model X.prog X.w) X.A (eval b X.env) (fun u s₂=>wpAny (model X.prog X.w) X.A (f v u) Q X.xe s₂) X.xe s₁) X.xe s:=by
 refine thn (ha pins s σ H _ I h) fun v s1 ⟨x,H1,I1,r1,q1⟩=>?_
 refine thn (hb pins s1 σ H1 _ I1 q1) fun u s2 ⟨y,H2,I2,r2,q2⟩=>?_
 exact hf v u s2 x y H2 I2 r1 r2 q2
theorem ar {op:Operator} {r:R2} (ho:OpR X (binaryOp op) r) (ha:PE X a ta) (hb:PE X b tb):PE X (.BinOp a op b pos) (tOp r ta tb):=by
 intro pins s σ H Q I h
 exact wpAny_BinOp (xa ha hb I h fun v u s2 x y H2 I2 rx ry q=>ho pins s2 σ H2 x y v u Q I2 rx ry q)
theorem pH {op:UnaryOp} {r:V->Hp->VK->Prop} (ho:UnR X (unaryOp op) r) (ha:PE X a ta):PE X (.UnaryOp op a pos) (tUn r ta):=by
 intro pins s σ H Q I h
 exact UnaryOp_ (thn (ha pins s σ H _ I h) fun v s1 ⟨x,H1,I1,r1,q1⟩=>ho pins s1 σ H1 x v Q I1 r1 q1)
theorem opI {f:Value->Value->Sem Value} {C:Int->Int->Prop} {g:Int->Int->Int}
  (rule: ∀ (i j:Int) (t u:Tok) (s:Shared) (Q:Value->Shared->Prop) (E:Value->Shared->Prop),C i j->Q (.int (g i j) s.toks) {s with toks:=s.toks+1}->wpAny (model X.prog X.w) X.A (f (.int i t) (.int j u)) Q E s):
  OpR X f (rI C fun i j=>.int (g i j)):=by
 intro pins s σ H x y v u Q I rx ry h
 obtain ⟨i,j,rfl,rfl,hc,q⟩:=h
 obtain ⟨t,rfl⟩:=rx
 obtain ⟨t',rfl⟩:=ry
 exact rule i j t t' s _ _ hc ⟨.int (g i j),H,I.tok _,⟨_,rfl⟩,q⟩
theorem xI {f:Value->Value->Sem Value} {g:Int->Int->Int}
  (rule: ∀ (i j:Int) (t u:Tok) (s:Shared) (Q:Value->Shared->Prop) (E:Value->Shared->Prop),Q (.int (g i j) s.toks) {s with toks:=s.toks+1}->wpAny (model X.prog X.w) X.A (f (.int i t) (.int j u)) Q E s):
  OpR X f (rI0 fun i j=>.int (g i j)):=by
 intro pins s σ H x y v u Q I rx ry h
 obtain ⟨i,j,rfl,rfl,q⟩:=h
 obtain ⟨t,rfl⟩:=rx
 obtain ⟨t',rfl⟩:=ry
 exact rule i j t t' s _ _ ⟨.int (g i j),H,I.tok _,⟨_,rfl⟩,q⟩
theorem u4 {f:Value->Value->Sem Value} {g:Int->Int->Bool}
  (rule: ∀ (i j:Int) (t u:Tok) (s:Shared) (Q:Value->Shared->Prop) (E:Value->Shared->Prop),Q (.bool (g i j)) s->wpAny (model X.prog X.w) X.A (f (.int i t) (.int j u)) Q E s):
  OpR X f (rI0 fun i j=>.bl (g i j)):=by
 intro pins s σ H x y v u Q I rx ry h
 obtain ⟨i,j,rfl,rfl,q⟩:=h
 obtain ⟨t,rfl⟩:=rx
 obtain ⟨t',rfl⟩:=ry
 exact rule i j t t' s _ _ ⟨.bl (g i j),H,I,rfl,q⟩
noncomputable def yO (i j:Int):Prop:=0<j/\j<1073741824
noncomputable def yN (i j:Int):Prop:=0<=j/\j<=1000000/\i.natAbs<2^64
noncomputable def CMul (i j:Int):Prop:=(-(2^64) <i/\i<2^64)\/(-(2^64) <j/\j<2^64)
theorem CMul.ok {i j:Int} (h:CMul i j):IntMulOk i j:=by
 rcases h with ⟨h1,h2⟩ | ⟨h1,h2⟩
 ·exact .of_left (intBits_le_64 h1 h2)
 ·exact .of_right (intBits_le_64 h1 h2)
theorem aU:OpR X (binaryOp .Add) (rI0 fun i j=>.int (i+j)):=xI fun _ _ _ _ _ _ _ q=>add_int q
theorem dz:OpR X (binaryOp .Sub) (rI0 fun i j=>.int (i-j)):=xI fun _ _ _ _ _ _ _ q=>sub_int q
theorem db:OpR X (binaryOp .Mult) (rI CMul fun i j=>.int (i*j)):=opI fun _ _ _ _ _ _ _ hc q=>mul_int q hc.ok
theorem gY:OpR X (binaryOp .FloorDiv) (rI yO fun i j=>.int (i/j)):=opI fun i j _ _ _ _ _ hc q=>by
 have h1:(0:Int) <j:=hc.1
 have h2:j<1073741824:=hc.2
 exact floordiv_int (by lia) (by rw [Int.fdiv_eq_ediv_of_nonneg i (by lia)];exact q) (.inl (PyProof.noPylong_small (by lia)))
theorem cv:OpR X (binaryOp .Mod) (rI (fun _ j=>0<j) fun i j=>.int (i%j)):=opI fun i j _ _ _ _ _ hc q=>by
 have h1:(0:Int) <j:=hc
 exact mod_int' (by lia) (by rw [Int.fmod_eq_emod_of_nonneg i (by lia)];exact q)
theorem wF:OpR X (binaryOp .Pow) (rI yN fun i j=>.int (i^j.toNat)):=opI fun _ _ _ _ _ _ _ hc q=>pow_int_small hc.1 hc.2.1 hc.2.2 q
theorem unI {f:Value->Sem Value} {g:Int->Int}
  (rule: ∀ (i:Int) (t:Tok) (s:Shared) (Q:Value->Shared->Prop) (E:Value->Shared->Prop),Q (.int (g i) s.toks) {s with toks:=s.toks+1}->wpAny (model X.prog X.w) X.A (f (.int i t)) Q E s):
  UnR X f (rU fun i=>.int (g i)):=by
 intro pins s σ H x v Q I rx h
 obtain ⟨i,rfl,q⟩:=h
 obtain ⟨t,rfl⟩:=rx
 exact rule i t s _ _ ⟨.int (g i),H,I.tok _,⟨_,rfl⟩,q⟩
theorem kM:UnR X (unaryOp .USub) (rU fun i=>.int (-i)):=unI fun _ _ _ _ _ q=>neg_int q
end
noncomputable def uQ:V->V->Bool
 | .non,.non=>true | .non,.int _=>true | .int _,.non=>true | .non,.bl _=>true | .bl _,.non=>true | .non,.str _=>true | .str _,.non=>true
 | .int _,.int _=>true | .bl _,.bl _=>true | .str _,.str _=>true | .byt _,.byt _=>true
 | .int _,.str _=>true | .str _,.int _=>true | .bl _,.str _=>true | .str _,.bl _=>true
 | _,_=>false
noncomputable def rEq:R2:=fun x y H Q=>uQ x y=true/\Q (.bl (decide (x=y))) H
noncomputable def rNe:R2:=fun x y H Q=>uQ x y=true/\Q (.bl (!decide (x=y))) H
theorem pZ {i j:Int}:decide (V.int i=V.int j)=(i==j):=by
 rw [Bool.eq_iff_iff]
 simp
theorem ut {i j:Bool}:decide (V.bl i=V.bl j)=(i==j):=by
 rw [Bool.eq_iff_iff]
 simp
theorem pY {i j:Str}:decide (V.str i=V.str j)=(i==j):=by
 rw [Bool.eq_iff_iff]
 simp
theorem p9 {i j:Array UInt8}:decide (V.byt i=V.byt j)=(i.toList==j.toList):=by
 rw [Bool.eq_iff_iff]
 cases i
 cases j
 simp
section
variable {X:Cx} {a b c:Expr} {ta tb tc:TE} {pos:Pos}
theorem a8 {pins:List (Addr×Obj)} {σ:St} {H:Hp} {s:Shared} {Q:VK} {k k':Bool} (I:Inv X pins σ H s) (q:Q (.bl k) H) (e:k=k'):EP X pins σ Q (.bool k') s:=by
 subst e
 exact ⟨.bl k,H,I,rfl,q⟩
theorem bV:OpR X (compareOp .Eq) rEq:=by
 intro pins s σ H x y v u Q I rx ry h
 obtain ⟨hs,q⟩:=h
 cases x with
 | non=>
  cases rx
  cases y with
  | non=>cases ry;exact PySem.EqNone.eq_none_none (a8 I q (by simp))
  | bl j=>cases ry;exact PySem.EqNone.eq_none_bool (a8 I q (by simp))
  | int j=>obtain ⟨t',rfl⟩:=ry;exact PySem.EqNone.eq_none_int (a8 I q (by simp))
  | str j=>obtain ⟨t',rfl⟩:=ry;exact PySem.EqNone.eq_none_str (a8 I q (by simp))
  | _=>exact absurd (show false=true from hs) Bool.false_ne_true
 | bl i=>
  cases rx
  cases y with
  | non=>cases ry;exact PySem.EqNone.eq_bool_none (a8 I q (by simp))
  | bl j=>cases ry;exact eq_bool (a8 I q ut)
  | str j=>obtain ⟨t',rfl⟩:=ry;exact PySem.EqMixed.eq_bool_str (a8 I q (by simp))
  | _=>exact absurd (show false=true from hs) Bool.false_ne_true
 | int i=>
  obtain ⟨t,rfl⟩:=rx
  cases y with
  | non=>cases ry;exact PySem.EqNone.eq_int_none (a8 I q (by simp))
  | int j=>obtain ⟨t',rfl⟩:=ry;exact eq_int (a8 I q pZ)
  | str j=>obtain ⟨t',rfl⟩:=ry;exact PySem.EqMixed.eq_int_str (a8 I q (by simp))
  | _=>exact absurd (show false=true from hs) Bool.false_ne_true
 | str i=>
  obtain ⟨t,rfl⟩:=rx
  cases y with
  | non=>cases ry;exact PySem.EqNone.eq_str_none (a8 I q (by simp))
  | bl j=>cases ry;exact PySem.EqMixed.eq_str_bool (a8 I q (by simp))
  | int j=>obtain ⟨t',rfl⟩:=ry;exact PySem.EqMixed.eq_str_int (a8 I q (by simp))
  | str j=>obtain ⟨t',rfl⟩:=ry;exact eq_str (a8 I q pY)
  | _=>exact absurd (show false=true from hs) Bool.false_ne_true
 | byt i=>
  obtain ⟨t,rfl⟩:=rx
  cases y with
  | byt j=>obtain ⟨t',rfl⟩:=ry;exact PySem.W.eq_bytes (a8 I q p9)
  | _=>exact absurd (show false=true from hs) Bool.false_ne_true
 | _=>cases y <;> exact absurd (show false=true from hs) Bool.false_ne_true
theorem iH:OpR X (compareOp .NotEq) rNe:=by
 intro pins s σ H x y v u Q I rx ry h
 obtain ⟨hs,q⟩:=h
 cases x with
 | non=>
  cases rx
  cases y with
  | non=>cases ry;exact PySem.EqNone.ne_none_none (a8 I q (by simp))
  | bl j=>cases ry;exact PySem.EqNone.ne_none_bool (a8 I q (by simp))
  | int j=>obtain ⟨t',rfl⟩:=ry;exact PySem.EqNone.ne_none_int (a8 I q (by simp))
  | str j=>obtain ⟨t',rfl⟩:=ry;exact PySem.EqNone.ne_none_str (a8 I q (by simp))
  | _=>exact absurd (show false=true from hs) Bool.false_ne_true
 | bl i=>
  cases rx
  cases y with
  | non=>cases ry;exact PySem.EqNone.ne_bool_none (a8 I q (by simp))
  | bl j=>cases ry;exact ne_bool (a8 I q (congrArg not ut))
  | str j=>obtain ⟨t',rfl⟩:=ry;exact PySem.EqMixed.ne_bool_str (a8 I q (by simp))
  | _=>exact absurd (show false=true from hs) Bool.false_ne_true
 | int i=>
  obtain ⟨t,rfl⟩:=rx
  cases y with
  | non=>cases ry;exact PySem.EqNone.ne_int_none (a8 I q (by simp))
  | int j=>obtain ⟨t',rfl⟩:=ry;exact ne_int (a8 I q (congrArg not pZ))
  | str j=>obtain ⟨t',rfl⟩:=ry;exact PySem.EqMixed.ne_int_str (a8 I q (by simp))
  | _=>exact absurd (show false=true from hs) Bool.false_ne_true
 | str i=>
  obtain ⟨t,rfl⟩:=rx
  cases y with
  | non=>cases ry;exact PySem.EqNone.ne_str_none (a8 I q (by simp))
  | bl j=>cases ry;exact PySem.EqMixed.ne_str_bool (a8 I q (by simp))
  | int j=>obtain ⟨t',rfl⟩:=ry;exact PySem.EqMixed.ne_str_int (a8 I q (by simp))
  | str j=>obtain ⟨t',rfl⟩:=ry;exact ne_str (a8 I q (congrArg not pY))
  | _=>exact absurd (show false=true from hs) Bool.false_ne_true
 | byt i=>
  obtain ⟨t,rfl⟩:=rx
  cases y with
  | byt j=>obtain ⟨t',rfl⟩:=ry;exact PySem.W.ne_bytes (a8 I q (congrArg not p9))
  | _=>exact absurd (show false=true from hs) Bool.false_ne_true
 | _=>cases y <;> exact absurd (show false=true from hs) Bool.false_ne_true
theorem gX:OpR X (compareOp .Lt) (rI0 fun i j=>.bl (decide (i<j))):=u4 fun _ _ _ _ _ _ _ q=>lt_int q
theorem xG:OpR X (compareOp .LtE) (rI0 fun i j=>.bl (decide (i<=j))):=u4 fun _ _ _ _ _ _ _ q=>le_int q
theorem kd:OpR X (compareOp .Gt) (rI0 fun i j=>.bl (decide (j<i))):=u4 fun _ _ _ _ _ _ _ q=>gt_int q
theorem xH:OpR X (compareOp .GtE) (rI0 fun i j=>.bl (decide (j<=i))):=u4 fun _ _ _ _ _ _ _ q=>ge_int q
theorem qJ:OpR X (compareOp .In) (fun x y H Q=> ∃ i j,x=.str i/\y=.str j/\Q (.bl (!(Builtin.Str.occurrences j i 0 j.length 1).isEmpty)) H):=by
 intro pins s σ H x y v u Q I rx ry h
 obtain ⟨i,j,rfl,rfl,q⟩:=h
 obtain ⟨t,rfl⟩:=rx
 obtain ⟨t',rfl⟩:=ry
 exact in_str (a8 I q rfl)
theorem gi:OpR X (compareOp .Is) (fun x y H Q=>y=.non/\Q (.bl (decide (x=.non))) H):=by
 intro pins s σ H x y v u Q I rx ry h
 obtain ⟨rfl,q⟩:=h
 cases ry
 refine is_none_gen (a8 I q ?_)
 cases x <;> first
  | (cases rx;rfl)
  | (obtain ⟨t,rfl⟩:=rx;rfl)
theorem aE (b:Expr) {op:CmpOp} (h:op≠ .In:=by decide) (h2:op≠ .NotIn:=by decide):behindInMarks op b=false:=by
 have e1:(op==CmpOp.In)=false:=by cases op <;> first | rfl | exact absurd rfl h
 have e2:(op==CmpOp.NotIn)=false:=by cases op <;> first | rfl | exact absurd rfl h2
 cases b <;> simp [behindInMarks,e1,e2]
theorem cG {op:CmpOp} {r:R2} (ho:OpR X (compareOp op) r) (ha:PE X a ta) (hb:PE X b tb) (hm:behindInMarks op b=false):PE X (.Compare a [op] [b] pos) (tOp r ta tb):=by
 intro pins s σ H Q I h
 exact wpAny_Compare1 (xa ha hb I h fun v u s2 x y H2 I2 rx ry q=>ho pins s2 σ H2 x y v u Q I2 rx ry q) hm
noncomputable def xi (t:TE):TT:=fun σ H Q=>t σ H fun x H'=>rBl x H' Q
theorem aA {op:CmpOp} {r:R2} (ho:OpR X (compareOp op) r) (ha:PE X a ta) (hb:PE X b tb) (hm:behindInMarks op b=false):PT X (.Compare a [op] [b] pos) (xi (tOp r ta tb)):=by
 intro pins s σ H Q I h
 refine wpAny_isTrue_Compare1 (thn (ha pins s σ H _ I h) fun v s1 ⟨x,H1,I1,r1,q1⟩=>thn (hb pins s1 σ H1 _ I1 q1) fun u s2 ⟨y,H2,I2,r2,q2⟩=>
  thn (ho pins s2 σ H2 x y v u _ I2 r1 r2 q2) fun c s3 ⟨z,H3,I3,r3,k,e,q3⟩=>?_) hm
 subst e
 cases r3
 exact wpAny_truthy_bool ⟨H3,I3,q3⟩
noncomputable def ya (K:PySem.W.Frag) (x:V) (H:Hp) (k:Bool):Prop:=
 match x with
 | .non=>k=false
 | .bl b=>k=b
 | .int i=>k=(i !=0)
 | .str y=>y.length<=sizeLine/\k=((y.length:Int)!=0)
 | .byt y=>y.size<=sizeLine/\k=((y.size:Int)!=0)
 | .ref p=>(∃ xs,SqL K H p xs/\k= !xs.isEmpty)\/(∃ xs,SqT K H p xs/\k= !xs.isEmpty)\/ ∃ kvs,H p=some (.dK kvs)/\k= !kvs.isEmpty
 | _=>False
theorem oM {κ:Type} {kvs:List (κ×V)} {vs:List (κ×Value)} (r:KV kvs vs):(!vs.isEmpty)= !kvs.isEmpty:=by
 cases r <;> rfl
theorem jx {xs:List V} {its:List Value} (r:Vals xs its):(!its.toArray.isEmpty)= !xs.isEmpty:=by
 cases r <;> simp
theorem gj:(sizeLine:Nat) <2^63:=by rw [sizeLine_eq];decide
theorem vW:yK X (fun x H Q=> ∃ k,ya X.K x H k/\Q k H):=by
 intro pins s σ H x v Q I rx h
 obtain ⟨k,e,q⟩:=h
 have hl:=gj
 have hs:sizeLine=16777216:=sizeLine_eq
 cases x with
 | non=>
  cases rx
  have e':k=false:=e
  subst e'
  exact truthy_none ⟨H,I,q⟩
 | bl b=>
  cases rx
  have e':k=b:=e
  subst e'
  exact wpAny_truthy_bool ⟨H,I,q⟩
 | int i=>
  obtain ⟨t,rfl⟩:=rx
  have e':k=(i !=0):=e
  subst e'
  exact PySem.P.truthy_int ⟨H,I,q⟩
 | str y=>
  obtain ⟨t,rfl⟩:=rx
  obtain ⟨hy,e'⟩:y.length<=sizeLine/\k=((y.length:Int)!=0):=e
  subst e'
  exact PySem.P.truthy_str (by lia) ⟨H,I.tok _,q⟩
 | byt y=>
  obtain ⟨t,rfl⟩:=rx
  obtain ⟨hy,e'⟩:y.size<=sizeLine/\k=((y.size:Int)!=0):=e
  subst e'
  exact PySem.W.truthy_bytes (by lia) ⟨H,I.tok _,q⟩
 | ref p=>
  cases rx
  have e':(∃ xs,SqL X.K H p xs/\k= !xs.isEmpty)\/(∃ xs,SqT X.K H p xs/\k= !xs.isEmpty)\/ ∃ kvs,H p=some (.dK kvs)/\k= !kvs.isEmpty:=e
  rcases e' with ⟨xs,hx,e'⟩ | ⟨xs,hx,e'⟩ | ⟨kvs,hx,e'⟩
  ·subst e'
   obtain ⟨its,r,pl,hz⟩:=I.list hx
   have hlen:=r.length
   exact wpAny_truthy_list pl.isList (by simp only [List.size_toArray];lia) ⟨H,I.tok _,by rw [jx r];exact q⟩
  ·subst e'
   obtain ⟨its,r,pl,hz⟩:=I.tuple hx
   have hlen:=r.length
   exact truthy_tuple pl (by simp only [List.size_toArray];lia) ⟨H,I.tok _,by rw [jx r];exact q⟩
  ·subst e'
   obtain ⟨hz,hS,vs,r,m⟩:kvs.length<=sizeLine/\(p==sysModules)=false/\ ∃ vs,KV kvs vs/\s.heap.DictOf (bX X.prog X.w) p vs:=I.hok p _ hx
   have hlen:kvs.length=vs.length:=Paired.length r
   exact wpAny_truthy_dict hS m (by lia) ⟨H,I.tok _,by rw [oM r];exact q⟩
 | _=>exact (show False from e).elim
theorem jd (ha:PE X a ta) (he: ∀ whole,isTrue a X.env whole=(do let v <- whole;standAt a.pos;holding [v] (truthy v))):
  PT X a (fun σ H Q=>ta σ H fun x H'=> ∃ k,ya X.K x H' k/\Q k H'):=by
 intro pins s σ H Q I h
 exact isTrue_plain (thn (ha pins s σ H _ I h) fun v s1 ⟨x,H1,I1,r1,q1⟩=>vW pins s1 σ H1 x v Q I1 r1 q1) (he _)
theorem aJ:OpR X (binaryOp .Add) (fun x y H Q=> ∃ i j,x=.str i/\y=.str j/\i.length+j.length<=sizeLine/\Q (.str (i++j)) H):=by
 intro pins s σ H x y v u Q I rx ry h
 obtain ⟨i,j,rfl,rfl,hz,q⟩:=h
 obtain ⟨t,rfl⟩:=rx
 obtain ⟨t',rfl⟩:=ry
 exact add_str (fun t' tk=>⟨.str (i++j),H,I.tok _,⟨_,rfl⟩,q⟩) hz
theorem iD {x:V} {us:List Value} (r:Vals [x] us): ∃ u,us=[u]/\RelV x u:=by
 cases r with
 | cons r1 r2=>cases r2;exact ⟨_,rfl,r1⟩
theorem eY {x y:V} {us:List Value} (r:Vals [x,y] us): ∃ u w',us=[u,w']/\RelV x u/\RelV y w':=by
 cases r with
 | cons r1 r2=>
  cases r2 with
  | cons r3 r4=>cases r4;exact ⟨_,_,rfl,r1,r3⟩
theorem iA (hc:X.calm=true):dE X (.builtin "max") (fun xs H Q=> ∃ i j,xs=[.int i,.int j]/\Q (.int (if j>i then j else i)) H):=by
 intro pins s σ H xs us Q I r h
 obtain ⟨i,j,rfl,q⟩:=h
 obtain ⟨u,w',rfl,⟨t,rfl⟩,⟨t',rfl⟩⟩:=eY r
 refine max_two_ints (I.ok.hd hc) fun h' tk k=>⟨_,H,I.kept k,?_,q⟩
 by_cases hj:j>i
 ·rw [if_pos hj,if_pos hj];exact ⟨_,rfl⟩
 ·rw [if_neg hj,if_neg hj];exact ⟨_,rfl⟩
theorem iz (hc:X.calm=true):dE X (.builtin "min") (fun xs H Q=> ∃ i j,xs=[.int i,.int j]/\Q (.int (if j<i then j else i)) H):=by
 intro pins s σ H xs us Q I r h
 obtain ⟨i,j,rfl,q⟩:=h
 obtain ⟨u,w',rfl,⟨t,rfl⟩,⟨t',rfl⟩⟩:=eY r
 refine min_two_ints (I.ok.hd hc) fun h' tk k=>⟨_,H,I.kept k,?_,q⟩
 by_cases hj:j<i
 ·rw [if_pos hj,if_pos hj];exact ⟨_,rfl⟩
 ·rw [if_neg hj,if_neg hj];exact ⟨_,rfl⟩
theorem eh:dE X (.type "int") (fun xs H Q=>(∃ i,xs=[.int i]/\Q (.int i) H)\/ ∃ k,xs=[.bl k]/\Q (.int (if k then 1 else 0)) H):=by
 intro pins s σ H xs us Q I r h
 rcases h with ⟨i,rfl,q⟩ | ⟨k,rfl,q⟩
 ·obtain ⟨u,rfl,t,rfl⟩:=iD r
  exact call_int_int ⟨.int i,H,I,⟨_,rfl⟩,q⟩
 ·obtain ⟨u,rfl,r1⟩:=iD r
  cases r1
  exact call_int_bool ⟨.int (if k then 1 else 0),H,I.tok _,⟨_,rfl⟩,q⟩
end
structure ObjM (h:Heap) (x dx C:Addr) (mA:Str->Option Value):Prop where
 obj:h.get? x=some (PySem.W.instObj C dx)
 ns:h.Ns1 dx mA
 ne:dx≠x
theorem qW {h:Heap} {dx:Addr} {mA:Str->Option Value} (n:h.Ns1 dx mA): ∃ od,h.get? dx=some od/\ ∀ name,PySem.W.lookIn name od=some (mA name):=by
 obtain ⟨o,es,ep,ho,hd,hk,_,hm⟩:=n
 refine ⟨o,ho,fun name=>?_⟩
 have e:=hm name
 unfold nsFind findBy at e
 rw [<- Array.find?_toList]at e
 unfold PySem.W.lookIn
 rw [hd]
 dsimp only
 split
 ·rename_i y q
  rw [q]at e
  exact congrArg some e
 ·rename_i q
  rw [q]at e
  have a:es.toList.any (·.refKey)=false:=by
   rw [List.any_eq_false]
   intro y hy
   obtain ⟨z,t,hkey⟩:=hk y (Array.mem_toList_iff.mp hy)
   simp [DictEntry.refKey,hkey]
  have a': ¬ es.toList.any (·.refKey)=true:=by rw [a];exact Bool.false_ne_true
  rw [if_neg a']
  exact congrArg some e
theorem ObjM.look {h:Heap} {x dx C:Addr} {mA:Str->Option Value} (I:ObjM h x dx C mA): ∃ od,PySem.W.InstAt h x (PySem.W.instObj C dx) C (some od)/\ ∀ name,PySem.W.lookIn name od=some (mA name):=
 let ⟨od,ho,hl⟩:=qW I.ns
 ⟨od,⟨I.obj,rfl,rfl,ho⟩,hl⟩
theorem RelO.some_of {v:V} {o:Option Value} (r:RelO (some v) o): ∃ u,o=some u/\RelV v u:=by
 cases o with
 | none=>exact (show False from r).elim
 | some u=>exact ⟨u,rfl,r⟩
section
variable {P:Program} {w:World} {H H':Hp} {h h':Heap} {a C dx:Addr} {fs fs':List (Str×V)}
theorem vj (hok:HOk P w H h) (e:H a=some (.ins C dx fs)): ∃ mA,ObjM h a dx C mA/\(∀ f,RelO (fs.lookup f) (mA f))/\PySem.Within mA (fs.map (·.1))/\fs.length<=1000/\H dx=some (.own a):=by
 obtain ⟨d,z,ne,ob,mA,n,r,q⟩:=(show ObjOk P w H h a (.ins C dx fs)from hok a _ e)
 exact ⟨mA,⟨ob,n,ne⟩,r,q,z,d⟩
end
structure Cls (K:PySem.W.Frag) (C:Addr):Prop where
 pg:PySem.W.plainGet K C Str.empty=true
 hd:PySem.W.hasDictIn K C=true
 po:PySem.W.plainOver K C=true
 sa:PySem.W.findIn K (.ref C) "__setattr__"=some (some (.builtin "object.__setattr__"))
theorem Cls.get {K:PySem.W.Frag} {C:Addr} (c:Cls K C) (f:Str):PySem.W.plainGet K C f=true:=c.pg
section
variable {X:Cx} {pins:List (Addr×Obj)} {σ:St} {H:Hp} {s:Shared} {A:Around} {E:Value->Shared->Prop} {Q:Value->Shared->Prop} {c:Value} {b:Bool}
inductive ib (K:PySem.W.Frag) (H:Hp):V->Value->Prop where
 | non:ib K H .non (.type "NoneType")
 | bl (x:Bool):ib K H (.bl x) (.type "bool")
 | int (i:Int):ib K H (.int i) (.type "int")
 | str (x:Str):ib K H (.str x) (.type "str")
 | flt (x:UInt64):ib K H (.flt x) (.type "float")
 | lst {a:Addr} {xs:List V} (e:H a=some (.lst xs)):ib K H (.ref a) (.type "list")
 | frz {a:Addr} {o:Obj} {xs:List V} (e:H a=some (.frz o (.lst xs))):ib K H (.ref a) (.type "list")
 | tup {a:Addr} {xs:List V} (e:H a=some (.tup xs)):ib K H (.ref a) (.type "tuple")
 | dK {a:Addr} {kvs:List (Key×V)} (e:H a=some (.dK kvs)):ib K H (.ref a) (.type "dict")
 | dT {a:Addr} {kvs:List (List Key×V)} (e:H a=some (.dT kvs)):ib K H (.ref a) (.type "dict")
 | ins {a C dx:Addr} {fs:List (Str×V)} (e:H a=some (.ins C dx fs)) (cl:Cls K C) (ha:PySem.W.findIn K (.ref C) "__class__"=some (some (.builtin "object.__class__")))
   (hn:PySem.W.specialIn K (.builtin "object.__class__") "__get__"=some (some (.builtin "getset_descriptor.__get__"))) (htk:PySem.W.takesIn K (.builtin "object.__class__")=some true)
   (hm:PySem.W.mroIn K C (.type "object")=some true):ib K H (.ref a) (.ref C)
theorem re {x:V} {u t:Value} (I:Inv X pins σ H s) (rx:RelV x u) (ty:ib X.K H x t) (e:PySem.W.kitOne X.K t c=some b) (h: ∀ tk,Q (.bool b) {s with toks:=tk}):
  wpAny (model X.prog X.w) A (call (.builtin "isinstance") [u,c]) Q E s:=by
 cases ty with
 | non=>cases (show u=Value.none from rx);exact PySem.W.kia_one PySem.W.kitx_none I.kIn True.intro e (fun z=>nomatch z) h
 | bl y=>cases (show u=Value.bool y from rx);exact PySem.W.kia_one PySem.W.kitx_bool I.kIn True.intro e (fun z=>nomatch z) h
 | int i=>obtain ⟨t,q⟩:=(show ∃ t,u=Value.int i t from rx);cases q;exact PySem.W.kia_one PySem.W.kitx_int I.kIn True.intro e (fun z=>nomatch z) h
 | str y=>obtain ⟨t,q⟩:=(show ∃ t,u=Value.str y t from rx);cases q;exact PySem.W.kia_one PySem.W.kitx_str I.kIn True.intro e (fun z=>nomatch z) h
 | flt y=>obtain ⟨t,q⟩:=(show ∃ t,u=Value.float y t from rx);cases q;exact PySem.W.kia_one PySem.W.kitx_float I.kIn True.intro e (fun z=>nomatch z) h
 | @lst a xs ea=>
  cases (show u=Value.ref a from rx)
  obtain ⟨_,_,n,_,h1⟩:=(show ObjOk X.prog X.w H s.heap a (.lst xs)from I.hok a _ ea)
  exact PySem.W.kia_one PySem.W.kitx_list I.kIn ⟨_,h1,rfl⟩ e (fun z=>nomatch z) h
 | @frz a ob xs ea=>
  cases (show u=Value.ref a from rx)
  obtain ⟨_,_,_,n,_,h1⟩:=(show ObjOk X.prog X.w H s.heap a (.frz ob (.lst xs))from I.hok a _ ea)
  exact PySem.W.kia_one PySem.W.kitx_list I.kIn ⟨_,h1,rfl⟩ e (fun z=>nomatch z) h
 | @tup a xs ea=>
  cases (show u=Value.ref a from rx)
  obtain ⟨_,_,_,p⟩:=(show ObjOk X.prog X.w H s.heap a (.tup xs)from I.hok a _ ea)
  obtain ⟨o,h1,h2,_⟩:=p
  exact PySem.W.kia_one PySem.W.kitx_tuple I.kIn ⟨o,h1,h2⟩ e (fun z=>nomatch z) h
 | @dK a kvs ea=>
  cases (show u=Value.ref a from rx)
  obtain ⟨_,_,vs,_,p⟩:=(show ObjOk X.prog X.w H s.heap a (.dK kvs)from I.hok a _ ea)
  obtain ⟨o,es,ep,h1,h2,_⟩:=p
  exact PySem.W.kia_one PySem.W.kitx_dict I.kIn ⟨o,h1,h2.1⟩ e (fun z=>nomatch z) h
 | @dT a kvs ea=>
  cases (show u=Value.ref a from rx)
  obtain ⟨_,_,xs,_,o,es,ep,h1,h2,_⟩:=(show ObjOk X.prog X.w H s.heap a (.dT kvs)from I.hok a _ ea)
  exact PySem.W.kia_one PySem.W.kitx_dict I.kIn ⟨o,h1,h2.1⟩ e (fun z=>nomatch z) h
 | @ins a C dx fs ea cl ha hn htk hm=>
  cases (show u=Value.ref a from rx)
  obtain ⟨mA,O,_⟩:=vj I.hok ea
  obtain ⟨od,J,_⟩:=O.look
  exact PySem.W.kia_one (PySem.W.kitx_own (cl.get _) cl.hd ha hn htk hm) I.kIn J e (fun z=>nomatch z) h
end
structure Room (k:Nat) (A:Around):Prop where
 hd:A.handled=none
 dp:A.depth+3*k+5<recursionLimit
 un:A.units+16*k+200<cLine
theorem Room.mono {j k:Nat} {A:Around} (r:Room k A) (h:j<=k):Room j A:=⟨r.hd,by have:=r.dp;lia,by have:=r.un;lia⟩
theorem Room.deeper {k:Nat} {A:Around} (r:Room (k+1) A) (env:Env):Room k (A.deeper env):=
 ⟨r.hd,by have:=r.dp;show A.depth+1+3*k+5<_;lia,by have:=r.un;show A.units+3+16*k+200<_;lia⟩
theorem Room.depth {k:Nat} {A:Around} (r:Room k A):A.depth<recursionLimit:=by have:=r.dp;lia
theorem Room.units {k:Nat} {A:Around} (r:Room k A):A.units+64<cLine:=by have:=r.un;lia
theorem Room.units0 {k:Nat} {A:Around} (r:Room k A):A.units<cLine:=by have:=r.un;lia
noncomputable def yk:TA:=fun _ H Q=>Q [] H
noncomputable def mj (ta:TE) (tr:TA):TA:=fun σ H Q=>ta σ H fun x H1=>tr σ H1 fun xs H2=>Q (x::xs) H2
section
variable {X:Cx} {e:Expr} {es:List Expr} {te:TE} {t:TA} {pos:Pos}
theorem ad:PA X [] yk:=fun _ _ _ _ H Q I h=>Calls.spliced_nil ⟨[],H,I,.nil,h⟩
theorem aa (ha:PE X e te) (hr:PA X es t) (hs:starEach (e::es) X.env=(false,eval e X.env)::starEach es X.env:=by rfl):PA X (e::es) (mj te t):=by
 intro pos pins s σ H Q I h
 rw [hs]
 show wpAny _ _ (spliced ((false,eval e X.env)::backTo pos (starEach es X.env))) _ _ s
 refine Calls.spliced_cons (thn (ha pins s σ H _ I h) fun u s1 ⟨x,H1,I1,r1,q1⟩=>?_)
 exact thn (hr pos pins s1 σ H1 _ I1 q1) fun us s2 ⟨xs,H2,I2,r2,q2⟩=>⟨x::xs,H2,I2,.cons r1 r2,q2⟩
noncomputable def yi (t:TA):TE:=fun σ H Q=>t σ H fun xs H1=>xs.length<=sizeLine/\ ∀ p,H1 p=none->Q (.ref p) (upd H1 p (.tup xs))
noncomputable def xr (t:TA):TE:=fun σ H Q=>t σ H fun xs H1=>xs.length<=sizeLine/\ ∀ p,H1 p=none->Q (.ref p) (upd H1 p (.lst xs))
theorem aZ {x1} (h:PA X es t):PE X (.Tuple es x1 pos) (yi t):=by
 intro pins s σ H Q I hq
 refine wpAny_Tuple_spliced (thn (h pos pins s σ H _ I hq) fun us s1 ⟨xs,H1,I1,r,z,q⟩=>⟨by rw [<- r.length];exact z,?_⟩)
 have hf:H1 s1.heap.objs.size=none:=I1.hok.fresh (Nat.le_refl _)
 refine ⟨.ref s1.heap.objs.size,upd H1 s1.heap.objs.size (.tup xs),I1.laid (t':=s1.toks) (fun b u e=>Heap.get?_push_of_some _ e) (Nat.le_refl _) ?_,rfl,q _ hf⟩
 exact ⟨z,us,r,⟨_,Heap.get?_push_size _ rfl,rfl,_,rfl⟩⟩
theorem bh (h:PA X es t):PE X (.List es pos) (xr t):=by
 intro pins s σ H Q I hq
 refine wpAny_List_spliced (thn (h pos pins s σ H _ I hq) fun us s1 ⟨xs,H1,I1,r,z,q⟩=>⟨by rw [<- r.length];exact z,?_⟩)
 have hf:H1 s1.heap.objs.size=none:=I1.hok.fresh (Nat.le_refl _)
 refine ⟨.ref s1.heap.objs.size,upd H1 s1.heap.objs.size (.lst xs),I1.laid (t':=s1.toks) (fun b u e=>Heap.get?_push_of_some _ e) (Nat.le_refl _) ?_,rfl,q _ hf⟩
 exact ⟨z,us,0,r,Heap.get?_push_size _ rfl⟩
end
noncomputable abbrev Sp:=List V->Hp->VK->XK->Prop
noncomputable abbrev CXT:=List Env->Hp->Shared->XK->Value->Shared->Prop
structure uG (P:Program) (w:World) (K:PySem.W.Frag) (mg:Str->Option Value) (base:Heap) (A:Around) (outer:List Env) (s:Shared) (H:Hp):Prop where
 frames:A.frames=some outer
 mod:Mod K mg base
 bs: ∀ b o,base.get? b=some o->s.heap.get? b=some o/\H b=none
 bsz:base.objs.size<=s.heap.objs.size
 funs:s.heap.FunFrames base outer
 frf: ∀ b∈frs outer,H b=none
 hok:HOk P w H s.heap
 bare:AllBare s.gens
inductive CE (outer:List Env) (P:Program) (w:World) (H:Hp) (s:Shared) (Q:VK) (u:Value) (s':Shared):Prop
 | mk: ∀ v H',(s'.os=s.os)->(AllBare s'.gens)->(Un (frs outer) [] H H' s.heap s'.heap)->(HOk P w H' s'.heap)->(RelV v u)->(Q v H')->CE outer P w H s Q u s'
noncomputable def CR (CX:CXT) (outer:List Env) (P:Program) (w:World) (H:Hp) (s:Shared) (Q:VK) (E:XK) (r:Result) (s':Shared):Prop:=
 match r with
 | .ok (.ret u)=>CE outer P w H s Q u s'
 | .ok _=>False
 | .error e=>CX outer H s E e s'
structure FnOk (P:Program) (w:World) (K:PySem.W.Frag) (mg:Str->Option Value) (base:Heap) (CX:CXT) (k:Nat) (f:Addr) (fd:FuncData) (ps:List Str) (sp:Sp):Prop where
 len: ∀ vs H Q E,sp vs H Q E->vs.length=ps.length
 run: ∀ (A:Around) (outer:List Env) (s:Shared) (H:Hp) (args:Args) (us:List Value) (vs:List V) (Q:VK) (E:XK),Room k A->uG P w K mg base A outer s H->BindsTo s fd args (ps.zip us)->Vals vs us->sp vs H Q E->
  codeAny (model P w) A (.call (.ref f) args) (CR CX outer P w H s Q E) s
section
variable {X:Cx} {pins:List (Addr×Obj)} {σ:St} {H:Hp} {s s':Shared}
theorem Inv.env0 (I:Inv X pins σ H s):uG X.prog X.w X.K X.mg X.base X.A X.stack s H:=
 ⟨I.ok.frames,I.ok.mod,I.bs,Nat.le_trans I.ok.bsz I.sz,I.stack,I.stkFree,I.hok,I.bare⟩
theorem Inv.after {Q:VK} {u:Value} (I:Inv X pins σ H s) (h:CE X.stack X.prog X.w H s Q u s'):EP X pins σ Q u s':=by
 obtain ⟨v,H',os,bare,un,hok,r,q⟩:=h
 obtain ⟨hh,g,d,t,os'⟩:=s'
 obtain rfl:os'=s.os:=os
 exact ⟨v,H',I.call (h':=hh) (g':=g) (d':=d) (t':=t) (ch:=[]) un hok bare (fun b z=>absurd z (by simp)),r,q⟩
end
noncomputable def sd (sp:Sp) (dvs:List V) (E:XK) (t:TA):TE:=fun σ H Q=>t σ H fun vs H1=>sp (vs++dvs) H1 Q E
noncomputable def Binds (K:PySem.W.Frag) (fd:FuncData) (ps:List Str) (ds:List Value):Prop:=
 ∀ (s:Shared) (us:List Value),K.In s.heap->(us++ds).length=ps.length->BindsTo s fd ⟨us,[]⟩ (ps.zip (us++ds))
theorem Binds.all {K:PySem.W.Frag} {fd:FuncData} {ps:List Str} (h: ∀ us:List Value,us.length=ps.length->bindArgs fd ⟨us,[]⟩=pure (ps.zip us)):Binds K fd ps []:=fun s us _ hl=>by
 rw [List.append_nil]at hl ⊢
 exact .of_eq (h us hl)
noncomputable def iB (CX:CXT) (X:Cx) (E:XK):Prop:= ∀ (pins:List (Addr×Obj)) (σ:St) (H:Hp) (s:Shared) (e:Value) (s':Shared),Inv X pins σ H s->CX X.stack H s E e s'->X.xe e s'
section
variable {X:Cx} {CX:CXT} {k:Nat} {f C:Addr} {fd:FuncData} {ps:List Str} {sp:Sp} {dvs:List V} {ds:List Value} {E:XK} {x m:Str} {p pos apos:Pos} {e o:Expr} {es:List Expr} {ta:TE} {t:TA}
theorem sF {pins:List (Addr×Obj)} {σ:St} {H:Hp} {s:Shared} {Q:VK} {us:List Value} {vs:List V} (F:FnOk X.prog X.w X.K X.mg X.base CX k f fd ps sp) (hr:Room k X.A) (hb:Binds X.K fd ps ds) (hd:Vals dvs ds) (hx:iB CX X E)
  (I:Inv X pins σ H s) (r:Vals vs us) (h:sp (vs++dvs) H Q E):wpAny (model X.prog X.w) X.A (call (.ref f) us) (EP X pins σ Q) X.xe s:=by
 have r2:Vals (vs++dvs) (us++ds):=r.append hd
 have hl:(us++ds).length=ps.length:=by rw [<- r2.length];exact F.len _ _ _ _ h
 refine wpAny_call (codeAny_mono (F.run X.A X.stack s H ⟨us,[]⟩ (us++ds) (vs++dvs) Q E hr I.env0 (hb s us I.kIn hl) r2 h) fun r s' hq=>?_)
 cases r with
 | error e=>exact hx pins σ H s e s' I hq
 | ok fl=>
  cases fl with
  | ret u=>exact I.after hq
  | next=>exact False.elim hq
  | brk=>exact False.elim hq
  | cont=>exact False.elim hq
theorem am (F:FnOk X.prog X.w X.K X.mg X.base CX k f fd ps sp) (hr:Room k X.A) (hg:Gl X x) (hm:X.mg x=some (.ref f)) (hk:PySem.W.keepIn X.K (.ref f)=true) (hb:Binds X.K fd ps ds) (hd:Vals dvs ds) (hx:iB CX X E)
  (ha:PA X (e::es) t) (hdb:(x==("__debug__":Str))=false:=by decide) (he:starEach (e::es) X.env=(false,eval e X.env)::starEach es X.env:=by rfl) (hpl:(backTo pos (starEach es X.env)).any (·.1)=false:=by rfl):
  PE X (.Call (.Name x p) (e::es) [] pos) (sd sp dvs E t):=by
 intro pins s σ H Q I h
 refine wpAny_Call_Name_kw (eL I hg hm ?_ hdb)
 refine PySem.W.callWith_K (h₀:=X.base) I.ok.mod.kin hk (thn (ha pos pins s σ H _ I h) fun us s1 ⟨vs,H1,I1,r,q⟩=>⟨I1.kIn,?_⟩) he hpl
 exact sF F hr hb hd hx I1 r q
end
structure aI (N P:List Str) (sc:Scope):Prop where
 kind:sc.kind=.function
 co:sc.isCoroutine=false
 gen:sc.isGenerator=false
 nd:N.Nodup
 pre:N.take P.length=P
 par: ∀ x∈P,sc.names.lookup x=some .local\/sc.names.lookup x=some .cell
 nofree: ∀ y∈sc.names,y.2≠ .free
theorem fsc {N P:List Str} {sc:Scope} (kind_:sc.kind=.function:=by rfl) (co_:sc.isCoroutine=false:=by rfl) (gen_:sc.isGenerator=false:=by rfl) (nd_:N.Nodup:=by decide +kernel) (pre_:N.take P.length=P:=by rfl) (par_: ∀ x∈P,sc.names.lookup x=some .local\/sc.names.lookup x=some .cell:=by decide +kernel) (nofree_: ∀ y∈sc.names,y.2≠ .free:=by decide +kernel):aI N P sc:=⟨kind_,co_,gen_,nd_,pre_,par_,nofree_⟩
theorem kx {kindOf:Str->Option NameKind} {x:Str}: ∀ {binds:List (Str×Value)} {m:Str->Option Value},(∀ v,(x,v)∉binds)->bindL kindOf binds m x=m x
 | [],_,_=>rfl
 | (n,v)::r,m,h=>by
  unfold bindL
  rw [kx fun w hw=>h w (List.mem_cons_of_mem _ hw)]
  split
  ·have:x≠n:=by rintro rfl;exact h v List.mem_cons_self
   simp [this]
  ·rfl
theorem kz {kindOf:Str->Option NameKind} {x:Str}: ∀ {binds:List (Str×Value)} {m:Str->Option Value},(∀ v,(x,v)∉binds)->bindC kindOf binds m x=m x
 | [],_,_=>rfl
 | (n,v)::r,m,h=>by
  unfold bindC
  rw [kz fun w hw=>h w (List.mem_cons_of_mem _ hw)]
  split
  ·rfl
  ·have:x≠n:=by rintro rfl;exact h v List.mem_cons_self
   simp [this]
theorem ky {kindOf:Str->Option NameKind} {x:Str} {v:Value}: ∀ {P:List Str} {vs:List Value} {i:Nat} {m:Str->Option Value},P.Nodup->P[i]? =some x->vs[i]? =some v->kindOf x=some .local->
  bindL kindOf (P.zip vs) m x=some v
 | [],_,_,_,_,h,_,_=>by simp at h
 | _::_,[],_,_,_,_,h,_=>by simp at h
 | p::P,w::vs,0,m,nd,h1,h2,hk=>by
  simp at h1 h2;subst h1;subst h2
  show bindL kindOf ((p,w)::P.zip vs) m p=_
  unfold bindL
  rw [kx fun v hv=>(List.nodup_cons.mp nd).1 (List.of_mem_zip hv).1,if_pos hk]
  simp
 | p::P,w::vs,i+1,m,nd,h1,h2,hk=>by
  show bindL kindOf ((p,w)::P.zip vs) m x=_
  unfold bindL
  exact ky (i:=i) (List.nodup_cons.mp nd).2 (by simpa using h1) (by simpa using h2) hk
theorem kA {kindOf:Str->Option NameKind} {x:Str} {v:Value}: ∀ {P:List Str} {vs:List Value} {i:Nat} {m:Str->Option Value},P.Nodup->P[i]? =some x->vs[i]? =some v->kindOf x≠some .local->
  bindC kindOf (P.zip vs) m x=some v
 | [],_,_,_,_,h,_,_=>by simp at h
 | _::_,[],_,_,_,_,h,_=>by simp at h
 | p::P,w::vs,0,m,nd,h1,h2,hk=>by
  simp at h1 h2;subst h1;subst h2
  show bindC kindOf ((p,w)::P.zip vs) m p=_
  unfold bindC
  rw [kz fun v hv=>(List.nodup_cons.mp nd).1 (List.of_mem_zip hv).1,if_neg hk]
  simp
 | p::P,w::vs,i+1,m,nd,h1,h2,hk=>by
  show bindC kindOf ((p,w)::P.zip vs) m x=_
  unfold bindC
  exact kA (i:=i) (List.nodup_cons.mp nd).2 (by simpa using h1) (by simpa using h2) hk
noncomputable def dG (N:List Str) (vs:List V):St:=vs.map some++List.replicate (N.length-vs.length) none
noncomputable def cY (CX:CXT) (P:Program) (w:World) (K:PySem.W.Frag) (mg:Str->Option Value) (base:Heap) (N:List Str) (qual:Str) (scope:Scope) (f:Addr) (cd:Value) (A:Around) (outer:List Env) (s:Shared) (H:Hp) (E:XK):Cx where
 prog:=P
 w:=w
 K:=K
 mg:=mg
 base:=base
 A:=A.deeper (envOfC qual scope s.heap.objs.size f cd)
 N:=N
 s₀:=s
 H₀:=H
 env:=envOfC qual scope s.heap.objs.size f cd
 outer:=outer
 stack:=envOfC qual scope s.heap.objs.size f cd::outer
 ex:=[]
 calm:=true
 fn:=fun _=>true
 pn:=[]
 xe:=fun e s'=>wpAny (model P w) (A.deeper (envOfC qual scope s.heap.objs.size f cd)) (leaving (envOfC qual scope s.heap.objs.size f cd) e) (fun _ s''=>CX outer H s E e s'') (fun e' s''=>CX outer H s E e' s'') s'
theorem nD {sc:Scope} {n:Nat} {x:Str} (h:sc.names.lookup x=some .cell): ∃ c,(cellsFrom n sc.names []).lookup x=some c:=by
 have q:=PySem.W.cellsFrom_some sc.names n [] (.inl h)
 exact Option.isSome_iff_exists.mp q
theorem iw {CX:CXT} {P:Program} {w:World} {K:PySem.W.Frag} {mg:Str->Option Value} {base:Heap} {N ps:List Str} {qual:Str} {scope:Scope} {f:Addr} {cd:Value} {A:Around} {outer:List Env} {s s1:Shared} {H:Hp} {E:XK} {us:List Value} {vs:List V}
  (S:aI N ps scope) (hd:A.handled=none) (e0:uG P w K mg base A outer s H) (hl:vs.length=ps.length) (r:Vals vs us)
  (x:InCallC s s.heap.objs.size (bindL (envOfC qual scope s.heap.objs.size f cd).kindOf (ps.zip us) fun _=>none) (cellsFrom (s.heap.objs.size+1) scope.names []) (bindC (envOfC qual scope s.heap.objs.size f cd).kindOf (ps.zip us) fun _=>none) s1):
  Inv (cY CX P w K mg base N qual scope f cd A outer s H E) [] (dG N vs) H s1:=by
 have hpl:ps.length<=N.length:=by have:=congrArg List.length S.pre;rw [List.length_take]at this;lia
 obtain ⟨h1,tk,rfl,hk⟩:=x.done
 have noA: ∀ b:Addr,b∉(cY CX P w K mg base N qual scope f cd A outer s H E).ex:=fun b z=>absurd (show b∈([]:List Addr)from z) (by simp)
 refine ⟨⟨e0.mod,S.kind,rfl,rfl,Nat.le_refl _,fun y z c h1 h2=>?_,fun y hy=>?_,fun y c _ h=>?_,fun _=>hd,Around.frames_deeper e0.frames,.inr ⟨rfl,rfl⟩,fun b z=>absurd z (noA b),e0.bs,e0.bsz,fun b _ _=>noA b,fun b z=>absurd z (noA b),e0.funs,e0.frf⟩,
  rfl,e0.bare,Un.kept hk,⟨_,x.toInCall.ns,fun i y v h1 h2 h3=>?_⟩,fun y c h=>⟨_,x.cell y c h⟩,e0.hok.fresh (Nat.le_refl _),fun y c h=>?_,fun p hp=>absurd (show p∈([]:List (Addr×Obj))from hp) (by simp),e0.hok.kept hk,?_⟩
 ·exact name_of_addr x.apart (PySem.mem_of_lookup h1) (PySem.mem_of_lookup h2)
 ·have hy:scope.names.lookup y=some .cell\/scope.names.lookup y=some .free:=hy
  rcases hy with hy | hy
  ·exact nD hy
  ·exact absurd rfl (S.nofree _ (PySem.mem_of_lookup hy))
 ·exact Nat.le_of_lt (x.above y c (PySem.mem_of_lookup h))
 ·have hi:i<vs.length:=by
   unfold dG at h2
   by_cases hi:i<vs.length
   ·exact hi
   ·rw [List.getElem?_append_right (by simpa using hi)]at h2
    rw [List.getElem?_replicate]at h2
    split at h2 <;> cases h2
  have ha:vs[i]? =some v:=by
   unfold dG at h2
   rw [List.getElem?_append_left (by simpa using hi),List.getElem?_map]at h2
   cases e:vs[i]? with
   | none=>rw [e]at h2;cases h2
   | some a=>rw [e]at h2;cases h2;rfl
  obtain ⟨u,hu,rv⟩:=r.get ha
  have hp:ps[i]? =some y:=by
   rw [<- S.pre,List.getElem?_take_of_lt (by lia)];exact h1
  have ndP:ps.Nodup:=by rw [<- S.pre];exact S.nd.sublist (List.take_sublist _ _)
  refine ⟨u,rv,?_⟩
  rcases S.par y (List.mem_of_getElem? hp)with k | k
  ·exact .inl ⟨k,ky ndP hp hu k⟩
  ·obtain ⟨c,e⟩:=nD (n:=s.heap.objs.size+1) k
   refine .inr ⟨.inl k,c,e,?_⟩
   have q:=x.cell y c e
   rw [kA ndP hp hu (by show scope.names.lookup y≠_;rw [k];decide)]at q
   exact q
 ·exact e0.hok.fresh (Nat.le_of_lt (x.above y c (PySem.mem_of_lookup h)))
 ·unfold dG
  show _=N.length
  rw [List.length_append,List.length_map,List.length_replicate]
  lia
theorem xX {CX:CXT} {P:Program} {w:World} {K:PySem.W.Frag} {mg:Str->Option Value} {base:Heap} {k:Nat} {f:Addr} {name qual:Str} {params:Arguments} {body:List Stmt} {scope:Scope} {dV kV doc pm cdv ct oc:Value} {an od:Option Addr}
  {osl:Array (Option Value)} {N ps:List Str} {sp:Sp} (lk:K.lookup f=some ⟨oc,od,.func (PySem.W.fnOf name qual params body scope dV kV doc pm an cdv ct),osl⟩) (hcd:PySem.W.codeIn K cdv qual=true) (S:aI N ps scope)
  (len: ∀ vs H Q E,sp vs H Q E->vs.length=ps.length)
  (hbody: ∀ (A:Around) (outer:List Env) (s:Shared) (H:Hp) (vs:List V) (Q:VK) (E:XK),Room k (A.deeper (envOfC qual scope s.heap.objs.size f cdv))->sp vs H Q E->
   ∃ t,PSs (cY CX P w K mg base N qual scope f cdv A outer s H E) body t/\t {nx:=fun _ H'=>Q .non H',rt:=Q} (dG N vs) H):
  FnOk P w K mg base CX (k+1) f (PySem.W.fnOf name qual params body scope dV kV doc pm an cdv ct) ps sp:=by
 refine ⟨len,fun A outer s H args us vs Q E hr e0 hb r hsp=>?_⟩
 have hl:=len _ _ _ _ hsp
 have KX:K.In s.heap:=e0.mod.kin.keeps fun b o e=>(e0.bs b o e).1
 have lim:s.heap.NoLimit:=e0.mod.nolimit.keeps fun b o e=>(e0.bs b o e).1
 have hkind: ∀ y∈ps.zip us,scope.names.lookup y.1=some .local\/(scope.names.lookup y.1=some .cell/\((cellsFrom (s.heap.objs.size+1) scope.names []).lookup y.1).isSome=true):=fun ⟨n,v⟩ hy=>by
  rcases S.par n (List.of_mem_zip hy).1 with q | q
  ·exact .inl q
  ·exact .inr ⟨q,PySem.W.cellsFrom_some _ _ _ (.inl q)⟩
 refine codeAny_call_function hr.depth (KX _ _ lk) rfl S.co S.gen rfl (PySem.W.codeRec_of KX hcd) (hb _ _ _ _ ?_)
 refine wpAny_newFunctionEnv_cells S.kind hkind fun env he s1 x=>?_
 subst he
 refine ⟨lim.keeps x.toInCall.keep,codeAny_func ?_⟩
 obtain ⟨t,ht,hq⟩:=hbody A outer s H vs Q E (hr.deeper _) hsp
 have I:Inv (cY CX P w K mg base N qual scope f cdv A outer s H E) [] (dG N vs) H s1:=iw S hr.hd e0 hl r x
 refine wpAny_mono (ht [] s1 (dG N vs) H _ I hq) (fun fl s' hs=>?_) fun e s' hs=>hs
 have fin: ∀ {σ':St} {H':Hp} {v:V} {u:Value},Inv (cY CX P w K mg base N qual scope f cdv A outer s H E) [] σ' H' s'->RelV v u->Q v H'->CE outer P w H s Q u s':=
  fun {σ' H' v u} J rv q=>⟨v,H',J.os,J.bare,J.base,J.hok,rv,q⟩
 cases fl with
 | ret u=>
  obtain ⟨v,σ',H',J,rv,q⟩:=hs
  exact fin J rv q
 | next=>
  obtain ⟨σ',H',J,q⟩:=hs
  exact fin (v:=V.non) (u:=Value.none) J rfl q
 | brk=>
  obtain ⟨_,_,_,q⟩:=hs
  exact False.elim q
 | cont=>
  obtain ⟨_,_,_,q⟩:=hs
  exact False.elim q
section
variable {X:Cx} {x:Str} {p pos:Pos} {e:Expr} {es:List Expr} {t:TA} {id T:String} {r:List V->Hp->VK->Prop}
noncomputable def tCB (r:List V->Hp->VK->Prop) (t:TA):TE:=fun σ H Q=>t σ H fun vs H1=>r vs H1 Q
theorem ao (hc:dE X (.builtin id) r) (hg:Gl X x) (hm:X.mg x=none) (hv:bootBuiltins x=some (.builtin id)) (ha:PA X (e::es) t) (hn:x≠"__name__":=by decide) (hdb:(x==("__debug__":Str))=false:=by decide)
  (he:starEach (e::es) X.env=(false,eval e X.env)::starEach es X.env:=by rfl) (hpl:(backTo pos (starEach es X.env)).any (·.1)=false:=by rfl):PE X (.Call (.Name x p) (e::es) [] pos) (tCB r t):=by
 intro pins s σ H Q I h
 refine wpAny_Call_Name_kw (dA I hg hm hv ?_ hn hdb)
 exact PyProof.Rows.callWith_builtin1 (thn (ha pos pins s σ H _ I h) fun us s1 ⟨vs,H1,I1,r1,q1⟩=>hc pins s1 σ H1 vs us Q I1 r1 q1) he hpl
theorem bq (hc:dE X (.type T) r) (hg:Gl X x) (hm:X.mg x=none) (hv:bootBuiltins x=some (.type T)) (ha:PA X (e::es) t) (hn:x≠"__name__":=by decide) (hdb:(x==("__debug__":Str))=false:=by decide)
  (he:starEach (e::es) X.env=(false,eval e X.env)::starEach es X.env:=by rfl) (hpl:(backTo pos (starEach es X.env)).any (·.1)=false:=by rfl):PE X (.Call (.Name x p) (e::es) [] pos) (tCB r t):=by
 intro pins s σ H Q I h
 refine wpAny_Call_Name_kw (dA I hg hm hv ?_ hn hdb)
 exact PyProof.Rows.callWith_type1 (thn (ha pos pins s σ H _ I h) fun us s1 ⟨vs,H1,I1,r1,q1⟩=>hc pins s1 σ H1 vs us Q I1 r1 q1) he hpl
end
end L2
namespace HT
open PySem PyProof.Rows
section
variable {prog:Program} {w:World} {A:Around} {E:Value->Shared->Prop} {s:Shared}
theorem cat_tup {t b:Addr} {vs ws:List Value} {Q:Value->Shared->Prop} (ht:IsTup s.heap t vs.toArray) (hb:IsTup s.heap b ws.toArray) (hv:vs≠[])
  (h1:ws=[]->Q (.ref t) s) (h2:ws≠[]->Q (.ref s.heap.objs.size) {s with heap:=s.heap.push {cls:=.type "tuple",data:=.seq (vs++ws).toArray}})
  (hsz:vs.length+ws.length<=sizeLine):wpAny (model prog w) A (binaryOp .Add (.ref t) (.ref b)) Q E s:=by
 obtain ⟨⟨cls,dd,data,sl⟩,ho,hc,n,hd⟩:=id ht
 obtain ⟨⟨cls2,dd2,data2,sl2⟩,ho2,hc2,n2,hd2⟩:=id hb
 simp only at hc hd hc2 hd2
 subst hc hd hc2 hd2
 have e:vs.toArray++ws.toArray=(vs++ws).toArray:=by simp
 by_cases hw:ws=[]
 ·exact concat_meets ⟨_,ho,rfl⟩ ⟨_,ho2,rfl⟩ noFill_tuple_add seq_tuple_add PySem.F.slot_tuple_add PySem.F.entry_tuple_add (PySem.F.args_tuple_add_2 _ _)
   (tuple_addW1 t b vs.toArray ws.toArray n n2 dd dd2 sl sl2 (by simpa using hv) (by simp [hw])) ⟨ho,ho2,h1 hw⟩
 ·refine concat_meets ⟨_,ho,rfl⟩ ⟨_,ho2,rfl⟩ noFill_tuple_add seq_tuple_add PySem.F.slot_tuple_add PySem.F.entry_tuple_add (PySem.F.args_tuple_add_2 _ _)
   (tuple_addW2 t b vs.toArray ws.toArray n n2 dd dd2 sl sl2 (by simpa using hv) (by simpa using hw) (by rw [List.size_toArray,List.size_toArray];exact hsz)) ⟨ho,ho2,?_⟩
  rw [e]
  exact h2 hw
noncomputable def sIx (n d:Nat):Option Int->Nat
 | none=>d
 | some v=>if v<0 then (v+ (n:Int)).toNat else min v.toNat n
theorem sIx_none (n d:Nat):sIx n d none=d:=rfl
theorem sIx_nat (n d k:Nat):sIx n d (some (k:Int))=min k n:=by
 show (if (k:Int) <0 then ((k:Int) + (n:Int)).toNat else min (k:Int).toNat n)=min k n
 rw [if_neg (by lia),Int.toNat_natCast]
theorem wu (n d:Nat) (hd:d<=n) (o:Option Int):sIx n d o<=n:=by
 cases o with
 | none=>exact hd
 | some v=>
  show (if v<0 then (v+ (n:Int)).toNat else min v.toNat n)<=n
  by_cases hv:v<0
  ·rw [if_pos hv];lia
  ·rw [if_neg hv];exact Nat.min_le_right _ _
theorem qc (v:Int) (n d:Nat):(if v<0 then max (v+ (n:Int)) 0 else min v (n:Int))=((sIx n d (some v):Nat):Int):=by
 show (if v<0 then max (v+ (n:Int)) 0 else min v (n:Int))=(((if v<0 then (v+ (n:Int)).toNat else min v.toNat n):Nat):Int)
 by_cases hv:v<0
 ·simp only [if_pos hv];lia
 ·simp only [if_neg hv];lia
theorem oR (lo hi:Option Int) (n:Nat):Builtin.Slice.sliceAdjust lo hi 1 (n:Int)=(((sIx n 0 lo:Nat):Int),((sIx n n hi:Nat):Int)):=by
 have h1: ¬ ((1:Int) <0):=by lia
 unfold Builtin.Slice.sliceAdjust
 simp only [h1,if_false]
 refine Prod.ext ?_ ?_
 ·cases lo with
  | none=>rfl
  | some v=>exact qc v n 0
 ·cases hi with
  | none=>rfl
  | some v=>exact qc v n n
theorem ou (i j:Nat):Builtin.Slice.slicePlaces (i:Int) (j:Int) 1=j-i:=by
 unfold Builtin.Slice.slicePlaces
 have h1:(1:Int) >0:=by lia
 simp only [h1,if_true,Int.ediv_one]
 split <;> lia
theorem dq {v:Value} {o:Option Int} {Q:Option Int->Shared->Prop} (p:IsPart v o) (h:Q o s):wpAny (model prog w) A (Builtin.Slice.slicePartIndex v) Q E s:=by
 cases p with
 | none=>exact slicePart_none h
 | int i t=>exact slicePart_int h
theorem il {sl:Addr} {vl vu:Value} {lo hi:Option Int} {n:Nat} {Q:Int×Int×Nat->Shared->Prop} (hs:s.heap.IsSliceOf sl vl vu .none) (pl:IsPart vl lo) (pu:IsPart vu hi)
  (h:Q (((sIx n 0 lo:Nat):Int),1,sIx n n hi-sIx n 0 lo) s):wpAny (model prog w) A (Builtin.Slice.sliceApplied (.ref sl) (pure (n:Int))) Q E s:=by
 obtain ⟨os,hos,hcs,hds⟩:=id hs
 unfold Builtin.Slice.sliceApplied Builtin.Slice.sliceFields
 refine wpAny_bind (wpAny_bind (wpAny_field hos hds (x:=vl) rfl (wpAny_bind (wpAny_field hos hds (x:=vu) rfl (wpAny_bind (wpAny_field hos hds (x:=.none) rfl (wpAny_pure ?_)))))))
 refine wpAny_bind (slicePart_none ?_)
 show wpAny _ _ (if ((1:Int)==0)=true then _ else _) _ _ s
 rw [if_neg (by decide)]
 refine wpAny_bind (dq pl (wpAny_bind (dq pu (wpAny_bind (wpAny_pure ?_)))))
 show wpAny _ _ (match Builtin.Slice.sliceAdjust lo hi 1 (n:Int)with | (lo,hi)=>pure (lo,(1:Int),Builtin.Slice.slicePlaces lo hi 1)) _ _ s
 rw [oR lo hi n]
 show wpAny _ _ (pure (((sIx n 0 lo:Nat):Int),(1:Int),Builtin.Slice.slicePlaces ((sIx n 0 lo:Nat):Int) ((sIx n n hi:Nat):Int) 1)) _ _ s
 rw [ou]
 exact wpAny_pure h
theorem sR (xs:Array Value) (i k:Nat):((List.range k).filterMap fun (m:Nat)=>xs[((i:Int) + (m:Int) *1).toNat]?).toArray=((xs.toList.drop i).take k).toArray:=by
 have e:(fun (m:Nat)=>xs[((i:Int) + (m:Int) *1).toNat]?)=fun m=>xs[i+m]? :=by
  funext m
  have:((i:Int) + (m:Int) *1).toNat=i+m:=by lia
  rw [this]
 rw [e]
 have:=pick_run xs i k
 rw [List.filterMap_map]at this
 have e2:((fun x=>xs[x]?)∘fun x=>i+x)=fun m=>xs[i+m]? :=rfl
 rw [e2]at this
 rw [this]
theorem getItem_tuple_cut {t sl:Addr} {items:Array Value} {vl vu:Value} {lo hi:Option Int} {Q:Value->Shared->Prop} (ht:IsTup s.heap t items) (hs:s.heap.IsSliceOf sl vl vu .none) (pl:IsPart vl lo) (pu:IsPart vu hi)
  (hw: ¬ (sIx items.size 0 lo=0/\sIx items.size items.size hi=items.size))
  (h:Q (.ref s.heap.objs.size) {s with heap:=s.heap.push {cls:=.type "tuple",data:=.seq ((items.toList.drop (sIx items.size 0 lo)).take (sIx items.size items.size hi-sIx items.size 0 lo)).toArray}})
  (hsz:items.size<=sizeLine):wpAny (model prog w) A (getItem (.ref t) (.ref sl)) Q E s:=by
 have htake:sizeOk (.seq ((items.toList.drop (sIx items.size 0 lo)).take (sIx items.size items.size hi-sIx items.size 0 lo)).toArray):=by
  show ((items.toList.drop (sIx items.size 0 lo)).take (sIx items.size items.size hi-sIx items.size 0 lo)).toArray.size<=sizeLine
  rw [List.size_toArray,List.length_take,List.length_drop,Array.length_toList]
  lia
 have hj:sIx items.size items.size hi<=items.size:=wu _ _ (Nat.le_refl _) hi
 obtain ⟨os,hos,hcs,hds⟩:=id hs
 have hTs:s.TypeIs (.ref sl) "slice":=⟨os,hos,hcs⟩
 unfold getItem
 try with_reducible refine wpAny_holding ?_
 first | refine wpAny_bind (wpAny_pure ?_) | skip
 refine wpAny_bind (wpAny_sequenceKey ht.typeIs (by decide) ?_)
 refine wpAny_bind (wpAny_callSpecial?_slot (name:=Str.ofString "__getitem__") ht.typeIs PyProof.Rows.slot_tuple_getitem
  (wpAny_call_entry PyProof.Rows.slot_tuple_getitem ht.typeIs entry_tuple_getitem ?_ (args_tuple_getitem _ _)))
 show wpAny _ _ (Builtin.Tuple.tupleItemsOf (.ref t) >>= _) _ _ s
 refine wpAny_bind (tupleItemsOf_ ht ?_)
 refine wpAny_bind (wpAny_typeOf hTs ?_)
 rw [if_pos (by decide)]
 refine wpAny_bind (il hs pl pu ?_)
 have hno: ¬ ((((sIx items.size 0 lo:Nat):Int)==0&&(1:Int)==1&&(sIx items.size items.size hi-sIx items.size 0 lo)==items.size)=true):=by
  intro q
  rw [Bool.and_eq_true,Bool.and_eq_true]at q
  have q1:((sIx items.size 0 lo:Nat):Int)=0:=eq_of_beq q.1.1
  have q2:sIx items.size items.size hi-sIx items.size 0 lo=items.size:=eq_of_beq q.2
  exact hw ⟨by lia,by lia⟩
 show wpAny _ _ (if (((sIx items.size 0 lo:Nat):Int)==0&&(1:Int)==1&&(sIx items.size items.size hi-sIx items.size 0 lo)==items.size)=true then _ else _) _ _ s
 rw [if_neg hno,sR]
 first
  | exact wpAny_bind (m:=Builtin.Tuple.tupleExact _) (wpAny_newObj_type (wpAny_pure ⟨_,rfl,wpAny_pure h⟩) htake)
  | exact wpAny_bind (m:=Builtin.Tuple.tupleExact _) (wpAny_newObj_type (wpAny_bind (wpAny_pure (wpAny_pure ⟨_,rfl,wpAny_pure h⟩))) htake)
  | exact wpAny_bind (wpAny_bind (m:=Builtin.Tuple.tupleExact _) (wpAny_newObj_type (wpAny_pure (wpAny_pure ⟨_,rfl,wpAny_pure h⟩)) htake))
  | exact wpAny_bind (wpAny_bind (m:=Builtin.Tuple.tupleExact _) (wpAny_newObj_type (wpAny_pure ⟨_,rfl,wpAny_pure h⟩) htake))
end
end HT
namespace L2
open PySem PySem.Spec PyProof.Rows
noncomputable abbrev TO:=St->Hp->(Option Int->Hp->Prop)->Prop
noncomputable def PO (X:Cx) (e:Option Expr) (t:TO):Prop:=
 ∀ (pins:List (Addr×Obj)) (s:Shared) (σ:St) (H:Hp) (Q:Option Int->Hp->Prop),Inv X pins σ H s->t σ H Q->
  wpAny (model X.prog X.w) X.A (evalPart e X.env) (fun u s'=> ∃ o H',Inv X pins σ H' s'/\IsPart u o/\Q o H') X.xe s
noncomputable def uO:TO:=fun _ H Q=>Q none H
inductive vQ  (x:V) (H1:Hp) (Q:(Option Int->Hp->Prop)):Prop
 | mk: ∀ i,(x=.int i)->(Q (some i) H1)->vQ x H1 Q
noncomputable def xn (t:TE):TO:=fun σ H Q=>t σ H fun x H1=>vQ x H1 Q
section
variable {X:Cx} {e:Expr} {te:TE} {lo hi:Option Expr} {tl th:TO} {pos p2:Pos}
theorem a9:PO X none uO:=by
 intro pins s σ H Q I h
 rw [evalPart_none]
 exact wpAny_pure ⟨none,H,I,.none,h⟩
theorem aQ (h:PE X e te):PO X (some e) (xn te):=by
 intro pins s σ H Q I hw
 rw [evalPart_some]
 refine thn (h pins s σ H _ I hw) fun u s1 ⟨x,H1,I1,r1,q1⟩=>?_
 obtain ⟨i,rfl,q⟩:=q1
 obtain ⟨t,rfl⟩:=r1
 exact ⟨some i,H1,I1,.int i t,q⟩
noncomputable def SlR (X:Cx) (r:V->Option Int->Option Int->Hp->VK->Prop):Prop:=
 ∀ (pins:List (Addr×Obj)) (s:Shared) (σ:St) (H:Hp) (x:V) (v vl vu:Value) (lo hi:Option Int) (sl:Addr) (Q:VK),Inv X pins σ H s->RelV x v->s.heap.IsSliceOf sl vl vu .none->IsPart vl lo->IsPart vu hi->r x lo hi H Q->
  ∃ T id,typeLookup (.type T) "__getitem__"=pure (some (.builtin id))/\s.TypeIs v T/\wpAny (model X.prog X.w) X.A (getItem v (.ref sl)) (EP X pins σ Q) X.xe s
noncomputable def tSl (r:V->Option Int->Option Int->Hp->VK->Prop) (te:TE) (tl th:TO):TE:=fun σ H Q=>te σ H fun x H1=>tl σ H1 fun l H2=>th σ H2 fun u H3=>r x l u H3 Q
theorem aP {r:V->Option Int->Option Int->Hp->VK->Prop} (hr:SlR X r) (he:PE X e te) (hl:PO X lo tl) (hu:PO X hi th):PE X (.Subscript e (.Slice lo hi none p2) pos) (tSl r te tl th):=by
 intro pins s σ H Q I h
 refine Subscript_ (thn (he pins s σ H _ I h) fun v s1 ⟨x,H1,I1,r1,q1⟩=>?_)
 refine wpAny_Slice (thn (hl pins s1 σ H1 _ I1 q1) fun vl s2 ⟨l,H2,I2,pl,q2⟩=>thn (hu pins s2 σ H2 _ I2 q2) fun vu s3 ⟨u,H3,I3,pu,q3⟩=>?_)
 rw [evalPart_none]
 refine wpAny_pure ?_
 have I4:Inv X pins σ H3 {s3 with heap:=s3.heap.push {cls:=.type "slice",data:=.fields #[vl,vu,.none]}}:=I3.kept (t':=s3.toks) fun b ob q=>Heap.get?_push_of_some _ q
 obtain ⟨T,id,hT,ht,hg⟩:=hr pins {s3 with heap:=s3.heap.push {cls:=.type "slice",data:=.fields #[vl,vu,.none]}} σ H3 x v vl vu l u s3.heap.objs.size Q I4 r1 (Heap.IsSliceOf.new ..) pl pu q3
 show wpAny (model X.prog X.w) X.A (subscriptTail e (.Slice lo hi none p2) v (.ref s3.heap.objs.size)) (EP X pins σ Q) X.xe {s3 with heap:=s3.heap.push {cls:=.type "slice",data:=.fields #[vl,vu,.none]}}
 exact tail_any (ops:=[.ref s3.heap.objs.size,v]) ht hT hg (by with_unfolding_all rfl)
noncomputable def gn (xs:List V) (lo hi:Option Int):List V:=(xs.drop (HT.sIx xs.length 0 lo)).take (HT.sIx xs.length xs.length hi-HT.sIx xs.length 0 lo)
theorem iJ (xs:List V) (lo hi:Option Int):(gn xs lo hi).length<=xs.length:=by
 unfold gn
 rw [List.length_take,List.length_drop]
 lia
inductive xA (K:PySem.W.Frag) (x:V) (lo:Option Int) (hi:Option Int) (H:Hp) (Q:VK):Prop
 | mk: ∀ a xs,(x=.ref a)->(SqT K H a xs)->(¬ (HT.sIx xs.length 0 lo=0/\HT.sIx xs.length xs.length hi=xs.length))->(∀ p,H p=none->Q (.ref p) (upd H p (.tup (gn xs lo hi))))->xA K x lo hi H Q
theorem wo:SlR X (xA X.K):=by
 intro pins s σ H x v vl vu lo hi sl Q I rx hs pl pu h
 obtain ⟨a,xs,rfl,hx,hw,q⟩:=h
 cases rx
 obtain ⟨its,r,ht,hz⟩:=I.tuple hx
 have hlen:its.toArray.size=xs.length:=by rw [List.size_toArray];exact r.length.symm
 refine ⟨"tuple",_,PyProof.Rows.slot_tuple_getitem.lookup,ht.typeIs,?_⟩
 refine HT.getItem_tuple_cut ht hs pl pu (by rw [hlen];exact hw) ?_ (by rw [hlen];exact hz)
 rw [hlen]
 refine ⟨.ref s.heap.objs.size,_,I.laid (t':=s.toks) (o:=.tup (gn xs lo hi)) (fun b ob q=>Heap.get?_push_of_some _ q) (Nat.le_refl _) ?_,rfl,q _ (I.hok.fresh (Nat.le_refl _))⟩
 exact ⟨Nat.le_trans (iJ xs lo hi) hz,_,(r.drop (HT.sIx xs.length 0 lo)).take (HT.sIx xs.length xs.length hi-HT.sIx xs.length 0 lo),IsTup.new _ _⟩
inductive vR (K:PySem.W.Frag) (x:V) (y:V) (H:Hp) (Q:VK):Prop
 | mk: ∀ a b xs ys,(x=.ref a)->(y=.ref b)->(SqT K H a xs)->(SqT K H b ys)->(xs≠[])->(xs.length+ys.length<=sizeLine)->((ys=[]->Q (.ref a) H))->((ys≠[]-> ∀ p,H p=none->Q (.ref p) (upd H p (.tup (xs++ys)))))->vR K x y H Q
theorem Vals.nil_iff {xs:List V} {us:List Value} (r:Vals xs us):us=[]↔xs=[]:=by
 cases r with
 | nil=>simp
 | cons _ _=>simp
theorem u3:OpR X (binaryOp .Add) (vR X.K):=by
 intro pins s σ H x y v u Q I rx ry h
 obtain ⟨a,b,xs,ys,rfl,rfl,ha,hb,hx,hz,q1,q2⟩:=h
 cases rx
 cases ry
 obtain ⟨its,r1,p1,_⟩:=I.tuple ha
 obtain ⟨its2,r2,p2,_⟩:=I.tuple hb
 refine HT.cat_tup p1 p2 (fun z=>hx (r1.nil_iff.mp z)) (fun z=>⟨.ref a,H,I,rfl,q1 (r2.nil_iff.mp z)⟩) (fun z=>?_) (by rw [<- r1.length,<- r2.length];exact hz)
 refine ⟨.ref s.heap.objs.size,_,I.laid (t':=s.toks) (o:=.tup (xs++ys)) (fun b ob q=>Heap.get?_push_of_some _ q) (Nat.le_refl _) ?_,rfl,q2 (fun w=>z (r2.nil_iff.mpr w)) _ (I.hok.fresh (Nat.le_refl _))⟩
 exact ⟨by rw [List.length_append];exact hz,_,r1.append r2,IsTup.new _ _⟩
end
noncomputable def ixN (n:Nat) (i:Int):Option Nat:=if 0<=i then (if i<n then some i.toNat else none)else if -(n:Int)<=i then some (i+n).toNat else none
noncomputable def atI {α:Type} (xs:List α) (i:Int):Option α:=(ixN xs.length i).bind fun j=>xs[j]?
theorem pS {n:Nat} {i:Int} {j:Nat} (h:ixN n i=some j):seqIndex? i n=some j/\j<n/\ -(n:Int)<=i/\i<n:=by
 unfold ixN at h
 by_cases h0:0<=i
 ·rw [if_pos h0]at h
  by_cases h1:i<n
  ·rw [if_pos h1]at h
   have e:i.toNat=j:=Option.some.inj h
   exact ⟨by rw [seqIndex_of h0 h1,e],by lia,by lia,h1⟩
  ·rw [if_neg h1]at h;cases h
 ·rw [if_neg h0]at h
  by_cases h1: -(n:Int)<=i
  ·rw [if_pos h1]at h
   have e:(i+n).toNat=j:=Option.some.inj h
   exact ⟨by rw [seqIndex_neg (by lia) h1,e],by lia,h1,by lia⟩
  ·rw [if_neg h1]at h;cases h
theorem lX {α:Type} {xs:List α} {i:Int} {v:α} (h:atI xs i=some v): ∃ j,seqIndex? i xs.length=some j/\xs[j]? =some v/\j<xs.length/\ -(xs.length:Int)<=i/\i<xs.length:=by
 unfold atI at h
 cases e:ixN xs.length i with
 | none=>rw [e]at h;cases h
 | some j=>
  rw [e]at h
  obtain ⟨h1,h2,h3,h4⟩:=pS e
  exact ⟨j,h1,h,h2,h3,h4⟩
theorem ay {α:Type} {xs:List α} {j:Nat} {v:α} (h:xs[j]? =some v):atI xs (j:Int)=some v:=by
 have hj:j<xs.length:=(List.getElem?_eq_some_iff.mp h).1
 have e:ixN xs.length (j:Int)=some j:=by
  unfold ixN
  rw [if_pos (by lia),if_pos (by lia)];simp
 unfold atI;rw [e];exact h
noncomputable def vJ (b:Expr):Prop:= ∀ o i,subscripted b false o i=operate [o,i] (getItem o i)
noncomputable def IxR (X:Cx) (r:R2):Prop:=
 ∀ (value slice:Expr) (pins:List (Addr×Obj)) (s:Shared) (σ:St) (H:Hp) (x y:V) (v u:Value) (Q:VK),Inv X pins σ H s->RelV x v->RelV y u->r x y H Q->
  subscripted slice false v u=operate [v,u] (getItem v u)->wpAny (model X.prog X.w) X.A (subscriptTail value slice v u) (EP X pins σ Q) X.xe s
noncomputable def MtR (X:Cx) (id:String) (r:V->List V->Hp->VK->Prop):Prop:=
 ∀ (pins:List (Addr×Obj)) (s:Shared) (σ:St) (H:Hp) (x:V) (xs:List V) (v:Value) (us:List Value) (Q:VK),Inv X pins σ H s->RelV x v->Vals xs us->r x xs H Q->
  wpAny (model X.prog X.w) X.A (call (.builtin id) (v::us)) (EP X pins σ Q) X.xe s
section
variable {X:Cx} {a b:Expr} {ta tb:TE} {pos:Pos}
theorem au {r:R2} (hr:IxR X r) (ha:PE X a ta) (hb:PE X b tb) (hs:vJ b):PE X (.Subscript a b pos) (tOp r ta tb):=by
 intro pins s σ H Q I h
 exact Subscript_ (xa ha hb I h fun v u s2 x y H2 I2 rx ry q=>hr a b pins s2 σ H2 x y v u Q I2 rx ry q (hs _ _))
inductive cD (K:PySem.W.Frag) (x:V) (y:V) (H:Hp) (Q:VK):Prop
 | mk: ∀ p xs i v,(x=.ref p)->(y=.int i)->(SqL K H p xs)->(atI xs i=some v)->(Q v H)->cD K x y H Q
inductive aV (K:PySem.W.Frag) (x:V) (y:V) (H:Hp) (Q:VK):Prop
 | mk: ∀ p xs i v,(x=.ref p)->(y=.int i)->(SqT K H p xs)->(atI xs i=some v)->(Q v H)->aV K x y H Q
inductive xD  (x:V) (y:V) (H:Hp) (Q:VK):Prop
 | mk: ∀ z i c,(x=.str z)->(y=.int i)->(z.length<=sizeLine)->(atI z.cps.toList i=some c)->(Q (.str ⟨#[c]⟩) H)->xD x y H Q
theorem aW:IxR X (cD X.K):=by
 intro value slice pins s σ H x y v u Q I rx ry h hs
 obtain ⟨p,xs,i,z,rfl,rfl,hq,he,q⟩:=h
 cases rx
 obtain ⟨t,rfl⟩:=ry
 obtain ⟨its,r,pl,hz⟩:=I.list hq
 obtain ⟨j,h1,h2,h3,h4,h5⟩:=lX he
 obtain ⟨w,ew,rw'⟩:=r.get h2
 have hl:=r.length
 have hn:=gj
 have fin:EP X pins σ Q w s:=⟨z,H,I,rw',q⟩
 by_cases h0:0<=i
 ·have hj:i.toNat=j:=by
   rw [seqIndex_of h0 h5]at h1
   exact Option.some.inj h1
  exact item_listR pl.isList h0 (by lia) (by rw [hj];simpa using ew) fin hs
 ·have hj:(i+ (its.toArray.size:Int)).toNat=j:=by
   rw [seqIndex_neg (by lia) h4]at h1
   rw [List.size_toArray,<- hl]
   exact Option.some.inj h1
  exact subscriptTail_builtinR (x:=w) pl.isList.typeIs slot_list_getitem.lookup
   (wpAny_getItem_list_neg (Q:=fun r s'=>r=w/\EP X pins σ Q r s') pl.isList (by lia) (by rw [List.size_toArray] <;> lia) (by lia) (by rw [hj];simpa using ew) ⟨rfl,fin⟩) hs
theorem ax:IxR X (aV X.K):=by
 intro value slice pins s σ H x y v u Q I rx ry h hs
 obtain ⟨p,xs,i,z,rfl,rfl,hq,he,q⟩:=h
 cases rx
 obtain ⟨t,rfl⟩:=ry
 obtain ⟨its,r,pl,hz⟩:=I.tuple hq
 obtain ⟨j,h1,h2,h3,h4,h5⟩:=lX he
 obtain ⟨w,ew,rw'⟩:=r.get h2
 have hl:=r.length
 have hn:=gj
 have fin:EP X pins σ Q w s:=⟨z,H,I,rw',q⟩
 exact subscriptTail_builtinR (x:=w) pl.typeIs slot_tuple_getitem.lookup
  (getItem_tuple (j:=j) (Q:=fun r s'=>r=w/\EP X pins σ Q r s') pl (by lia) (by lia) (by rw [List.size_toArray,<- hl];exact h1) (by simpa using ew) ⟨rfl,fin⟩) hs
theorem ju:IxR X xD:=by
 intro value slice pins s σ H x y v u Q I rx ry h hs
 obtain ⟨z,i,c,rfl,rfl,hz,he,q⟩:=h
 obtain ⟨t,rfl⟩:=rx
 obtain ⟨t',rfl⟩:=ry
 obtain ⟨j,h1,h2,h3,h4,h5⟩:=lX he
 have hl:z.cps.toList.length=z.length:=by simp [Str.length]
 rw [hl]at h1 h4 h5
 have hn:=gj
 exact tail_any (typeIs_str s z t) slot_str_getitem.lookup (getItem_str (c:=c) (by
  have e1:decide (i< -(2^63:Int))=false:=decide_eq_false (by lia)
  have e2:decide (i≥2^63)=false:=decide_eq_false (by lia)
  rw [e1,e2,Bool.or_false]) (by rw [h1];simpa using h2) ⟨.str ⟨#[c]⟩,H,I.tok _,⟨_,rfl⟩,q⟩) hs
theorem oJ (its:List Value) (n j:Nat) (u:Value):Obj.mapSeq (·.setIfInBounds j u) {cls:=.type "list",data:=.seq its.toArray n}={cls:=.type "list",data:=.seq (its.set j u).toArray n}:=by
 simp [Obj.mapSeq]
theorem Inv.lst {pins:List (Addr×Obj)} {σ:St} {H:Hp} {s:Shared} {p:Addr} {xs:List V} (I:Inv X pins σ H s) (h:H p=some (.lst xs)):
  ∃ (its:List Value) (n:Nat),Vals xs its/\s.heap.get? p=some {cls:=.type "list",data:=.seq its.toArray n}/\xs.length<=sizeLine:=by
 obtain ⟨z,its,n,r,e⟩:=I.hok p _ h
 exact ⟨its,n,r,e,z⟩
theorem Inv.lstUpd {pins:List (Addr×Obj)} {σ:St} {H:Hp} {s:Shared} {p:Addr} {xs ys:List V} {its its':List Value} {n n':Nat} {f:Obj->Obj} (I:Inv X pins σ H s) (h:H p=some (.lst xs))
  (ho:s.heap.get? p=some {cls:=.type "list",data:=.seq its.toArray n}) (hf:f {cls:=.type "list",data:=.seq its.toArray n}={cls:=.type "list",data:=.seq its'.toArray n'}) (r:Vals ys its') (hz:ys.length<=sizeLine) (t:Nat):
  Inv X pins σ (upd H p (.lst ys)) {s with heap:=s.heap.update p f,toks:=t}:=by
 have e:(s.heap.update p f).get? p=some {cls:=.type "list",data:=.seq its'.toArray n'}:=by
  rw [Heap.get?_update_self f ho (by rw [hf] <;> rfl),hf]
 refine I.write (x:=p) (e:=p) (by rw [h];trivial) (.inl rfl) (fun b u hb q=>(Heap.get?_update_other _ _ (Ne.symm hb)).trans q) ⟨_,e⟩ ?_
 exact ⟨hz,its',n',r,e⟩
inductive vO  (o:V) (i:V) (v:V) (H:Hp) (Q:(Hp->Prop)):Prop
 | mk: ∀ p xs k j,(o=.ref p)->(i=.int k)->(H p=some (.lst xs))->(ixN xs.length k=some j)->(Q (upd H p (.lst (xs.set j v))))->vO o i v H Q
theorem sj:yc X vO:=by
 intro pins s σ H o i v ov iv u Q I ro ri rv h
 obtain ⟨p,xs,k,j,rfl,rfl,hp,hj,q⟩:=h
 cases ro
 obtain ⟨t,rfl⟩:=ri
 obtain ⟨its,n,r,ho,hz⟩:=I.lst hp
 obtain ⟨h1,h2,h3,h4⟩:=pS hj
 have hl:=r.length
 have hn:=gj
 have I':Inv X pins σ (upd H p (.lst (xs.set j v))) {s with heap:=s.heap.update p (Obj.mapSeq (·.setIfInBounds j u))}:=
  I.lstUpd hp ho (oJ its n j u) (r.set rv j) (by rw [List.length_set];exact hz) s.toks
 by_cases h0:0<=k
 ·have hk:k.toNat=j:=by
   rw [seqIndex_of h0 h4]at h1
   exact Option.some.inj h1
  exact PySem.W.ki_setAt ho h0 (by lia) (by rw [List.size_toArray,<- hl];exact h4) (by rw [hk];exact ⟨_,I',q⟩)
 ·have hk:(k+ (its.toArray.size:Int)).toNat=j:=by
   rw [seqIndex_neg (by lia) h3]at h1
   rw [List.size_toArray,<- hl]
   exact Option.some.inj h1
  exact PySem.W.ki_setBack ho (by lia) (by rw [List.size_toArray,<- hl];exact h3) (by lia) (by rw [hk];exact ⟨_,I',q⟩)
theorem lm (lo hi:Option Int) (n:Nat):(sliceBounds lo hi none n).1=((HT.sIx n 0 lo:Nat):Int)/\(sliceBounds lo hi none n).2.1=((HT.sIx n n hi:Nat):Int)/\(sliceBounds lo hi none n).2.2=1:=by
 refine ⟨?_,?_,rfl⟩
 ·cases lo with
  | none=>simp [sliceBounds,HT.sIx]
  | some i=>
   simp only [sliceBounds,HT.sIx,Option.getD_none,show (1:Int) >0 by decide,if_true]
   by_cases h:i<0
   ·simp only [h,if_true] <;> lia
   ·simp only [h,if_false] <;> lia
 ·cases hi with
  | none=>simp [sliceBounds,HT.sIx]
  | some i=>
   simp only [sliceBounds,HT.sIx,Option.getD_none,show (1:Int) >0 by decide,if_true]
   by_cases h:i<0
   ·simp only [h,if_true] <;> lia
   ·simp only [h,if_false] <;> lia
theorem jO (its:List Value) (lo hi:Option Int):slicePick its.toArray lo hi none=((its.drop (HT.sIx its.length 0 lo)).take (HT.sIx its.length its.length hi-HT.sIx its.length 0 lo)).toArray:=by
 obtain ⟨h1,h2,h3⟩:=lm lo hi its.toArray.size
 unfold slicePick
 rw [h1,h2,h3]
 simp only [sliceRange_one,pick_run,List.size_toArray] <;> rfl
inductive xC (K:PySem.W.Frag) (x:V) (lo:Option Int) (hi:Option Int) (H:Hp) (Q:VK):Prop
 | mk: ∀ a xs,(x=.ref a)->(SqL K H a xs)->(∀ p,H p=none->Q (.ref p) (upd H p (.lst (gn xs lo hi))))->xC K x lo hi H Q
theorem df:SlR X (xC X.K):=by
 intro pins s σ H x v vl vu lo hi sl Q I rx hs pl pu h
 obtain ⟨a,xs,rfl,hx,q⟩:=h
 cases rx
 obtain ⟨its,r,ht,hz⟩:=I.list hx
 have hlen:=r.length
 refine ⟨"list",_,slot_list_getitem.lookup,ht.isList.typeIs,?_⟩
 refine wpAny_getItem_list_slice ht.isList hs pl pu .none (by simp) ?_ (by rw [List.size_toArray] <;> lia)
 rw [jO,<- hlen]
 refine ⟨.ref s.heap.objs.size,_,I.laid (t':=s.toks) (o:=.lst (gn xs lo hi)) (fun b ob q=>Heap.get?_push_of_some _ q) (Nat.le_refl _) ?_,rfl,q _ (I.hok.fresh (Nat.le_refl _))⟩
 exact ⟨Nat.le_trans (iJ xs lo hi) hz,_,0,(r.drop (HT.sIx xs.length 0 lo)).take (HT.sIx xs.length xs.length hi-HT.sIx xs.length 0 lo),Heap.get?_push_size _ rfl⟩
noncomputable def hX:V->Bool
 | .non=>true
 | .bl _=>true
 | .int _=>true
 | .str _=>true
 | _=>false
noncomputable def eqV:V->V->Bool
 | .non,.non=>true
 | .bl a,.bl b=>a==b
 | .bl a,.int b=>(if a then 1 else 0)==b
 | .int a,.bl b=>a==(if b then 1 else 0)
 | .int a,.int b=>a==b
 | .str a,.str b=>a==b
 | _,_=>false
theorem wW {A:Around} {s:Shared} {y x:V} {u v:Value} (ry:RelV y u) (rx:RelV x v) (fy:hX y=true) (fx:hX x=true):SeqAt.EqAt A s u v (eqV y x):=by
 cases y with
 | non=>
  cases ry
  cases x with
  | non=>cases rx;exact SeqAt.EqAt.same _
  | bl b=>cases rx;exact SeqAt.EqAt.none_bool b
  | int b=>obtain ⟨t,rfl⟩:=rx;exact SeqAt.EqAt.none_int b t
  | str b=>obtain ⟨t,rfl⟩:=rx;exact SeqAt.EqAt.none_str b t
  | _=>exact absurd (show false=true from fx) Bool.false_ne_true
 | bl a=>
  cases ry
  cases x with
  | non=>cases rx;exact SeqAt.EqAt.bool_none a
  | bl b=>cases rx;exact SeqAt.EqAt.bool_bool a b
  | int b=>obtain ⟨t,rfl⟩:=rx;exact SeqAt.EqAt.bool_int a b t
  | str b=>obtain ⟨t,rfl⟩:=rx;exact SeqAt.EqAt.bool_str a b t
  | _=>exact absurd (show false=true from fx) Bool.false_ne_true
 | int a=>
  obtain ⟨t',rfl⟩:=ry
  cases x with
  | non=>cases rx;exact SeqAt.EqAt.int_none a t'
  | bl b=>cases rx;exact SeqAt.EqAt.int_bool a t' b
  | int b=>obtain ⟨t,rfl⟩:=rx;exact SeqAt.EqAt.int_int a t' b t
  | str b=>obtain ⟨t,rfl⟩:=rx;exact SeqAt.EqAt.int_str a t' b t
  | _=>exact absurd (show false=true from fx) Bool.false_ne_true
 | str a=>
  obtain ⟨t',rfl⟩:=ry
  cases x with
  | non=>cases rx;exact SeqAt.EqAt.str_none a t'
  | bl b=>cases rx;exact SeqAt.EqAt.str_bool a t' b
  | int b=>obtain ⟨t,rfl⟩:=rx;exact SeqAt.EqAt.str_int a t' b t
  | str b=>obtain ⟨t,rfl⟩:=rx;exact SeqAt.EqAt.str_str a t' b t
  | _=>exact absurd (show false=true from fx) Bool.false_ne_true
 | _=>exact absurd (show false=true from fy) Bool.false_ne_true
noncomputable def eqU (x:V) (u:Value):Bool:=match u with
 | .none=>eqV .non x
 | .bool b=>eqV (.bl b) x
 | .int i _=>eqV (.int i) x
 | .str z _=>eqV (.str z) x
 | _=>false
theorem uk {x y:V} {u:Value} (r:RelV y u) (f:hX y=true):eqU x u=eqV y x:=by
 cases y with
 | non=>cases r;rfl
 | bl b=>cases r;rfl
 | int i=>obtain ⟨t,rfl⟩:=r;rfl
 | str z=>obtain ⟨t,rfl⟩:=r;rfl
 | _=>exact absurd (show false=true from f) Bool.false_ne_true
theorem lZ {x:V}: ∀ {xs:List V} {us:List Value},Vals xs us->xs.all hX=true->us.any (eqU x)=xs.any fun y=>eqV y x
 | _,_,.nil,_=>rfl
 | y::xs,u::us,.cons r t,f=>by
  rw [List.all_cons,Bool.and_eq_true]at f
  rw [List.any_cons,List.any_cons,uk r f.1,lZ t f.2]
theorem jr {A:Around} {s:Shared} {x:V} {v:Value} (rx:RelV x v) (fx:hX x=true): ∀ {xs:List V} {us:List Value},Vals xs us->xs.all hX=true-> ∀ u∈us,SeqAt.EqAt A s u v (eqU x u)
 | _,_,.nil,_=>fun u hu=>by cases hu
 | y::xs,u::us,.cons r t,f=>fun u' hu=>by
  rw [List.all_cons,Bool.and_eq_true]at f
  rcases List.mem_cons.mp hu with rfl | hu
  ·rw [uk r f.1];exact wW r rx f.1 fx
  ·exact jr rx fx t f.2 u' hu
noncomputable def inV (x:V) (xs:List V):Bool:=xs.any fun y=>eqV y x
inductive rIn (K:PySem.W.Frag) (neg:Bool) (x:V) (y:V) (H:Hp) (Q:VK):Prop
 | mk: ∀ p xs,(y=.ref p)->((SqL K H p xs\/SqT K H p xs))->(hX x=true)->(xs.all hX=true)->(Q (.bl (if neg then !inV x xs else inV x xs)) H)->rIn K neg x y H Q
theorem lM:OpR X (compareOp .NotIn) (rIn X.K true):=by
 intro pins s σ H x y v u Q I rx ry h
 obtain ⟨p,xs,rfl,hq,fx,fs,q⟩:=h
 cases ry
 rcases hq with hq | hq
 ·obtain ⟨its,r,pl,hz⟩:=I.list hq
  refine SeqAt.notIn_listAt (eqU x) pl.isList (fun w hw=>jr rx fx r fs w (by simpa using hw)) ⟨.bl _,H,I,rfl,?_⟩
  rw [show its.toArray.any (eqU x)=its.any (eqU x) by simp,lZ r fs]
  exact q
 ·obtain ⟨its,r,pl,hz⟩:=I.tuple hq
  refine SeqAt.notIn_tupleAt (eqU x) pl (fun w hw=>jr rx fx r fs w (by simpa using hw)) ⟨.bl _,H,I,rfl,?_⟩
  rw [show its.toArray.any (eqU x)=its.any (eqU x) by simp,lZ r fs]
  exact q
inductive cA (K:PySem.W.Frag) (xs:List V) (H:Hp) (Q:VK):Prop
 | mk: ∀ p ys,(xs=[.ref p])->((SqL K H p ys\/SqT K H p ys))->(Q (.int ys.length) H)->cA K xs H Q
theorem aw:dE X (.builtin "len") (cA X.K):=by
 intro pins s σ H xs us Q I r h
 obtain ⟨p,ys,rfl,hq,q⟩:=h
 obtain ⟨u,rfl,rx⟩:=iD r
 cases rx
 have hn:=gj
 rcases hq with hq | hq
 ·obtain ⟨its,r',pl,hz⟩:=I.list hq
  have hlen:=r'.length
  exact Calls.call_len_list pl.isList (by simp only [List.size_toArray] <;> lia) ⟨.int ys.length,H,I.tok _,⟨s.toks+1,by rw [List.size_toArray,hlen]⟩,q⟩
 ·obtain ⟨its,r',pl,hz⟩:=I.tuple hq
  have hlen:=r'.length
  exact len_tuple pl (by simp only [List.size_toArray] <;> lia) ⟨.int ys.length,H,I.tok _,⟨s.toks+1,by rw [List.size_toArray,hlen]⟩,q⟩
theorem cS:dE X (.builtin "len") (fun xs H Q=> ∃ z,xs=[.str z]/\z.length<=sizeLine/\Q (.int z.length) H):=by
 intro pins s σ H xs us Q I r h
 obtain ⟨z,rfl,hz,q⟩:=h
 obtain ⟨u,rfl,t,rfl⟩:=iD r
 have hn:=gj
 exact len_str (by lia) ⟨.int z.length,H,I.tok _,⟨_,rfl⟩,q⟩
inductive dv (K:PySem.W.Frag) (xs:List V) (H:Hp) (Q:VK):Prop
 | mk: ∀ p ys,(xs=[.ref p])->(((SqL K H p ys/\ ∀ l,H l=none->Q (.ref l) (upd H l (.tup ys)))\/(SqT K H p ys/\Q (.ref p) H)))->dv K xs H Q
theorem bn:dE X (.type "tuple") (dv X.K):=by
 intro pins s σ H xs us Q I r h
 obtain ⟨p,ys,rfl,h⟩:=h
 obtain ⟨u,rfl,rx⟩:=iD r
 cases rx
 rcases h with ⟨hq,q⟩ | ⟨hq,q⟩
 ·obtain ⟨its,r',pl,hz⟩:=I.list hq
  have hlen:=r'.length
  refine call_tuple_list pl.isList (fun h' kp=>?_) (by simp only [List.size_toArray] <;> lia)
  have I1:Inv X pins σ H {s with heap:=h'}:=I.kept (t':=s.toks) kp
  have I2:Inv X pins σ (upd H h'.objs.size (.tup ys)) {s with heap:=h'.push {cls:=.type "tuple",data:=.seq its.toArray}}:=
   I1.laid (t':=s.toks) (fun b o e=>Heap.get?_push_of_some _ e) (Nat.le_refl _) (show ObjOk X.prog X.w _ _ _ (.tup ys)from ⟨hz,its,r',IsTup.new _ _⟩)
  exact ⟨.ref h'.objs.size,_,I2,rfl,q _ (I1.hok.fresh (Nat.le_refl _))⟩
 ·obtain ⟨its,r',pl,hz⟩:=I.tuple hq
  exact call_tuple_same pl ⟨.ref p,H,I,rfl,q⟩
noncomputable def tyV (K:PySem.W.Frag) (T:String) (x:V) (H:Hp):Prop:=match x with
 | .str _=>T="str"
 | .int _=>T="int"
 | .ref p=>(T="list"/\ ∃ xs,SqL K H p xs)\/(T="tuple"/\ ∃ o,K.lookup p=some o/\o.cls=.type "tuple"/\o.dict=none)\/
   (T="dict"/\((∃ kvs,H p=some (.dK kvs))\/ ∃ kvs,H p=some (.dT kvs)))\/(T="set"/\ ∃ S n,H p=some (.set S n))
 | _=>False
theorem nK {pins:List (Addr×Obj)} {σ:St} {H:Hp} {s:Shared} {T:String} {x:V} {v:Value} (I:Inv X pins σ H s) (r:RelV x v) (ty:tyV X.K T x H):
  s.TypeIs v T/\ ∀ a,v=.ref a-> ∃ ob,s.heap.get? a=some ob/\ob.dict=none:=by
 cases x with
 | str z=>
  obtain ⟨t,rfl⟩:=r
  cases (show T="str" from ty)
  exact ⟨typeIs_str s z t,fun _ e=>nomatch e⟩
 | int i=>
  obtain ⟨t,rfl⟩:=r
  cases (show T="int" from ty)
  exact ⟨typeIs_int s i t,fun _ e=>nomatch e⟩
 | ref p=>
  cases r
  rcases ty with ⟨rfl,xs,hq⟩ | ⟨rfl,o,hk,hc,hd⟩ | ⟨rfl,hk⟩ | ⟨rfl,S,n,hk⟩
  ·obtain ⟨its,_,pl,_⟩:=I.list hq
   refine ⟨pl.isList.typeIs,fun a e=>?_⟩
   cases e
   obtain ⟨o,n,e,c,hd,_⟩:=pl
   exact ⟨o,e,hd⟩
  ·refine ⟨⟨o,I.kIn p o hk,hc⟩,fun a e=>?_⟩
   cases e
   exact ⟨o,I.kIn _ o hk,hd⟩
  ·have z: ∃ o,s.heap.get? p=some o/\o.ExactDict:=by
    rcases hk with ⟨kvs,hk⟩ | ⟨kvs,hk⟩
    ·obtain ⟨_,_,_,_,o,_,_,e,ex,_⟩:=I.hok p _ hk
     exact ⟨o,e,ex⟩
    ·obtain ⟨_,_,_,_,o,_,_,e,ex,_⟩:=I.hok p _ hk
     exact ⟨o,e,ex⟩
   obtain ⟨o,e,ex⟩:=z
   refine ⟨⟨o,e,ex.1⟩,fun a e2=>?_⟩
   cases e2
   exact ⟨o,e,ex.2.1⟩
  ·obtain ⟨o,_,_,_,e,ex,_⟩:=I.hok p _ hk
   refine ⟨⟨o,e,ex.1⟩,fun a e2=>?_⟩
   cases e2
   exact ⟨o,e,ex.2.1⟩
 | _=>exact False.elim ty
noncomputable def wj (K:PySem.W.Frag) (T:String) (r:V->List V->Hp->VK->Prop) (to:TE):TE:=fun σ H Q=>to σ H fun x H1=>tyV K T x H1/\r x [] H1 Q
noncomputable def tBM (K:PySem.W.Frag) (T:String) (r:V->List V->Hp->VK->Prop) (to:TE) (t:TA):TE:=fun σ H Q=>to σ H fun x H1=>tyV K T x H1/\t σ H1 fun xs H2=>r x xs H2 Q
variable {o e:Expr} {es:List Expr} {to:TE} {t:TA} {name:Str} {apos cpos:Pos} {T id:String} {r:V->List V->Hp->VK->Prop}
theorem jk (pa:PlainAttrs T) (slot:Slot T name id) (hty:typeOf (.builtin id)=pure (.type "method_descriptor")) (hm:MtR X id r) (ho:PE X o to)
  (hbase:attributeBase o name X.env (eval o X.env)=eval o X.env:=by rfl) (hline:(apos.endLine==cpos.line)=true:=by rfl):PE X (.Call (.Attribute o name apos) [] [] cpos) (wj X.K T r to):=by
 intro pins s σ H Q I h
 refine wpAny_Call_method0_late hbase hline (thn (ho pins s σ H _ I h) fun v s1 ⟨x,H1,I1,r1,ty,q1⟩=>?_)
 obtain ⟨h1,h2⟩:=nK I1 r1 ty
 exact ⟨T,id,pa,slot,hty,h1,h2,Calls.callWith_builtin rfl (PySem.evalArgs_none (hm pins s1 σ H1 x [] v [] Q I1 r1 .nil q1))⟩
theorem dw (pa:PlainAttrs T) (slot:Slot T name id) (hty:typeOf (.builtin id)=pure (.type "method_descriptor")) (hm:MtR X id r) (ho:PE X o to) (ha:PA X (e::es) t)
  (hbase:attributeBase o name X.env (eval o X.env)=eval o X.env:=by rfl)
  (hfew:((backTo cpos (starEach (e::es) X.env)).all (fun x=> !x.1)&&(backToKw cpos (keywordEach [] X.env)).all (fun x=>x.1.isSome)
   &&decide ((e::es).length+ ([]:List Keyword).length+ (if ([]:List Keyword).isEmpty then 0 else 1) <30))=true:=by rfl)
  (hline:(apos.endLine==cpos.line)=true:=by rfl) (hs:starEach (e::es) X.env=(false,eval e X.env)::starEach es X.env:=by rfl) (hplain:(backTo cpos (starEach es X.env)).any (·.1)=false:=by rfl):
  PE X (.Call (.Attribute o name apos) (e::es) [] cpos) (tBM X.K T r to t):=by
 intro pins s σ H Q I h
 refine wpAny_Call_method_late hbase hfew hline rfl (thn (ho pins s σ H _ I h) fun v s1 ⟨x,H1,I1,r1,ty,q1⟩=>?_)
 obtain ⟨h1,h2⟩:=nK I1 r1 ty
 refine ⟨T,id,pa,slot,hty,h1,h2,?_⟩
 have hA:=ha cpos pins s1 σ H1 _ I1 q1
 rw [hs]at hA ⊢
 refine Calls.callWith_builtin (by show (false||(backTo cpos (starEach es X.env)).any (·.1))=false;rw [hplain] <;> rfl) (Calls.evalArgs_plain ?_)
 exact thn hA fun us s2 ⟨vs,H2,I2,r2,q2⟩=>hm pins s2 σ H2 x vs v us Q I2 r1 r2 q2
end
noncomputable def MtM (X:Cx) (id:String) (r:V->List V->Hp->VK->Prop):Prop:=
 ∀ (pins:List (Addr×Obj)) (s:Shared) (σ:St) (H:Hp) (x:V) (xs:List V) (v:Value) (us:List Value) (Q:VK),Inv X pins σ H s->RelV x v->Vals xs us->r x xs H Q->
  wpAny (model X.prog X.w) X.A (call (.builtin id) (v::us)) (EP X pins σ Q) X.xe s
theorem Vals.one: ∀ {x:V} {us:List Value},Vals [x] us-> ∃ u,us=[u]/\RelV x u
 | _,_,.cons r .nil=>⟨_,rfl,r⟩
theorem Vals.zero: ∀ {us:List Value},Vals [] us->us=[]
 | _,.nil=>rfl
theorem Vals.dropLast {xs:List V} {us:List Value} (h:Vals xs us):Vals xs.dropLast us.dropLast:=by
 induction h with
 | nil=>exact .nil
 | cons r t ih=>
  cases t with
  | nil=>exact .nil
  | cons q t'=>exact .cons r ih
theorem oP {α:Type} (l:List α):l.eraseIdx (l.length-1)=l.dropLast:=by
 induction l with
 | nil=>rfl
 | cons a r ih=>
  cases r with
  | nil=>rfl
  | cons b r=>
   have e:(a::b::r).length-1=((b::r).length-1) +1:=by
    have h1:(a::b::r).length=r.length+2:=rfl
    have h2:(b::r).length=r.length+1:=rfl
    lia
   rw [e,List.eraseIdx_cons_succ,ih]
   all_goals rfl
section
variable {X:Cx} {pins:List (Addr×Obj)} {σ:St} {H:Hp} {s:Shared} {l b:Addr} {xs ys zs:List V}
theorem Inv.lset {its its':List Value} {n:Nat} {f:Array Value->Array Value} {t':Nat} (I:Inv X pins σ H s) (hH:H l=some (.lst xs))
  (e:s.heap.get? l=some {cls:=.type "list",data:=.seq its.toArray n}) (hf:f its.toArray=its'.toArray) (hv:Vals ys its') (hz:ys.length<=sizeLine):
  Inv X pins σ (upd H l (.lst ys)) {s with heap:=s.heap.update l (Obj.mapSeq f),toks:=t'}:=by
 have q:=PySem.IsL.update e f
 rw [hf]at q
 refine I.write (x:=l) (e:=l) (by rw [hH];exact trivial) (.inl rfl) (fun b' u hb hu=>(Heap.get?_update_other s.heap (Obj.mapSeq f) (Ne.symm hb)).trans hu) ⟨_,q⟩ ?_
 exact ⟨hz,its',_,hv,q⟩
theorem Inv.lnew {its:List Value} {t':Nat} (I:Inv X pins σ H s) (hv:Vals ys its) (hz:ys.length<=sizeLine):
  Inv X pins σ (upd H s.heap.objs.size (.lst ys)) {s with heap:=s.heap.push {cls:=.type "list",data:=.seq its.toArray},toks:=t'}:=
 I.laid (fun _ _ q=>Heap.get?_push_of_some _ q) (Nat.le_refl _) ⟨hz,its,0,hv,Heap.get?_push_size _ rfl⟩
theorem Inv.fresh (I:Inv X pins σ H s):H s.heap.objs.size=none:=I.hok.fresh (Nat.le_refl _)
theorem Inv.lstM (I:Inv X pins σ H s) (hH:H l=some (.lst xs)):xs.length<=sizeLine/\ ∃ (its:List Value) (n:Nat),Vals xs its/\xs.length=its.length/\s.heap.get? l=some {cls:=.type "list",data:=.seq its.toArray n}:=by
 obtain ⟨z,its,n,r,e⟩:=I.hok l _ hH
 exact ⟨z,its,n,r,r.length,e⟩
theorem tP {n:Nat} (h:n<=sizeLine):Builtin.List.listTooLong n=false:=by
 unfold Builtin.List.listTooLong
 exact decide_eq_false (by lia)
end
section
variable {X:Cx}
inductive pB  (x:V) (vs:List V) (H:Hp) (Q:VK):Prop
 | mk: ∀ l xs y,(x=.ref l)->(vs=[y])->(H l=some (.lst xs))->(xs.length<sizeLine)->(Q .non (upd H l (.lst (xs++[y]))))->pB x vs H Q
theorem bK:MtM X "list.append" pB:=by
 intro pins s σ H x vs v us Q I rx rv h
 obtain ⟨l,xs,y,rfl,rfl,hH,hz,q⟩:=h
 cases rx
 obtain ⟨u,rfl,ru⟩:=rv.one
 obtain ⟨z,its,n,r,hl,e⟩:=I.lstM hH
 refine call_meets F.slot_list_append ⟨_,e,rfl⟩ F.entry_list_append (F.args_list_append_2 _ _) (PySem.list_append l its.toArray n u (by rw [List.size_toArray];lia)) ⟨e,?_⟩
 refine ⟨.non,_,I.lset (its':=its++[u]) hH e (by simp) (r.append (.cons ru .nil)) ?_,rfl,q⟩
 rw [List.length_append,List.length_singleton]
 lia
inductive pA  (x:V) (vs:List V) (H:Hp) (Q:VK):Prop
 | mk: ∀ l b xs zs,(x=.ref l)->(vs=[.ref b])->(H l=some (.lst xs))->(H b=some (.lst zs))->(xs.length+zs.length<=sizeLine)->(Q .non (upd H l (.lst (xs++zs))))->pA x vs H Q
theorem fL:MtM X "list.extend" pA:=by
 intro pins s σ H x vs v us Q I rx rv h
 obtain ⟨l,b,xs,zs,rfl,rfl,hH,hB,hz,q⟩:=h
 cases rx
 obtain ⟨u,rfl,ru⟩:=rv.one
 cases ru
 obtain ⟨z,its,n,r,hl,e⟩:=I.lstM hH
 obtain ⟨z2,its2,n2,r2,hl2,e2⟩:=I.lstM hB
 have hsz:its.toArray.size+its2.toArray.size<=sizeLine:=by rw [List.size_toArray,List.size_toArray];lia
 have hlong: ¬ (!its.toArray.isEmpty&&Builtin.List.listTooLong (its.toArray.size+its2.toArray.size))=true:=by
  rw [tP hsz,Bool.and_false]
  exact Bool.false_ne_true
 refine call_meets F.slot_list_extend ⟨_,e,rfl⟩ F.entry_list_extend (F.args_list_extend_2 _ _)
  (AutoSeq1.list_extend_list_list_0 l its.toArray n b its2.toArray n2 hlong (by rw [List.size_toArray];lia) (by lia)) ⟨e,e2,?_⟩
 refine ⟨.non,_,I.lset (its':=its++its2) hH e (by simp) (r.append r2) ?_,rfl,q⟩
 rw [List.length_append]
 lia
inductive uV  (x:V) (vs:List V) (H:Hp) (Q:VK):Prop
 | mk: ∀ l xs y,(x=.ref l)->(vs=[])->(H l=some (.lst xs))->(xs[xs.length-1]? =some y)->(Q y (upd H l (.lst xs.dropLast)))->uV x vs H Q
theorem jq:MtM X "list.pop" uV:=by
 intro pins s σ H x vs v us Q I rx rv h
 obtain ⟨l,xs,y,rfl,rfl,hH,hy,q⟩:=h
 cases rx
 have hus:=rv.zero
 subst hus
 obtain ⟨z,its,n,r,hl,e⟩:=I.lstM hH
 obtain ⟨u,hu,ru⟩:=r.get hy
 have hy':its.toArray[its.toArray.size-1]? =some u:=by
  show its.toArray[its.length-1]? =some u
  rw [<- Array.getElem?_toList,<- hl]
  exact hu
 refine call_meets F.slot_list_pop ⟨_,e,rfl⟩ F.entry_list_pop (F.args_list_pop_1 _) (MeetsSeq.list_pop_last l its.toArray n u hy' (by rw [List.size_toArray];lia)) ⟨e,?_⟩
 refine ⟨y,_,I.lset (its':=its.dropLast) hH e ?_ r.dropLast ?_,ru,q⟩
 ·show its.toArray.eraseIdxIfInBounds (its.toArray.size-1)=its.dropLast.toArray
  rw [List.size_toArray,List.eraseIdxIfInBounds_toArray,oP]
 ·rw [List.length_dropLast]
  lia
inductive xE  (x:V) (y:V) (H:Hp) (Q:VK):Prop
 | mk: ∀ l b xs zs,(x=.ref l)->(y=.ref b)->(H l=some (.lst xs))->(H b=some (.lst zs))->(xs.length+zs.length<=sizeLine)->(∀ p,H p=none->Q (.ref p) (upd H p (.lst (xs++zs))))->xE x y H Q
theorem jn:OpR X (binaryOp .Add) xE:=by
 intro pins s σ H x y v u Q I rx ry h
 obtain ⟨l,b,xs,zs,rfl,rfl,hH,hB,hz,q⟩:=h
 cases rx
 cases ry
 obtain ⟨z,its,n,r,hl,e⟩:=I.lstM hH
 obtain ⟨z2,its2,n2,r2,hl2,e2⟩:=I.lstM hB
 refine PySem.P.add_list e e2 ?_ (by rw [List.size_toArray,List.size_toArray];lia)
 have ea:its.toArray++its2.toArray=(its++its2).toArray:=by simp
 rw [ea]
 exact ⟨.ref _,_,I.lnew (t':=s.toks) (r.append r2) (by rw [List.length_append];lia),rfl,q _ I.fresh⟩
end
section
variable {κ:Type} [DecidableEq κ]
noncomputable def bi (kvs:List (κ×V)) (k:κ):Option V:=(kvs.find? fun kv=>decide (kv.1=k)).map (·.2)
noncomputable def cP (kvs:List (κ×V)) (k:κ) (v:V):List (κ×V):=
 if (kvs.any fun kv=>decide (kv.1=k))=true then kvs.map (fun kv=>if kv.1=k then (kv.1,v)else kv)else kvs++[(k,v)]
theorem cs {p:κ×V} {r:List (κ×V)} {k:κ} (e:p.1=k):bi (p::r) k=some p.2:=by simp [bi,List.find?_cons,e]
theorem cu {p:κ×V} {r:List (κ×V)} {k:κ} (e: ¬ p.1=k):bi (p::r) k=bi r k:=by simp [bi,List.find?_cons,e]
theorem dW (k:κ): ∀ kvs:List (κ×V),(kvs.any fun kv=>decide (kv.1=k))=(bi kvs k).isSome
 | []=>rfl
 | p::r=>by
  rw [List.any_cons]
  by_cases e:p.1=k
  ·simp only [cs e,decide_eq_true e,Bool.true_or,Option.isSome_some]
  ·rw [cu e,decide_eq_false e,Bool.false_or];exact dW k r
theorem me (k j:κ) (y:V): ∀ kvs:List (κ×V),bi (kvs.map fun kv=>if kv.1=k then (kv.1,y)else kv) j=(bi kvs j).map fun x=>if j=k then y else x
 | []=>rfl
 | p::r=>by
  have ih:=me k j y r
  rw [List.map_cons]
  by_cases h:p.1=k
  ·rw [if_pos h]
   by_cases e:p.1=j
   ·rw [cs (p:=(p.1,y)) e,cs e,Option.map_some,if_pos (e.symm.trans h)]
   ·rw [cu (p:=(p.1,y)) e,cu e,ih]
  ·rw [if_neg h]
   by_cases e:p.1=j
   ·rw [cs (p:=p) e,cs e,Option.map_some,if_neg (fun z=>h (e.trans z))]
   ·rw [cu (p:=p) e,cu e,ih]
theorem jV (k j:κ) (y:V): ∀ kvs:List (κ×V),bi kvs k=none->bi (kvs++[(k,y)]) j=if j=k then some y else bi kvs j
 | [],_=>by
  by_cases e:k=j
  ·rw [if_pos e.symm];exact cs (p:=(k,y)) e
  ·rw [if_neg (fun z=>e z.symm)];exact cu (p:=(k,y)) e
 | p::r,hn=>by
  rw [List.cons_append]
  have hk: ¬ p.1=k:=fun z=>by rw [cs z]at hn;cases hn
  rw [cu hk]at hn
  have ih:=jV k j y r hn
  by_cases e:p.1=j
  ·rw [cs e,cs e,if_neg (fun z=>hk (e.trans z))]
  ·rw [cu e,cu e,ih]
theorem eZ (kvs:List (κ×V)) (k j:κ) (y:V):bi (cP kvs k y) j=if j=k then some y else bi kvs j:=by
 unfold cP
 by_cases a:(kvs.any fun kv=>decide (kv.1=k))=true
 ·rw [if_pos a,me]
  rw [dW]at a
  by_cases e:j=k
  ·obtain ⟨x,hx⟩:=Option.isSome_iff_exists.mp a
   rw [if_pos e,e,hx,Option.map_some,if_pos rfl]
  ·rw [if_neg e]
   cases bi kvs j with
   | none=>rfl
   | some x=>rw [Option.map_some,if_neg e]
 ·rw [if_neg a]
  refine jV k j y kvs ?_
  rw [dW]at a
  cases q:bi kvs k with
  | none=>rfl
  | some x=>rw [q]at a;exact (a rfl).elim
theorem cK (kvs:List (κ×V)) (k:κ) (v:V):(cP kvs k v).length<=kvs.length+1:=by
 unfold cP
 split
 ·rw [List.length_map];lia
 ·rw [List.length_append,List.length_cons,List.length_nil];lia
theorem sL {kvs:List (κ×V)} {k:κ} (v:V) (h:bi kvs k=none):cP kvs k v=kvs++[(k,v)]:=by
 unfold cP
 rw [dW,h]
 exact if_neg (by decide)
theorem RelO.isSome_eq {o:Option V} {u:Option Value} (r:RelO o u):o.isSome=u.isSome:=by
 cases o with
 | none=>cases u with
  | none=>rfl
  | some _=>exact (show False from r).elim
 | some _=>cases u with
  | none=>exact (show False from r).elim
  | some _=>rfl
theorem RelO.getD {o:Option V} {u:Option Value} {d:V} {d':Value} (r:RelO o u) (rd:RelV d d'):RelV (o.getD d) (u.getD d'):=by
 cases o with
 | none=>cases u with
  | none=>exact rd
  | some _=>exact (show False from r).elim
 | some _=>cases u with
  | none=>exact (show False from r).elim
  | some _=>exact r
theorem KV.val {kvs:List (κ×V)} {vs:List (κ×Value)} (r:KV kvs vs) (k:κ):RelO (bi kvs k) (valueAt vs k):=by
 unfold KV at r
 induction r with
 | nil=>exact True.intro
 | @cons p q ps qs h t ih=>
  obtain ⟨h1,h2⟩:=h
  by_cases e:p.1=k
  ·have e':q.1=k:=h1.symm.trans e
   have b:valueAt (q::qs) k=some q.2:=by simp [valueAt,List.find?_cons,e']
   rw [cs e,b];exact h2
  ·have e': ¬ q.1=k:=fun z=>e (h1.trans z)
   have b:valueAt (q::qs) k=valueAt qs k:=by simp [valueAt,List.find?_cons,e']
   rw [cu e,b];exact ih
theorem KV.any {kvs:List (κ×V)} {vs:List (κ×Value)} (r:KV kvs vs) (k:κ):(kvs.any fun kv=>decide (kv.1=k))=vs.any fun kv=>decide (kv.1=k):=by
 unfold KV at r
 induction r with
 | nil=>rfl
 | cons h t ih=>rw [List.any_cons,List.any_cons,ih,h.1]
theorem KV.repl {kvs:List (κ×V)} {vs:List (κ×Value)} (r:KV kvs vs) (k:κ) {y:V} {u:Value} (ry:RelV y u):
  KV (kvs.map fun kv=>if kv.1=k then (kv.1,y)else kv) (vs.map fun kv=>if kv.1=k then (kv.1,u)else kv):=by
 unfold KV at r ⊢
 induction r with
 | nil=>exact .nil
 | @cons p q ps qs h t ih=>
  rw [List.map_cons,List.map_cons]
  refine .cons ?_ ih
  obtain ⟨h1,h2⟩:=h
  by_cases e:p.1=k
  ·rw [if_pos e,if_pos (h1.symm.trans e)];exact ⟨h1,ry⟩
  ·rw [if_neg e,if_neg (fun z=>e (h1.trans z))];exact ⟨h1,h2⟩
theorem KV.put {kvs:List (κ×V)} {vs:List (κ×Value)} (r:KV kvs vs) (k:κ) {y:V} {u:Value} (ry:RelV y u):KV (cP kvs k y) (stored vs k u):=by
 unfold cP stored
 rw [r.any k]
 by_cases e:(vs.any fun kv=>decide (kv.1=k))=true
 ·rw [if_pos e,if_pos e];exact r.repl k ry
 ·rw [if_neg e,if_neg e];exact Paired.snoc r ⟨rfl,ry⟩
theorem KV.length {kvs:List (κ×V)} {vs:List (κ×Value)} (r:KV kvs vs):kvs.length=vs.length:=Paired.length r
end
theorem nr {P:Program} {w:World} {k:Key} {u:Value} (r:RelV (kV k) u):(bX P w).is k u=true:=by
 cases k with
 | inl i=>obtain ⟨t,e⟩:=(show ∃ t,u=Value.int i t from r);subst e;exact na P w i t
 | inr x=>obtain ⟨t,e⟩:=(show ∃ t,u=Value.str x t from r);subst e;exact mZ P w x t
theorem ki {P:Program} {w:World}: ∀ {ks:List Key} {us:List Value},Vals (ks.map kV) us->ItemsAre (bX P w) ks us
 | [],_,r=>by rw [List.map_nil]at r;cases r;exact .nil
 | k::ks,_,r=>by
  rw [List.map_cons]at r
  cases r with
  | cons h t=>exact .cons (nr h) (ki t)
noncomputable abbrev KT (H:Hp):List (List Key×V)->List (List Key×Addr×Value)->Prop:=Paired fun p q=>p.1=q.1/\H q.2.1=some (.tup (p.1.map kV))/\RelV p.2 q.2.2
theorem KT.val {H:Hp} {kvs:List (List Key×V)} {xs:List (List Key×Addr×Value)} (r:KT H kvs xs) (k:List Key):RelO (bi kvs k) ((atKey xs k).map (·.2)):=by
 induction r with
 | nil=>exact True.intro
 | @cons p q ps qs h t ih=>
  obtain ⟨h1,_,h2⟩:=h
  by_cases e:p.1=k
  ·have e':q.1=k:=h1.symm.trans e
   have b:atKey (q::qs) k=some q.2:=by simp [atKey,List.find?_cons,e']
   rw [cs e,b];exact h2
  ·have e': ¬ q.1=k:=fun z=>e (h1.trans z)
   have b:atKey (q::qs) k=atKey qs k:=by simp [atKey,List.find?_cons,e']
   rw [cu e,b];exact ih
theorem KT.repl {H:Hp} {kvs:List (List Key×V)} {xs:List (List Key×Addr×Value)} (r:KT H kvs xs) (k:List Key) {y:V} {u:Value} (ry:RelV y u):
  KT H (kvs.map fun kv=>if kv.1=k then (kv.1,y)else kv) (xs.map (putAt k u)):=by
 induction r with
 | nil=>exact .nil
 | @cons p q ps qs h t ih=>
  rw [List.map_cons,List.map_cons]
  refine .cons ?_ ih
  obtain ⟨h1,h2,h3⟩:=h
  unfold putAt
  by_cases e:p.1=k
  ·rw [if_pos e,if_pos (h1.symm.trans e)];exact ⟨h1,h2,ry⟩
  ·rw [if_neg e,if_neg (fun z=>e (h1.trans z))];exact ⟨h1,h2,h3⟩
theorem KT.put {H:Hp} {kvs:List (List Key×V)} {xs:List (List Key×Addr×Value)} (r:KT H kvs xs) (k:List Key) {b:Addr} {y:V} {u:Value} (hb:H b=some (.tup (k.map kV))) (ry:RelV y u):
  KT H (cP kvs k y) (storedH xs k b u):=by
 have e:(kvs.any fun kv=>decide (kv.1=k))=(atKey xs k).isSome:=by
  rw [dW,(r.val k).isSome_eq,Option.isSome_map]
 unfold cP storedH
 rw [e]
 by_cases q:(atKey xs k).isSome=true
 ·rw [if_pos q,if_pos q];exact r.repl k ry
 ·rw [if_neg q,if_neg q];exact Paired.snoc r ⟨rfl,hb,ry⟩
theorem KT.keeps {H H':Hp} {kvs:List (List Key×V)} {xs:List (List Key×Addr×Value)} (r:KT H kvs xs) (ht: ∀ b ys,H b=some (.tup ys)->H' b=some (.tup ys)):KT H' kvs xs:=
 Paired.mapP r fun _ _ z=>⟨z.1,ht _ _ z.2.1,z.2.2⟩
section
variable {P:Program} {w:World} {H:Hp} {h:Heap} {a:Addr}
theorem vN {u:HO} (ok:HOk P w H h) (e:Rd H a u):ObjOk P w H h a u:=e.ok ok
theorem kn {kvs:List (Key×V)} (ok:HOk P w H h) (e:Rd H a (.dK kvs)):kvs.length<=sizeLine/\(a==sysModules)=false/\ ∃ vs,KV kvs vs/\h.DictOf (bX P w) a vs:=
 show ObjOk P w H h a (.dK kvs)from vN ok e
theorem vS {kvs:List (Key×V)} (ok:HOk P w H h) (e:H a=some (.dK kvs)):kvs.length<=sizeLine/\(a==sysModules)=false/\ ∃ vs,KV kvs vs/\h.DictOf (bX P w) a vs:=kn ok (.inl e)
theorem jt {ks:List Key} (ok:HOk P w H h) (e:H a=some (.tup (ks.map kV))):(tupleKind (bX P w)).is h ks a:=by
 obtain ⟨_,its,r,o,h1,h2,n,h3⟩:=(show ObjOk P w H h a (.tup (ks.map kV))from ok a _ e)
 exact ⟨o,its.toArray,n,h1,h2,h3,by simpa using ki r⟩
theorem km {kvs:List (List Key×V)} (ok:HOk P w H h) (e:Rd H a (.dT kvs)):kvs.length<=sizeLine/\(a==sysModules)=false/\
  ∃ xs,KT H kvs xs/\h.DictOfH (tupleKind (bX P w)) a xs:=by
 obtain ⟨z,y,xs,r,o,es,ep,h1,h2,h3,h4,h5⟩:=(show ObjOk P w H h a (.dT kvs)from vN ok e)
 refine ⟨z,y,xs,r,o,es,ep,h1,h2,h3,h4,fun x hx=>?_,h5⟩
 have all: ∀ {l:List (List Key×V)} {m:List (List Key×Addr×Value)},KT H l m-> ∀ x∈m,(tupleKind (bX P w)).is h x.1 x.2.1:=by
  intro l m q
  induction q with
  | nil=>intro x hx;exact nomatch hx
  | @cons p q ps qs hq t ih=>
   intro x hx
   rcases List.mem_cons.mp hx with e | hx
   ·subst e
    exact jt ok (by rw [<- hq.1];exact hq.2.1)
   ·exact ih x hx
 exact all r x hx
theorem xZ {kvs:List (List Key×V)} (ok:HOk P w H h) (e:H a=some (.dT kvs)):kvs.length<=sizeLine/\(a==sysModules)=false/\
  ∃ xs,KT H kvs xs/\h.DictOfH (tupleKind (bX P w)) a xs:=km ok (.inl e)
end
noncomputable def DGet (H:Hp) (a:Addr) (y:V) (r:Option V):Prop:=
 (∃ kvs k,Rd H a (.dK kvs)/\y=kV k/\r=bi kvs k)\/ ∃ kvs k b,Rd H a (.dT kvs)/\y=.ref b/\H b=some (.tup (k.map kV))/\r=bi kvs k
noncomputable def DPut (H:Hp) (a:Addr) (y v:V) (H':Hp):Prop:=
 (∃ kvs k,H a=some (.dK kvs)/\y=kV k/\kvs.length<sizeLine/\H'=upd H a (.dK (cP kvs k v)))\/
 ∃ kvs k b,H a=some (.dT kvs)/\y=.ref b/\H b=some (.tup (k.map kV))/\kvs.length<sizeLine/\H'=upd H a (.dT (cP kvs k v))
theorem DGet.k {H:Hp} {a:Addr} {kvs:List (Key×V)} {k:Key} (e:H a=some (.dK kvs)):DGet H a (kV k) (bi kvs k):=.inl ⟨kvs,k,.inl e,rfl,rfl⟩
theorem DPut.k {H:Hp} {a:Addr} {kvs:List (Key×V)} {k:Key} {v:V} (e:H a=some (.dK kvs)) (hl:kvs.length<sizeLine):DPut H a (kV k) v (upd H a (.dK (cP kvs k v))):=.inl ⟨kvs,k,e,rfl,hl,rfl⟩
theorem DPut.t {H:Hp} {a b:Addr} {kvs:List (List Key×V)} {k:List Key} {v:V} (e:H a=some (.dT kvs)) (eb:H b=some (.tup (k.map kV))) (hl:kvs.length<sizeLine):
  DPut H a (.ref b) v (upd H a (.dT (cP kvs k v))):=.inr ⟨kvs,k,b,e,rfl,eb,hl,rfl⟩
section
variable {X:Cx} {pins:List (Addr×Obj)} {σ:St} {H:Hp} {s:Shared} {a:Addr} {y v:V} {u r:Value} {o:Option V} {A:Around} {E:Value->Shared->Prop}
theorem Inv.big (I:Inv X pins σ H s):sysModules<s.heap.objs.size:=by
 have h:mainGlobals<s.heap.objs.size:=(I.mod.glob.keeps I.bk).lt
 exact Nat.lt_trans (by decide) h
theorem rC {Q:Value->Shared->Prop} (hu:A.units+1<cLine) (I:Inv X pins σ H s) (g:DGet H a y (some v)) (ry:RelV y u) (h: ∀ w' s',Inv X pins σ H s'->RelV v w'->Q w' s'):
  wpAny (model X.prog X.w) A (getItem (.ref a) u) Q E s:=by
 rcases g with ⟨kvs,k,e,ey,l⟩ | ⟨kvs,k,b,e,ey,eb,l⟩
 ·subst ey
  obtain ⟨z,hd,vs,rel,dd⟩:=kn I.hok e
  obtain ⟨w',hw,rw'⟩:=RelO.some_of (v:=v) (o:=valueAt vs k) (by rw [l];exact rel.val k)
  exact wpAny_getItem_of (nr ry) dd.mapOf hw (h w' _ (I.tok _) rw')
 ·subst ey
  cases (show u=Value.ref b from ry)
  obtain ⟨z,hd,xs,rel,dd⟩:=km I.hok e
  obtain ⟨w',hw,rw'⟩:=RelO.some_of (v:=v) (o:=(atKey xs k).map (·.2)) (by rw [l];exact rel.val k)
  obtain ⟨p,hp,hp2⟩:=Option.map_eq_some_iff.mp hw
  refine wpAny_getItem_heap (tupleKind_room_in1 hu) (jt I.hok eb) dd hp ?_
  rw [hp2]
  exact h w' _ (I.tok _) rw'
theorem yB {Q:Value->Shared->Prop} (hu:A.units+1<cLine) (I:Inv X pins σ H s) (g:DGet H a y o) (ry:RelV y u) (h: ∀ s',Inv X pins σ H s'->Q (.bool o.isSome) s'):
  wpAny (model X.prog X.w) A (compareOp .In u (.ref a)) Q E s:=by
 rcases g with ⟨kvs,k,e,ey,l⟩ | ⟨kvs,k,b,e,ey,eb,l⟩
 ·subst ey
  obtain ⟨z,hd,vs,rel,dd⟩:=kn I.hok e
  refine wpAny_in_of (nr ry) hd dd.mapOf ?_
  rw [<- (rel.val k).isSome_eq,<- l]
  exact h _ (I.tok _)
 ·subst ey
  cases (show u=Value.ref b from ry)
  obtain ⟨z,hd,xs,rel,dd⟩:=km I.hok e
  refine wpAny_in_heap (tupleKind_room_in1 hu) (jt I.hok eb) hd dd ?_
  have q:=(rel.val k).isSome_eq
  rw [Option.isSome_map]at q
  rw [<- q,<- l]
  exact h _ (I.tok _)
theorem qa {h':Heap} {t':Nat} {ob:HO} (I:Inv X pins σ H s) (mu:Mut (H a)) (hs:Heap.SameBut a s.heap h') (he: ∃ q,h'.get? a=some q) (new:ObjOk X.prog X.w (upd H a ob) h' a ob):
  Inv X pins σ (upd H a ob) {s with heap:=h',toks:=t'}:=
 I.write (x:=a) (e:=a) mu (.inl rfl) (fun b q hb z=>(hs.2 b hb).trans z) he new
theorem wX {P:Program} {w:World} {H':Hp} {h':Heap} {kvs:List (Key×V)} {vs:List (Key×Value)} (z:kvs.length<=sizeLine) (hd:(a==sysModules)=false) (rel:KV kvs vs) (dd:h'.DictOf (bX P w) a vs):
  ObjOk P w H' h' a (.dK kvs):=⟨z,hd,vs,rel,dd⟩
theorem rB {H':Hp} {Q:Unit->Shared->Prop} (hu:A.units+1<cLine) (I:Inv X pins σ H s) (g:DPut H a y v H') (ry:RelV y u) (rv:RelV v r) (h: ∀ s',Inv X pins σ H' s'->Q () s'):
  wpAny (model X.prog X.w) A (setItem (.ref a) u r) Q E s:=by
 rcases g with ⟨kvs,k,e,ey,l,eH⟩ | ⟨kvs,k,b,e,ey,eb,l,eH⟩
 ·subst ey eH
  obtain ⟨z,hd,vs,rel,dd⟩:=vS I.hok e
  have hz:vs.length<=sizeLine:=by rw [<- rel.length];exact z
  have hl:(cP kvs k v).length<=sizeLine:=by have:=cK kvs k v;lia
  refine wpAny_setItem_pairs (hsz:=hz) (nr ry) dd fun h' dd' hs=>h _ ?_
  have he: ∃ q,h'.get? a=some q:=let ⟨q,_,_,hq,_⟩:=dd';⟨q,hq⟩
  exact qa I (by rw [e];exact True.intro) hs he (wX hl hd (rel.put k rv) dd')
 ·subst ey eH
  cases (show u=Value.ref b from ry)
  obtain ⟨z,hd,xs,rel,dd⟩:=xZ I.hok e
  have hz:xs.length<=sizeLine:=by rw [<- Paired.length rel];exact z
  have hl:(cP kvs k v).length<=sizeLine:=by have:=cK kvs k v;lia
  refine wpAny_setItem_heap (hsz:=hz) (tupleKind_room_in1 hu) (jt I.hok eb) dd fun h' dd' hs=>h _ ?_
  obtain ⟨q,es,ep,hq,h2,h3,h4,_,h5⟩:=dd'
  refine qa I (by rw [e];exact True.intro) hs ⟨q,hq⟩ ⟨hl,hd,_,(rel.put k eb rv).keeps fun c ys ec=>?_,q,es,ep,hq,h2,h3,h4,h5⟩
  rw [al (xJ ec e (fun z=>nomatch z))]
  exact ec
end
noncomputable def ye (i:Expr):Prop:= ∀ ov iv,subscripted i false ov iv=operate [ov,iv] (getItem ov iv)
theorem uP {prog:Program} {w:World} {A:Around} {E:Value->Shared->Prop} {s:Shared} {env:Env} {value slice:Expr} {pos:Pos} {T id:String} {Q:Value->Shared->Prop}
  (hl:typeLookup (.type T) "__getitem__"=pure (some (.builtin id))) (hs:ye slice)
  (h:wpAny (model prog w) A (eval value env) (fun o s₁=>wpAny (model prog w) A (eval slice env) (fun i s₂=>s₂.TypeIs o T/\wpAny (model prog w) A (getItem o i) Q E s₂) E s₁) E s):
  wpAny (model prog w) A (eval (.Subscript value slice pos) env) Q E s:=by
 refine Subscript_ (wpAny_mono h (fun o s₁ h₁=>wpAny_mono h₁ (fun i s₂ h₂=>?_) fun _ _ x=>x) fun _ _ x=>x)
 obtain ⟨hT,h₂⟩:=h₂
 unfold subscriptTail
 refine wpAny_bind ?_
 rw [getitemInPython_of_ne hT.not_modules]
 refine wpAny_bind (wpAny_specialOf hT hl ?_)
 have fin:wpAny (model prog w) A (subscripted slice false o i) (fun r s₃=>wpAny (model prog w) A (letTemporaryGo value o r >>= fun _=>pure r) Q E s₃) E s₂:=by
  rw [hs o i]
  exact wpAny_operating (wpAny_mono h₂ (fun r s₃ h₃=>wpAny_bind (wpAny_letTemporaryGo (wpAny_pure h₃))) fun _ _ x=>x)
 first
  | exact wpAny_pure (wpAny_bind fin)
  | exact wpAny_bind (wpAny_pure (wpAny_bind fin))
  | exact wpAny_bind fin
theorem nA {X:Cx} {pins:List (Addr×Obj)} {σ:St} {H:Hp} {s:Shared} {a:Addr} {y:V} {o:Option V} (I:Inv X pins σ H s) (g:DGet H a y o):s.TypeIs (.ref a) "dict":=by
 rcases g with ⟨kvs,k,e,_,_⟩ | ⟨kvs,k,b,e,_,_,_⟩
 ·obtain ⟨_,_,vs,_,dd⟩:=kn I.hok e
  exact dd.typeIs
 ·obtain ⟨_,_,xs,_,dd⟩:=km I.hok e
  exact dd.typeIs
noncomputable def xx (td ty:TE):TE:=fun σ H Q=>td σ H fun x H1=>ty σ H1 fun y H2=> ∃ a v,x=.ref a/\DGet H2 a y (some v)/\Q v H2
noncomputable def ym (ty td:TE):TE:=fun σ H Q=>ty σ H fun y H1=>td σ H1 fun x H2=> ∃ a o,x=.ref a/\DGet H2 a y o/\Q (.bl o.isSome) H2
noncomputable def xz (td ty tv:TE):TS:=fun D σ H=>tv σ H fun v H1=>td σ H1 fun x H2=>ty σ H2 fun y H3=> ∃ a H4,x=.ref a/\DPut H3 a y v H4/\D.nx σ H4
section
variable {X:Cx} {o i e value:Expr} {pos pos' tpos:Pos} {td ty tv:TE}
theorem dg (hu:X.A.units+1<cLine) (ho:PE X o td) (hi:PE X i ty) (hs:ye i):PE X (.Subscript o i pos) (xx td ty):=by
 intro pins s σ H Q I h
 refine uP PySem.F.slot_dict_getitem.lookup hs (thn (ho pins s σ H _ I h) fun u s1 ⟨x,H1,I1,rx,q1⟩=>thn (hi pins s1 σ H1 _ I1 q1) fun iv s2 ⟨y,H2,I2,ry,a,v,ex,g,q2⟩=>?_)
 subst ex
 obtain rfl:u=Value.ref a:=rx
 exact ⟨nA I2 g,rC hu I2 g ry fun w' s3 I3 rw'=>⟨v,H2,I3,rw',q2⟩⟩
theorem ox (hu:X.A.units+1<cLine) (hi:PE X i ty) (ho:PE X o td):PC X .In i o (ym ty td):=by
 intro pins s σ H Q I h
 refine thn (hi pins s σ H _ I h) fun iv s1 ⟨y,H1,I1,ry,q1⟩=>thn (ho pins s1 σ H1 _ I1 q1) fun u s2 ⟨x,H2,I2,rx,a,ov,ex,g,q2⟩=>?_
 subst ex
 obtain rfl:u=Value.ref a:=rx
 exact yB hu I2 g ry fun s3 I3=>⟨.bl ov.isSome,H2,I3,rfl,q2⟩
theorem gO (hu:X.A.units+1<cLine) (ho:PE X o td) (hi:PE X i ty) (hv:PE X value tv) (hs:swapsWith value (some (.Subscript o i pos')) pos.line X.env=pure false):
  PS X (.Assign [.Subscript o i pos'] value pos) (xz td ty tv):=by
 intro pins s σ H D I h
 refine wpAny_Assign_Subscript (thn (hv pins s σ H _ I h) fun r s1 ⟨v,H1,I1,rv,q1⟩=>thn (ho pins s1 σ H1 _ I1 q1) fun u s2 ⟨x,H2,I2,rx,q2⟩=>thn (hi pins s2 σ H2 _ I2 q2) fun iv s3 ⟨y,H3,I3,ry,a,H4,ex,g,q3⟩=>?_) hs
 subst ex
 obtain rfl:u=Value.ref a:=rx
 exact rB hu I3 g ry rv fun s4 I4=>⟨σ,H4,I4,q3⟩
end
theorem ur {P:Program} {w:World} {H:Hp} (h:Heap) (hb:sysModules<h.objs.size):ObjOk P w H (h.push {cls:=.type "dict",data:=.dict #[]}) h.objs.size (.dK []):=
 ⟨Nat.zero_le _,beq_eq_false_iff_ne.mpr (Ne.symm (Nat.ne_of_lt hb)),[],.nil,Heap.DictOf.new h⟩
theorem um {P:Program} {w:World} {H:Hp} (h:Heap) (hb:sysModules<h.objs.size):ObjOk P w H (h.push {cls:=.type "dict",data:=.dict #[]}) h.objs.size (.dT []):=
 ⟨Nat.zero_le _,beq_eq_false_iff_ne.mpr (Ne.symm (Nat.ne_of_lt hb)),[],.nil,_,#[],0,Heap.get?_push_size _ rfl,⟨rfl,rfl,rfl⟩,rfl,rfl,List.nodup_nil⟩
noncomputable def v7:TE:=fun _ H Q=> ∀ p,H p=none->Q (.ref p) (upd H p (.dK []))
noncomputable def v6:TE:=fun _ H Q=> ∀ p,H p=none->Q (.ref p) (upd H p (.dT []))
section
variable {X:Cx} {pos:Pos}
theorem gV:PE X (.Dict [] [] pos) v7:=fun pins s σ H Q I h=>
 wpAny_Dict_empty ⟨.ref s.heap.objs.size,_,I.laid (a:=s.heap.objs.size) (o:=.dK []) (t':=s.toks) (fun _ _ q=>Heap.get?_push_of_some _ q) (Nat.le_refl _) (ur s.heap I.big),rfl,h _ (I.hok.fresh (Nat.le_refl _))⟩
theorem sU:PE X (.Dict [] [] pos) v6:=fun pins s σ H Q I h=>
 wpAny_Dict_empty ⟨.ref s.heap.objs.size,_,I.laid (a:=s.heap.objs.size) (o:=.dT []) (t':=s.toks) (fun _ _ q=>Heap.get?_push_of_some _ q) (Nat.le_refl _) (um s.heap I.big),rfl,h _ (I.hok.fresh (Nat.le_refl _))⟩
end
structure M2 (X:Cx) (o:Expr) (m:Str) (apos:Pos) (e f:Expr) (cpos:Pos):Prop where
 base:attributeBase o m X.env (eval o X.env)=eval o X.env
 few:((backTo cpos (starEach [e,f] X.env)).all (fun x=> !x.1)&&(backToKw cpos (keywordEach [] X.env)).all (fun x=>x.1.isSome)
  &&decide (([e,f]:List Expr).length+ ([]:List Keyword).length+ (if ([]:List Keyword).isEmpty then 0 else 1) <30))=true
 line:(apos.endLine==cpos.line)=true
 trees:backTo cpos (starEach [e,f] X.env)=[(false,eval e X.env),(false,eval f X.env)]
noncomputable def IsD (H:Hp) (a:Addr):Prop:=(∃ kvs,Rd H a (.dK kvs))\/ ∃ kvs,Rd H a (.dT kvs)
theorem wR {X:Cx} {pins:List (Addr×Obj)} {σ:St} {H:Hp} {s:Shared} {a:Addr} (I:Inv X pins σ H s) (d:IsD H a):
  s.TypeIs (.ref a) "dict"/\(∀ b,Value.ref a=.ref b-> ∃ ob,s.heap.get? b=some ob/\ob.dict=none)/\(a==sysModules)=false:=by
 rcases d with ⟨kvs,e⟩ | ⟨kvs,e⟩
 ·obtain ⟨_,hd,vs,_,dd⟩:=kn I.hok e
  refine ⟨dd.typeIs,fun b q=>?_,hd⟩
  cases q
  obtain ⟨ob,_,_,h1,h2,_⟩:=dd
  exact ⟨ob,h1,h2.2.1⟩
 ·obtain ⟨_,hd,xs,_,dd⟩:=km I.hok e
  refine ⟨dd.typeIs,fun b q=>?_,hd⟩
  cases q
  obtain ⟨ob,_,_,h1,h2,_⟩:=dd
  exact ⟨ob,h1,h2.2.1⟩
section
variable {X:Cx} {pins:List (Addr×Obj)} {σ:St} {H:Hp} {s:Shared} {a:Addr} {y d:V} {u r:Value} {o:Option V} {A:Around} {E:Value->Shared->Prop}
theorem wY {Q:Value->Shared->Prop} (hu:A.units+1<cLine) (I:Inv X pins σ H s) (g:DGet H a y o) (ry:RelV y u) (rd:RelV d r) (h: ∀ w' s',Inv X pins σ H s'->RelV (o.getD d) w'->Q w' s'):
  wpAny (model X.prog X.w) A (call (.builtin "dict.get") [.ref a,u,r]) Q E s:=by
 rcases g with ⟨kvs,k,e,ey,l⟩ | ⟨kvs,k,b,e,ey,eb,l⟩
 ·subst ey
  obtain ⟨z,hd,vs,rel,dd⟩:=kn I.hok e
  refine call_meetsIn PySem.F.slot_dict_get dd.typeIs PySem.F.entry_dict_get (PySem.F.args_dict_get_3 _ _ _) (meets_dict_get_default (bX X.prog X.w) a (nr ry) hd r) ⟨_,dd.mapOf,h _ _ (I.tok _) ?_⟩
  rw [l]
  exact (rel.val k).getD rd
 ·subst ey
  cases (show u=Value.ref b from ry)
  obtain ⟨z,hd,xs,rel,dd⟩:=km I.hok e
  refine call_meetsIn PySem.F.slot_dict_get dd.typeIs PySem.F.entry_dict_get (PySem.F.args_dict_get_3 _ _ _) (meetsH_dict_get_default (tupleKind (bX X.prog X.w)) a b hd r) ⟨tupleKind_room_in1 hu,k,xs,jt I.hok eb,dd,h _ _ (I.tok _) ?_⟩
  rw [l]
  exact (rel.val k).getD rd
end
noncomputable def v8 (td ty tx:TE):TE:=fun σ H Q=>td σ H fun x H1=> ∃ a,x=.ref a/\IsD H1 a/\ty σ H1 fun y H2=>tx σ H2 fun z H3=> ∃ o,DGet H3 a y o/\Q (o.getD z) H3
section
variable {X:Cx} {o e f:Expr} {apos cpos:Pos} {td ty tx:TE}
theorem mE (hu:X.A.units+1<cLine) (ho:PE X o td) (he:PE X e ty) (hf:PE X f tx) (m:M2 X o "get" apos e f cpos):PE X (.Call (.Attribute o "get" apos) [e,f] [] cpos) (v8 td ty tx):=by
 intro pins s σ H Q I h
 refine wpAny_Call_method m.base m.few m.line PySem.F.plainAttrs_dict PySem.F.slot_dict_get PySem.F.type_dict_get (thn (ho pins s σ H _ I h) fun u s1 ⟨x,H1,I1,rx,a,ex,d,q1⟩=>?_)
 subst ex
 obtain rfl:u=Value.ref a:=rx
 obtain ⟨t1,t2,_⟩:=wR I1 d
 refine ⟨t1,t2,?_⟩
 rw [m.trees]
 refine Calls.callWith_builtin rfl (Calls.evalArgs_plain (Calls.spliced_cons (thn (he pins s1 σ H1 _ I1 q1) fun iv s2 ⟨y,H2,I2,ry,q2⟩=>
  Calls.spliced_cons (thn (hf pins s2 σ H2 _ I2 q2) fun fv s3 ⟨z,H3,I3,rz,ov,g,q3⟩=>Calls.spliced_nil ?_))))
 exact wY hu I3 g ry rz fun w' s4 I4 rw'=>⟨_,H3,I4,rw',q3⟩
end
end L2
namespace Att
open PySem PySem.W PySem.Calls PyProof.Rows
theorem iM {P:Params} {h:Heap}: ∀ (ns:List Int) (vs:List Value),WellAll P h vs (ns.map WData.int)->IntsAre vs ns:=by
 intro ns
 induction ns with
 | nil=>
  intro vs w
  rw [List.map_nil]at w
  cases w
  exact .nil
 | cons n ns ih=>
  intro vs w
  rw [List.map_cons]at w
  cases w with
  | cons a b=>
   cases a
   exact .cons _ _ (ih _ b)
theorem qu {l:OpenLaw} {n:Nat} (hn:l.most=some n) {P:Params} {h:Heap} {args:List WData} {vals:List Value}
  (hpre:l.row.toRowW.claim.pre args=true) (hwl:WellAll P h vals args):
  ∃ a vs ns,vals=[Value.ref a]/\args=[WData.list (ns.map WData.int)]/\h.get? a=some {cls:=.type "list",data:=.seq vs.toArray}/\IntsAre vs ns/\ns.length<=n:=by
 have hsh:WShape.hasAll [] args [.list .int]=true:=(pre_splitW hpre).1
 have hc:l.pre.holds [] {args:=args}=true:=(pre_splitW hpre).2
 obtain ⟨d,r,rfl,h1,h2⟩:=hasAllW_cons hsh
 obtain rfl:=hasAllW_nil h2
 obtain ⟨xs,rfl,h3⟩:=hasW_list h1
 obtain ⟨ns,rfl⟩:=items_int h3
 have hlen:ns.length<=n:=by
  unfold OpenLaw.pre at hc
  have h4:(WTm.not (.lt (.lit (.int (n:Int))) (.len (.arg 0)))).holds [] {args:=[.list (ns.map .int)]}=true:=by
   have h4:=(holds_andW hc).1
   rw [hn]at h4
   exact h4
  have h5:=condW_of h4 (w_not (w_lt w_lit (w_len_list (w_arg rfl))))
  rw [List.length_map]at h5
  refine Nat.le_of_not_lt fun q=>?_
  have q':(n:Int) < ((ns.length:Nat):Int):=by lia
  first
   | (rw [decide_eq_true q']at h5;exact absurd h5 (by decide))
   | (simp at h5;lia)
 cases hwl with
 | cons w1 w2=>
  cases w2
  cases w1 with
  | list ho hall=>exact ⟨_,_,ns,rfl,rfl,ho,iM ns _ hall,hlen⟩
theorem qE (l:OpenLaw) (args:List WData):l.row.toRowW.claim.post args (.bool true) args=true:=
 postW_of (r:=l.row.toRowW) (X:=(true==true))
  (show WShape.has [] (.bool true) .bool=true by first | rfl | decide | simp [WShape.has,WShape.arms,WShape.armsAll])
  (show (WTm.eq .res (.lit (.bool true))).value [] {args:=args,res:=some (.bool true),after:=args}=some (.bool (true==true))from w_eq_bool (w_res rfl) w_lit) rfl
theorem attach_call {l:OpenLaw} {n:Nat} {q:Program} {loose:List Str} {XP:(Str->Option Value)->Heap->Prop} {YP:World->Heap->Prop} {d:DefRec}
  (hn:l.most=some n) (hdf:d.params.defaults=[])
  (call: ∀ (w:World) (s₀ s₁:Shared) (mg mb:Str->Option Value) (fa:Addr) (o:Obj) (pm cd doc:Value) (a:Addr) (vs:List Value) (ns:List Int),
   Ground q loose [] XP w s₀ mg mb s₁.heap->YP w s₁.heap->
   s₁.heap.get? fa=some o->o.data=.func (docDef d.name d.params d.body d.scope pm cd doc)->s₁.heap.CodeRec cd d.name->mg d.name=some (.ref fa)->
   s₁.heap.get? a=some {cls:=.type "list",data:=.seq vs.toArray}->IntsAre vs ns->ns.length<=n->s₁.gens= #[]->
   codeAny (model l.prog w) callerA (.call (.ref fa) ⟨[.ref a],[]⟩) (fun r s'=>r=.ok (.ret (.bool true))/\OldK s₁.heap s'.heap/\s'.os=s₁.os/\AllBare s'.gens) s₁):
  WalkO q loose XP YP l.row.toRowW d [] (fun f vs=>PySem.call f vs):=by
 intro w s₀ s₁ mg mb G Y fa o pm cd doc dV kV ho hd hcd hD hmg hg args vals as hpre hlay hrd hwl hlo
 obtain rfl:dV=.none:=Dflts.none hD hdf
 obtain rfl:kV=.none:=Dflts.noKw hD
 obtain ⟨a,vs,ns,rfl,rfl,hobj,hints,hlen⟩:=qu hn hpre hwl
 refine enter_call (codeAny_mono (call w s₀ s₁ mg mb fa o pm cd doc a vs ns G Y ho (fd_plain hd) hcd hmg hobj hints hlen hg) fun r s' hq=>?_)
 obtain ⟨rfl,h2,h3,h4⟩:=hq
 exact ⟨.inl ⟨.bool true,.bool true,[],rfl,fun _=>rfl,.bool true,qE l _,fun _=>⟨List.Pairwise.nil,fun _ hm=>(nomatch hm)⟩⟩,h2,h3,h4⟩
end Att
namespace L2
open PySem PySem.Spec PyProof.Rows
theorem jU: ∀ {vs:List Value} {ns:List Int},IntsAre vs ns->Vals (ns.map V.int) vs
 | _,_,.nil=>.nil
 | _,_,.cons n t h=>.cons ⟨t,rfl⟩ (jU h)
noncomputable def xc (H:Hp):Prop:= ∀ b,H b=none\/ ∃ o xs,H b=some (.frz o (.lst xs))
theorem t7 {P:Program} {w:World} {K:PySem.W.Frag} {mg mb:Str->Option Value} {CX:CXT} {k:Nat} {fa a:Addr} {fd:FuncData} {x:Str} {sp:Sp} {s₁:Shared} {vs:List Value} {ns:List Int}
  (KX:K.In s₁.heap) (hns:s₁.heap.Ns mainGlobals mg) (hb:s₁.heap.Ns builtinsNs mb) (hbb: ∀ x:Str,x≠"__name__"->mb x=bootBuiltins x) (hlim:s₁.heap.NoLimit) (hg:s₁.gens= #[])
  (ha:s₁.heap.get? a=some {cls:=.type "list",data:=.seq vs.toArray}) (hi:IntsAre vs ns) (hl:ns.length<=sizeLine) (hr:Room k callerA)
  (F: ∀ base:Heap,K.In base->base.Ns mainGlobals mg->FnOk P w K mg base CX k fa fd [x] sp) (hbind: ∀ (s:Shared) (u:Value),BindsTo s fd ⟨[u],[]⟩ [(x,u)])
  (hsp: ∀ H:Hp,xc H->SqL K H a (ns.map V.int)->sp [.ref a] H (fun v _=>v=.bl true) fun _ _ _=>False)
  (hCX: ∀ H e s',CX [] H s₁ (fun _ _ _=>False) e s'->False):
  codeAny (model P w) callerA (.call (.ref fa) ⟨[.ref a],[]⟩) (fun r s'=>r=.ok (.ret (.bool true))/\OldK s₁.heap s'.heap/\s'.os=s₁.os/\AllBare s'.gens) s₁:=by
 have rv:=jU hi
 have lenV:=hi.length
 have core: ∀ H:Hp,xc H->SqL K H a (ns.map V.int)->HOk P w H s₁.heap->(∀ b,H b≠none->b=a)->(H a≠none->K.lookup a=none)->
   codeAny (model P w) callerA (.call (.ref fa) ⟨[.ref a],[]⟩) (fun r s'=>r=.ok (.ret (.bool true))/\OldK s₁.heap s'.heap/\s'.os=s₁.os/\AllBare s'.gens) s₁:=by
  intro H hO hS hok hA hK
  have base_of: ∀ {b:Addr} {o:Obj},s₁.heap.get? b=some o->H b=none->(lR s₁.heap H).get? b=some o:=fun e n=>ue e n
  have noA: ∀ {b:Addr} {o:Obj} {es:Array DictEntry} {ep:Nat},s₁.heap.get? b=some o->o.data=.dict es ep->H b=none:=fun {b o es ep} e d=>by
   cases q:H b with
   | none=>rfl
   | some u=>
    have e':b=a:=hA b (by rw [q];simp)
    subst e'
    rw [ha]at e;cases e
    have d':Data.seq vs.toArray _=Data.dict es ep:=d
    cases d'
  have nsK: ∀ {b:Addr} {m:Str->Option Value},s₁.heap.Ns b m->(lR s₁.heap H).Ns b m:=fun {b m} ⟨o,es,ep,e,d,r⟩=>⟨o,es,ep,base_of e (noA e d),d,r⟩
  have hKb:K.In (lR s₁.heap H):=fun b o e=>base_of (KX b o e) (by
   cases q:H b with
   | none=>rfl
   | some u=>
    have e':b=a:=hA b (by rw [q];simp)
    subst e'
    rw [hK (by rw [q];simp)]at e;cases e)
  have hM:Mod K mg (lR s₁.heap H):=⟨hKb,nsK hns,⟨mb,nsK hb,hbb⟩,let ⟨mc,h1,h2⟩:=hlim;⟨mc,nsK h1,h2⟩⟩
  have e0:uG P w K mg (lR s₁.heap H) callerA [] s₁ H:=⟨rfl,hM,fun b o e=>vc e,Nat.le_of_eq (rg _ _),trivial,fun b hb=>absurd (show b∈([]:List Addr)from hb) (by simp),hok,.of_eq hg⟩
  refine codeAny_mono ((F _ hKb (nsK hns)).run callerA [] s₁ H ⟨[.ref a],[]⟩ [.ref a] [.ref a] _ _ hr e0 (hbind s₁ (.ref a)) (.cons rfl .nil) (hsp H hO hS)) fun r s' h=>?_
  cases r with
  | error e=>exact (hCX H e s' h).elim
  | ok fl=>
   cases fl with
   | next=>exact False.elim h
   | brk=>exact False.elim h
   | cont=>exact False.elim h
   | ret u=>
    obtain ⟨v,H',os,bare,un,hok',r',q⟩:=h
    have q':v=.bl true:=q
    subst q'
    obtain rfl:u=Value.bool true:=r'
    refine ⟨rfl,OldK.of_keep fun b o e=>?_,os,bare⟩
    cases q:H b with
    | none=>exact un.keep b o e q (by intro z;exact absurd (show b∈([]:List Addr)from z) (by simp)) (by simp)
    | some u=>
     rcases hO b with z | ⟨ob,xs,z⟩
     ·rw [q]at z;cases z
     ·have z2:=un.frzs b ob _ z
      obtain ⟨e1,_⟩:=hok b _ z
      obtain ⟨e2,_⟩:=hok' b _ z2
      rw [e]at e1;cases e1
      exact e2
 cases hk:K.lookup a with
 | some o=>
  have e:=KX a o hk
  rw [ha]at e
  cases e
  refine core (fun _=>none) (fun _=>.inl rfl) (.inr ⟨_,vs.toArray,_,hk,rfl,rfl,rfl,by rw [List.size_toArray,lenV];exact hl,by simpa using rv⟩) (fun b u z=>by have z':(none:Option HO)=some u:=z;cases z') (fun b z=>absurd rfl z) fun z=>absurd rfl z
 | none=>
  refine core (fun b=>if b=a then some (.frz {cls:=.type "list",data:=.seq vs.toArray} (.lst (ns.map V.int)))else none) (fun b=>?_) (.inl (.inr ⟨{cls:=.type "list",data:=.seq vs.toArray},if_pos rfl⟩)) (fun b u z=>?_) (fun b z=>?_) fun _=>hk
  ·by_cases hb:b=a
   ·exact .inr ⟨_,_,if_pos hb⟩
   ·exact .inl (if_neg hb)
  ·by_cases hb:b=a
   ·have z':=(if_pos hb).symm.trans z
    cases z'
    subst hb
    exact ⟨ha,by rw [List.length_map];exact hl,vs,_,rv,ha⟩
   ·have z':=(if_neg hb).symm.trans z
    cases z'
  ·by_cases hb:b=a
   ·exact hb
   ·exact absurd (if_neg hb) z
theorem walk_of {l:PySem.W.OpenLaw} {n k:Nat} {q:Program} {loose:List Str} {XP:(Str->Option Value)->Heap->Prop} {YP:World->Heap->Prop} {d:DefRec} {K:Params->PySem.W.Frag} {CX:World->CXT} {sp:World->Sp} {x:Str}
  (hn:l.most=some n) (hn2:n<=sizeLine) (hdf:d.params.defaults=[]) (hr:Room k callerA)
  (hY: ∀ (w:World) (h:Heap),YP w h->(K w.params).In h)
  (F: ∀ (w:World) (mg:Str->Option Value) (fa:Addr) (h:Heap),(K w.params).In h->h.Ns mainGlobals mg->mg d.name=some (.ref fa)->
   ∃ fd:FuncData,(∀ (s:Shared) (u:Value),BindsTo s fd ⟨[u],[]⟩ [(x,u)])/\
    ∀ base:Heap,(K w.params).In base->base.Ns mainGlobals mg->FnOk l.prog w (K w.params) mg base (CX w) k fa fd [x] (sp w))
  (hsp: ∀ (w:World) (H:Hp) (a:Addr) (ns:List Int),ns.length<=n->xc H->SqL (K w.params) H a (ns.map V.int)->sp w [.ref a] H (fun v _=>v=.bl true) fun _ _ _=>False)
  (hCX: ∀ (w:World) (H:Hp) (s:Shared) (e:Value) (s':Shared),CX w [] H s (fun _ _ _=>False) e s'->False):
  PySem.W.WalkO q loose XP YP l.row.toRowW d [] (fun f vs=>PySem.call f vs):=by
 refine Att.attach_call hn hdf fun w s₀ s₁ mg mb fa o pm cd doc a vs ns G Y ho hd hcd hmg hobj hints hlen hg=>?_
 have KX:=hY w _ Y
 obtain ⟨fd,hb,hF⟩:=F w mg fa _ KX G.T.g hmg
 exact t7 KX G.T.g G.T.b G.T.builtins G.T.nolimit hg hobj hints (Nat.le_trans hlen hn2) hr hF hb (fun H hO hS=>hsp w H a ns hlen hO hS) fun H e s'=>hCX w H s₁ e s'
noncomputable def h8 (s:Stmt):Arguments:=match s with
 | .FunctionDef _ a _ _ _ _ _ _ _ _=>a
 | _=>{posonlyargs:=[],args:=[],vararg:=none,kwonlyargs:=[],kw_defaults:=[],kwarg:=none,defaults:=[]}
noncomputable def cz (s:Stmt):List Stmt:=match s with
 | .FunctionDef _ _ b _ _ _ _ _ _ _=>b
 | _=>[]
noncomputable def aj (s:Stmt):Scope:=match s with
 | .FunctionDef _ _ _ _ _ _ sc _ _ _=>sc
 | _=>{kind:=.function,names:=[],isGenerator:=false,isCoroutine:=false}
noncomputable abbrev CX0:CXT:=fun _ _ _ _ _ _=>False
noncomputable abbrev E0:XK:=fun _ _ _=>False
theorem aD {X:Cx}:iB CX0 X E0:=fun _ _ _ _ _ _ _ h=>h.elim
structure Fun (K:PySem.W.Frag) (x qual:Str) (st:Stmt) (f:Addr) (fd:FuncData):Prop where
 ex: ∃ (oc:Value) (od:Option Addr) (kV doc pm:Value) (an:Option Addr) (cdv ct:Value) (osl:Array (Option Value)),
  fd=PySem.W.fnOf x qual (h8 st) (cz st) (aj st) .none kV doc pm an cdv ct/\K.lookup f=some ⟨oc,od,.func fd,osl⟩/\PySem.W.codeIn K cdv qual=true
 kp:PySem.W.keepIn K (.ref f)=true
section
variable {P:Program} {w:World} {K:PySem.W.Frag} {mg:Str->Option Value} {base:Heap}
theorem Fun.ok {x qual:Str} {st:Stmt} {f:Addr} {fd:FuncData} {N ps:List Str} {k:Nat} {sp:Sp} (F:Fun K x qual st f fd) (S:aI N ps (aj st)) (len: ∀ vs H Q E,sp vs H Q E->vs.length=ps.length)
  (hbody: ∀ (cdv:Value) (A:Around) (outer:List Env) (s:Shared) (H:Hp) (vs:List V) (Q:VK) (E:XK),Room k (A.deeper (envOfC qual (aj st) s.heap.objs.size f cdv))->sp vs H Q E->
   ∃ t,PSs (cY CX0 P w K mg base N qual (aj st) f cdv A outer s H E).nox (cz st) t/\t {nx:=fun _ H'=>Q .non H',rt:=Q} (dG N vs) H):FnOk P w K mg base CX0 (k+1) f fd ps sp:=by
 obtain ⟨oc,od,kV,doc,pm,an,cdv,ct,osl,rfl,lk,hcd⟩:=F.ex
 refine xX lk hcd S len fun A outer s H vs Q E hr hsp=>?_
 obtain ⟨t,h,q⟩:=hbody cdv A outer s H vs Q E hr hsp
 exact ⟨t,h.nox,q⟩
theorem Fun.binds {x qual:Str} {st:Stmt} {f:Addr} {fd:FuncData} {ps:List Str} (F:Fun K x qual st f fd)
  (h: ∀ (kV doc pm:Value) (an:Option Addr) (cdv ct:Value) (us:List Value),us.length=ps.length->bindArgs (PySem.W.fnOf x qual (h8 st) (cz st) (aj st) .none kV doc pm an cdv ct) ⟨us,[]⟩=pure (ps.zip us)):Binds K fd ps []:=by
 obtain ⟨oc,od,kV,doc,pm,an,cdv,ct,osl,rfl,lk,hcd⟩:=F.ex
 exact .all (h kV doc pm an cdv ct)
end
theorem jy {A:Around} {k:Nat} (hr:Room k A):A.units+1<cLine:=Nat.lt_of_le_of_lt (Nat.add_le_add_left (by decide:1<=64) _) hr.units
theorem av {n:Nat} (h:n<=1000):n<sizeLine:=Nat.lt_of_le_of_lt h (by decide)
section
variable {X:Cx}
theorem pv (i:Nat) {x:Str} {pos:Pos} (hN:X.N[i]? =some x:=by rfl) (hv:Vis X.env.scope x:=by first | exact Or.inl rfl | exact Or.inr (Or.inl rfl) | exact Or.inr (Or.inr rfl)) (hd:(x==("__debug__":Str))=false:=by decide)
  (hcd:(x==("__classdict__":Str))=false:=by decide):PE X (.Name x pos) (qp i):=wC hN hv hd hcd
end
theorem cy {A B:Prop} (h:B):if false=true then A else B:=by
 rw [if_neg Bool.false_ne_true]
 exact h
theorem cF {A B:Prop} (h:A):if true=true then A else B:=by
 rw [if_pos rfl]
 exact h
theorem bE {c A B:Prop} [Decidable c] (h1:c->A) (h2: ¬ c->B):if c then A else B:=by
 by_cases h:c
 ·rw [if_pos h]
  exact h1 h
 ·rw [if_neg h]
  exact h2 h
theorem xO {c A B:Prop} [Decidable c] (hc:c) (h:B):if (!decide c)=true then A else B:=by
 rw [decide_eq_true hc]
 exact cy h
noncomputable def Same (H H':Hp):Prop:= ∀ b o,H b=some o->H' b=some o
theorem Same.refl (H:Hp):Same H H:=fun _ _ h=>h
theorem Same.trans {H H1 H2:Hp} (a:Same H H1) (b:Same H1 H2):Same H H2:=fun c o h=>b c o (a c o h)
theorem Same.free {H H':Hp} (e:Same H H') {l:Addr} (h:H' l=Option.none):H l=Option.none:=by
 cases q:H l with
 | none=>rfl
 | some o=>
  rw [e l o q]at h
  cases h
section
variable {κ:Type} [DecidableEq κ]
theorem uN {kvs:List (κ×V)} {k:κ} {v:V} (h:bi kvs k=some v):k∈kvs.map (·.1):=by
 have q:(kvs.any fun kv=>decide (kv.1=k))=true:=by
  rw [dW,h]
  all_goals rfl
 obtain ⟨p,hp,e⟩:=List.any_eq_true.mp q
 exact List.mem_map.mpr ⟨p,hp,of_decide_eq_true e⟩
end
section
variable {X:Cx}
theorem uy:dE X (.builtin "isinstance") (fun xs H Q=> ∃ x T t b,xs=[x,.ty T]/\ib X.K H x t/\PySem.W.kitOne X.K t (.type T)=some b/\Q (.bl b) H):=by
 intro pins s σ H xs us Q I r h
 obtain ⟨x,T,t,b,rfl,ty,e,q⟩:=h
 obtain ⟨u,w',rfl,ru,rw'⟩:=eY r
 cases (show w'=Value.type T from rw')
 exact re I ru ty e fun tk=>⟨.bl b,H,I.tok tk,rfl,q⟩
end
noncomputable def Itw (n:Nat) (R:Nat->V->Prop):It:=⟨fun i _=>i<n,fun i H x H'=>H'=H/\R i x,fun i _=>i=n⟩
theorem nL {P:Program} {w:World} {K:PySem.W.Frag} {tg:Expr} (it:Addr) (n:Nat) (Pv:Nat->Value->Prop) (tn:Nat->Heap->Prop) (R:Nat->V->Prop)
  (hW: ∀ A:Around,A.handled=none->Walks P w A it [it] [it] n Pv tn)
  (hobj: ∀ i h,tn i h-> ∃ (o:Obj) (nm:String) (vs:Array Value),h.get? it=some o/\o.cls=.type nm/\o.data=.fields vs/\
   ["enumerate","zip","dict_itemiterator","dict_reverseitemiterator","odict_iterator","itertools.zip_longest","itertools.pairwise"].contains nm=false)
  (hP: ∀ i v,Pv i v-> ∃ x,RelV x v/\R i x)
  (hself: ∀ (A:Around) (i:Nat) (s:Shared) (Q:Value->Shared->Prop) (E:Value->Shared->Prop),tn i s.heap->Q (.ref it) s->wpAny (model P w) A (pyIter (.ref it)) Q E s):nG P w K tg (Itw n R) [it] it tn where
 mem:=by simp
 obj:=fun i h st b hb=>by
  have e:b=it:=by simpa using hb
  subst e
  obtain ⟨o,nm,vs,e,_,d,_⟩:=hobj i h st
  exact ⟨o,e,fun v z=>by rw [d]at z;cases z⟩
 keep:=fun i h h' st k=>(hW callerA rfl).frame i h h' st fun b hb o e=>k b hb o e
 item:=by
  intro X hP' hw hK hc i pins s σ H E I hf st hg
  subst hP' hw hK
  obtain ⟨f0,f1,f2,f3,f4,f5⟩:=hf it (by simp)
  refine (hW X.A (I.ok.hd hc)).item i s _ _ hg st fun v h' tk hv st' kk=>?_
  obtain ⟨x,rx,qx⟩:=hP i v hv
  have I1:Inv X pins σ H {s with heap:=h',toks:=tk}:=I.turned (fun b o hb e=>kk b o (by simpa using hb) e) f0 f1 f3 f4 f5
  obtain ⟨o,nm,vs,e,c,d,ne⟩:=hobj _ _ st'
  exact ⟨v,rfl,nw (s:={s with heap:=h',toks:=tk}) e c d ne ⟨x,H,I1,rx,⟨rfl,qx⟩,st',fun b hb=>(hf b hb).1⟩⟩
 done:=by
  intro X hP' hw hK hc i pins s σ H E I hf st hg
  subst hP' hw hK
  obtain ⟨f0,f1,f2,f3,f4,f5⟩:=hf it (by simp)
  have hg':i=n:=hg
  subst hg'
  exact (hW X.A (I.ok.hd hc)).done s _ _ st fun h' tk kk=>⟨rfl,I.turned (t':=tk) (fun b o hb e=>kk b o (by simpa using hb) e) f0 f1 f3 f4 f5⟩
 self:=hself
theorem ug {n:Nat} {R:Nat->V->Prop} {g:TG} {tb:TS} {D:eR} {σ:St} {H:Hp} (Pv:Nat->St->Hp->Prop) (h0:Pv 0 σ H)
  (hs: ∀ i x σ H,i<n->R i x->Pv i σ H->g x σ H fun σ2 H2=>tb {D with nx:=Pv (i+1),ct:=Pv (i+1),bk:=D.nx} σ2 H2) (hd: ∀ σ H,Pv n σ H->D.nx σ H):
  ∃ W:Nat->Nat->St->Hp->Prop,(∃ m,W 0 m σ H)/\ ∀ i m σ H,W i m σ H->
   ((Itw n R).stop i H/\D.nx σ H)\/((Itw n R).go i H/\ ∃ N:St->Hp->Prop,(∀ σ' H',N σ' H'-> ∃ m',m'<m/\W (i+1) m' σ' H')/\ ∀ x H',(Itw n R).yld i H x H'->g x σ H' fun σ2 H2=>tb {D with nx:=N,ct:=N,bk:=D.nx} σ2 H2):=by
 refine ⟨fun i m σ H=>i<=n/\m=n-i/\Pv i σ H,⟨n,Nat.zero_le _,by simp,h0⟩,?_⟩
 rintro i m σ H ⟨hi,hm,p⟩
 by_cases e:i=n
 ·subst e
  exact .inl ⟨rfl,hd σ H p⟩
 ·have hlt:i<n:=by lia
  refine .inr ⟨hlt,Pv (i+1),fun σ' H' p'=>⟨n- (i+1),by lia,by lia,rfl,p'⟩,?_⟩
  rintro x H' ⟨rfl,r⟩
  exact hs i x σ H' hlt r p
section
variable {X:Cx} {tg:Expr}
noncomputable def xP (ta:TA):TI:=fun σ H R=>ta σ H fun vs H1=> ∃ i j c:Int,vs=[.int i,.int j,.int c]/\(-(2^40)<=i/\i<2^40/\ -(2^40)<=j/\j<2^40/\0<c/\c<2^20)/\
 R (Itw (Builtin.Range.rangeSize i j c).toNat fun k v=>v=.int (i+k*c)) H1
theorem n0 {a b c:Int} (h1: -(2^40)<=a) (h2:a<2^40) (h3: -(2^40)<=b) (h4:b<2^40) (h5:0<c) (h6:c<2^20):Builtin.Range.small a b c=true:=by
 have hz:Builtin.Range.rangeSize a b c<=2^41/\0<=Builtin.Range.rangeSize a b c:=by
  unfold Builtin.Range.rangeSize
  rw [if_pos h5]
  split
  ·have e1:(b-a-1) /c<=b-a-1:=Int.ediv_le_self _ (by lia)
   have e2:0<=(b-a-1) /c:=Int.ediv_nonneg (by lia) (by lia)
   lia
  ·lia
 unfold Builtin.Range.small
 simp only [Builtin.Range.rangeFitsLong,Bool.and_eq_true,Bool.or_eq_true,decide_eq_true_eq,beq_iff_eq,show c>0 from h5,if_true]
 lia
theorem qH {a b c:Expr} {ta:TA} {p pos:Pos} (hg:Gl X "range") (hm:X.mg "range"=none) (ha:PA X [a,b,c] ta) (hs:starEach [a,b,c] X.env=[(false,eval a X.env),(false,eval b X.env),(false,eval c X.env)]:=by rfl)
  (hs2:starEach [b,c] X.env=[(false,eval b X.env),(false,eval c X.env)]:=by rfl):PI X tg (.Call (.Name "range" p) [a,b,c] [] pos) (xP ta):=by
 intro pins s σ H R I h
 refine Call_ (dA I hg hm boot_range (PyProof.Rows.callWith_type1 (thn (ha pos pins s σ H _ I h) fun us s1 ⟨vs,H1,I1,r1,q1⟩=>?_) (by rw [hs,hs2]) (by rw [hs2];rfl)))
 obtain ⟨i,j,c,e,⟨q1,q2,q3,q4,q5,q6⟩,q⟩:=q1
 subst e
 cases r1 with
 | cons r rr=>
  cases rr with
  | cons r' rr=>
   cases rr with
   | cons r'' rr=>
    cases rr
    obtain ⟨t,rfl⟩:=r
    obtain ⟨t',rfl⟩:=r'
    obtain ⟨t'',rfl⟩:=r''
    refine call_range_3 (by lia) ?_ (Or.inl (PyProof.noPylong_small (by lia)))
    refine wpAny_pyIter_range (IsRange.new ..) (n0 q1 q2 q3 q4 q5 q6) ?_
    have I2:Inv X pins σ H1 {s1 with heap:=s1.heap.push {cls:=.type "range",data:=.fields #[.int i t,.int j t',.int c t'']}}:=I1.kept (t':=s1.toks) fun b o e=>Heap.get?_push_of_some _ e
    have hn:0<=Builtin.Range.rangeSize i j c:=by
     unfold Builtin.Range.rangeSize
     rw [if_pos q5]
     split
     ·have:=Int.ediv_nonneg (a:=j-i-1) (b:=c) (by lia) (by lia)
      lia
     ·lia
    refine ⟨(s1.heap.push {cls:=.type "range",data:=.fields #[.int i t,.int j t',.int c t'']}).objs.size,[(s1.heap.push {cls:=.type "range",data:=.fields #[.int i t,.int j t',.int c t'']}).objs.size],_,_,H1,rfl,
     I2.kept (t':=s1.toks) fun b o e=>Heap.get?_push_of_some _ e,
     nL _ (Builtin.Range.rangeSize i j c).toNat _ _ (fun k v=>v=.int (i+k*c)) (fun A hA=>Walks.range hA _ i c _) (fun k h st=>⟨_,"range_iterator",_,st,rfl,rfl,by decide⟩) (fun k v hv=>?_) (fun _ _ _ _ _ st h=>wpAny_pyIter_rangeiter st h),?_,fun b hb=>?_,q⟩
    ·obtain ⟨tt,rfl⟩:=hv
     exact ⟨.int (i+k*c),⟨tt,rfl⟩,rfl⟩
    ·show IsRangeIter _ _ (i+ ((0:Nat):Int) *c) (((Builtin.Range.rangeSize i j c).toNat:Int) - ((0:Nat):Int)) c
     have e1:i+ ((0:Nat):Int) *c=i:=by simp
     have e2:(((Builtin.Range.rangeSize i j c).toNat:Nat):Int) - ((0:Nat):Int)=Builtin.Range.rangeSize i j c:=by lia
     rw [e1,e2]
     exact Heap.get?_push_size _ rfl
    ·have e:b=(s1.heap.push {cls:=.type "range",data:=.fields #[.int i t,.int j t',.int c t'']}).objs.size:=by simpa using hb
     subst e
     exact I2.fpOk (Nat.le_refl _) I2.fresh
end
section
variable {X:Cx} {e k:Expr} {te tk:TE} {pos p2:Pos}
theorem dU: ∀ (ix:List Nat) {xs:List V} {us:List Value},Vals xs us->Vals (ix.filterMap (xs[·]?)) (ix.filterMap (us[·]?))
 | [],_,_,_=>.nil
 | i::r,xs,us,h=>by
  rw [List.filterMap_cons,List.filterMap_cons]
  cases ex:xs[i]? with
  | none=>
   rw [h.none_of ex]
   exact dU r h
  | some x=>
   obtain ⟨u,eu,ru⟩:=h.get ex
   rw [eu]
   exact .cons ru (dU r h)
noncomputable def ff (n:Nat) (c:Int):List Nat:=sliceRange (sliceBounds none none (some c) n).1 (sliceBounds none none (some c) n).2.1 (sliceBounds none none (some c) n).2.2
noncomputable def iE (xs:List V) (c:Int):List V:=(ff xs.length c).filterMap (xs[·]?)
theorem om {α:Type} (xs:List α):(List.range xs.length).filterMap (xs[·]?)=xs:=by
 induction xs with
 | nil=>rfl
 | cons x r ih=>
  rw [List.length_cons,List.range_succ_eq_map,List.filterMap_cons,List.filterMap_map]
  show x::List.filterMap ((fun j=>(x::r)[j]?)∘Nat.succ) (List.range r.length)=x::r
  congr 1
theorem nU (n:Nat):ff n 1=List.range n:=by
 unfold ff sliceBounds sliceRange
 simp only [Option.getD_some,show (1:Int) >0 by decide,if_true]
 by_cases h:n=0
 ·subst h
  rfl
 ·rw [if_pos (by lia)]
  have e:(((n:Int) -0+1-1) /1).toNat=n:=by rw [Int.ediv_one];lia
  rw [e]
  conv=>rhs;rw [<- List.map_id (List.range n)]
  apply List.map_congr_left
  intro k hk
  show (0+1* (k:Int)).toNat=k
  lia
theorem qr (xs:List V):iE xs 1=xs:=by
 unfold iE
 rw [nU]
 exact om xs
theorem nV (n:Nat):ff n (-1)=(List.range n).map fun k=>n-1-k:=by
 unfold ff sliceBounds sliceRange
 simp only [Option.getD_some,show ¬ ((-1:Int) >0) by decide,if_false]
 by_cases h:n=0
 ·subst h
  rfl
 ·rw [if_pos (by lia)]
  have e:(((n:Int) -1- -1- -1-1) / (- -1)).toNat=n:=by
   rw [show (- -1:Int)=1 by decide,Int.ediv_one];lia
  rw [e]
  apply List.map_congr_left
  intro k hk
  have:=List.mem_range.mp hk
  show ((n:Int) -1+ -1* (k:Int)).toNat=n-1-k
  lia
theorem rev_pick {α:Type} (xs:List α):((List.range xs.length).map fun k=>xs.length-1-k).filterMap (xs[·]?)=xs.reverse:=by
 apply List.ext_getElem?
 intro i
 have hall:((List.range xs.length).map fun k=>xs.length-1-k).filterMap (xs[·]?)=(List.range xs.length).filterMap fun k=>xs[xs.length-1-k]? :=by
  rw [List.filterMap_map]
  rfl
 rw [hall]
 have hsome: ∀ (l:List Nat),(∀ k∈l,k<xs.length)-> ∀ j:Nat,(l.filterMap fun k=>xs[xs.length-1-k]?)[j]? =l[j]?.bind fun k=>xs[xs.length-1-k]? :=by
  intro l
  induction l with
  | nil=>intro _ j;rfl
  | cons a r ih=>
   intro hl j
   have ha:=hl a List.mem_cons_self
   have hx:xs[xs.length-1-a]? =some xs[xs.length-1-a]:=List.getElem?_eq_getElem (by lia)
   rw [List.filterMap_cons,hx]
   cases j with
   | zero=>simp [hx]
   | succ j=>
    rw [List.getElem?_cons_succ,List.getElem?_cons_succ]
    exact ih (fun k hk=>hl k (List.mem_cons_of_mem _ hk)) j
 rw [hsome _ (fun k hk=>List.mem_range.mp hk) i]
 by_cases hi:i<xs.length
 ·rw [List.getElem?_range hi,List.getElem?_reverse hi]
  rfl
 ·rw [List.getElem?_eq_none (by simpa using hi),List.getElem?_eq_none (by simpa using hi)]
  rfl
theorem jY (xs:List V):iE xs (-1)=xs.reverse:=by
 unfold iE
 rw [nV]
 exact rev_pick xs
noncomputable def xj (K:PySem.W.Frag) (te tk:TE):TE:=fun σ H Q=>te σ H fun x H1=>tk σ H1 fun y H2=> ∃ a xs c,x=.ref a/\y=.int c/\SqL K H2 a xs/\c≠0/\ ∀ p,H2 p=none->Q (.ref p) (upd H2 p (.lst (iE xs c)))
theorem pI (he:PE X e te) (hk:PE X k tk):PE X (.Subscript e (.Slice none none (some k) p2) pos) (xj X.K te tk):=by
 intro pins s σ H Q I h
 refine Subscript_ (thn (he pins s σ H _ I h) fun v s1 ⟨x,H1,I1,r1,q1⟩=>?_)
 refine wpAny_Slice ?_
 rw [evalPart_none,evalPart_some]
 refine wpAny_pure (wpAny_pure ?_)
 refine thn (hk pins s1 σ H1 _ I1 q1) fun vk s3 ⟨y,H3,I3,ry,a,xs,c,ex,ey,hq,hc,q⟩=>?_
 subst ex ey
 obtain ⟨t,rfl⟩:=ry
 cases r1
 have I4:Inv X pins σ H3 {s3 with heap:=s3.heap.push {cls:=.type "slice",data:=.fields #[.none,.none,.int c t]}}:=I3.kept (t':=s3.toks) fun b ob q=>Heap.get?_push_of_some _ q
 obtain ⟨its,r,ht,hz⟩:=I4.list hq
 have hlen:=r.length
 have hpick:slicePick its.toArray none none (some c)=((ff xs.length c).filterMap (its[·]?)).toArray:=by
  unfold slicePick ff
  rw [List.size_toArray,hlen]
  simp
 have hle:(iE xs c).length<=sizeLine:=by
  have h1:=slicePick_size_le its.toArray none none (some c)
  rw [hpick,List.size_toArray,List.size_toArray]at h1
  have h2:=(dU (ff xs.length c) r).length
  unfold iE
  lia
 show wpAny (model X.prog X.w) X.A (subscriptTail e (.Slice none none (some k) p2) (.ref a) (.ref s3.heap.objs.size)) (EP X pins σ Q) X.xe {s3 with heap:=s3.heap.push {cls:=.type "slice",data:=.fields #[.none,.none,.int c t]}}
 refine tail_any (ops:=[.ref a,.ref s3.heap.objs.size]) ht.isList.typeIs slot_list_getitem.lookup (wpAny_getItem_list_slice ht.isList (Heap.IsSliceOf.new ..) .none .none (.int c t) (by simpa using hc) ?_ (by rw [List.size_toArray];lia)) (by with_unfolding_all rfl)
 rw [hpick]
 refine ⟨.ref (s3.heap.push {cls:=.type "slice",data:=.fields #[.none,.none,.int c t]}).objs.size,_,I4.laid (t':=s3.toks) (o:=.lst (iE xs c)) (fun b ob q=>Heap.get?_push_of_some _ q) (Nat.le_refl _) ?_,rfl,q _ I4.fresh⟩
 exact ⟨hle,_,0,dU _ r,Heap.get?_push_size _ rfl⟩
inductive xB  (x:V) (lo:Option Int) (hi:Option Int) (H:Hp) (Q:VK):Prop
 | mk: ∀ z,(x=.str z)->(z.length<=sizeLine)->(Q (.str (Txt.slice z lo hi)) H)->xB x lo hi H Q
theorem cq:SlR X xB:=by
 intro pins s σ H x v vl vu lo hi sl Q I rx hs pl pu h
 obtain ⟨z,rfl,hz,q⟩:=h
 obtain ⟨t,rfl⟩:=rx
 refine ⟨"str",_,F.slot_str_getitem.lookup,typeIs_str _ _ _,?_⟩
 have go: ∀ (l u:Option (Int×Tok)),vl=partValue l->vu=partValue u->lo=l.map (·.1)->hi=u.map (·.1)->wpAny (model X.prog X.w) X.A (getItem (.str z t) (.ref sl)) (EP X pins σ Q) X.xe s:=by
  intro l u e1 e2 e3 e4
  subst e1 e2 e3 e4
  refine wpAny_getItem_str_slice (l:=l) (u:=u) (st:=none) hs rfl ?_
  exact post_val_or_str ⟨Nat.le_trans (Txt.slice_le z _ _) hz,fun t' k=>⟨.str (Txt.slice z (l.map (·.1)) (u.map (·.1))),H,I.tok k,⟨t',rfl⟩,q⟩⟩
 cases pl with
 | none=>
  cases pu with
  | none=>exact go none none rfl rfl rfl rfl
  | int j tj=>exact go none (some (j,tj)) rfl rfl rfl rfl
 | int i ti=>
  cases pu with
  | none=>exact go (some (i,ti)) none rfl rfl rfl rfl
  | int j tj=>exact go (some (i,ti)) (some (j,tj)) rfl rfl rfl rfl
open PySem.AutoSeq1 (wpAny_loadPart')in
theorem qB (bs:List Bool):((List.range bs.length).all fun i=>(bs[i]?).getD true)=bs.all id:=by
 induction bs with
 | nil=>rfl
 | cons b r ih=>
  rw [List.length_cons,List.range_succ_eq_map,List.all_cons,List.all_map]
  show (b&&(List.range r.length).all (fun i=>((b::r)[i+1]?).getD true))=(b&&r.all id)
  rw [<- ih]
  rfl
theorem jK (hc:X.calm=true):dE X (.builtin "all") (fun xs H Q=> ∃ (p:Addr) (bs:List Bool),xs=[.ref p]/\SqL X.K H p (bs.map V.bl)/\Q (.bl (bs.all id)) H):=by
 intro pins s σ H xs us Q I r h
 obtain ⟨p,bs,rfl,hq,q⟩:=h
 obtain ⟨u,rfl,ru⟩:=iD r
 cases ru
 obtain ⟨its,rv,pl,hz⟩:=I.list hq
 have hl:=pl.isList
 have hlt:p<s.heap.objs.size:=by obtain ⟨_,e,_⟩:=hl;exact Heap.lt_size e
 have hn:its.toArray.size=bs.length:=by have:=rv.length;rw [List.length_map]at this;rw [List.size_toArray];lia
 refine call_all_walk (wpAny_pyIter_list hl ?_)
 refine ⟨s.heap.objs.size,[s.heap.objs.size,p],[s.heap.objs.size],its.toArray.size,_,_,fun i=>(bs[i]?).getD true,rfl,Walks.list (A:=X.A.in1) (I.ok.hd hc) _ p (Nat.ne_of_lt hlt) its.toArray,
  ⟨⟨_,Heap.get?_push_size _ rfl,rfl,rfl⟩,hl.push _⟩,fun i v s' Q' E' hP hQ=>?_,fun h' tk hk=>?_⟩
 ·have hv:its[i]? =some v:=by simpa using hP
  have hi:i<bs.length:=by
   have:=(List.getElem?_eq_some_iff.mp hv).1
   have:=rv.length
   rw [List.length_map]at this
   lia
  have hb:(bs.map V.bl)[i]? =some (V.bl bs[i]):=by rw [List.getElem?_map,List.getElem?_eq_getElem hi] <;> rfl
  obtain ⟨u,eu,ru⟩:=rv.get hb
  rw [hv]at eu
  cases eu
  cases (show v=Value.bool bs[i]from ru)
  have hQ':=hQ
  simp only [List.getElem?_eq_getElem hi,Option.getD_some]at hQ'
  exact wpAny_truthy_bool hQ'
 ·rw [hn,qB]
  refine ⟨.bl (bs.all id),H,I.kept (t':=tk) fun b x e=>?_,rfl,q⟩
  exact hk b x (fun hm=>by rw [List.mem_singleton.mp hm]at e;exact Nat.lt_irrefl _ (Heap.lt_size e)) (Heap.get?_push_of_some _ e)
end
theorem hV {α β:Type} {f:α->β->Sem (ForInStep β)} (g:β->α->β): ∀ {l:List α} (c:β),(∀ x∈l,∀ c,f x c=pure (.yield (g c x)))->forIn l c f=pure (l.foldl g c)
 | [],c,_=>rfl
 | x::l,c,h=>by
  have hx:=h x List.mem_cons_self c
  rw [List.forIn_cons,hx,pure_bind]
  exact hV g (g c x) fun y hy=>h y (List.mem_cons_of_mem _ hy)
noncomputable def cg (cells:List (Str×Addr)) (c:List (Str×Addr)) (x:Str×NameKind):List (Str×Addr):=
 if x.2=.free then (match cells.lookup x.1 with | some a=>(x.1,a)::c | none=>c)else c
noncomputable def dD (cells:List (Str×Addr)) (names:List (Str×NameKind)):List (Str×Addr):=names.foldl (cg cells) []
theorem dS {scope:Scope} {env:Env} (h: ∀ x∈scope.names,x.2=.free-> ∃ c,env.cells.lookup x.1=some c):closureFor scope env=pure (dD env.cells scope.names):=by
 simp only [closureFor]
 rw [hV (cg env.cells) [] (fun x hx c=>by
  obtain ⟨n,kind⟩:=x
  by_cases hk:kind=.free
  ·subst hk
   obtain ⟨a,ha⟩:=h _ hx rfl
   simp only [cg,if_true,beq_self_eq_true,cellOf,ha,pure_bind]
  ·have hb:(kind==NameKind.free)=false:=by simpa using hk
   simp only [cg,hb,hk,Bool.false_eq_true,if_false])]
 rfl
theorem jG {cells:List (Str×Addr)}: ∀ {names:List (Str×NameKind)} {acc:List (Str×Addr)},(∀ p∈acc,cells.lookup p.1=some p.2)-> ∀ p∈names.foldl (cg cells) acc,cells.lookup p.1=some p.2
 | [],_,h=>h
 | x::r,acc,h=>by
  refine jG (names:=r) (acc:=cg cells acc x) ?_
  intro p hp
  unfold cg at hp
  split at hp
  ·split at hp
   ·rename_i a ha
    rcases List.mem_cons.mp hp with e | e
    ·subst e
     exact ha
    ·exact h p e
   ·exact h p hp
  ·exact h p hp
theorem jH {cells:List (Str×Addr)}: ∀ {names:List (Str×NameKind)} {acc:List (Str×Addr)} {p:Str×Addr},p∈acc->p∈names.foldl (cg cells) acc
 | [],_,_,h=>h
 | x::r,acc,p,h=>by
  refine jH (names:=r) (acc:=cg cells acc x) ?_
  unfold cg
  split
  ·split
   ·exact List.mem_cons_of_mem _ h
   ·exact h
  ·exact h
theorem nB {cells:List (Str×Addr)} {n:Str} {c:Addr} (hc:cells.lookup n=some c): ∀ {names:List (Str×NameKind)} {acc:List (Str×Addr)},(n,NameKind.free)∈names->(n,c)∈names.foldl (cg cells) acc
 | [],_,h=>by simp at h
 | x::r,acc,h=>by
  rcases List.mem_cons.mp h with e | e
  ·subst e
   refine jH (names:=r) ?_
   simp [cg,hc]
  ·exact nB hc (names:=r) e
theorem mem_of_lookup {α β:Type} [BEq α] [LawfulBEq α] {k:α} {v:β}: ∀ {l:List (α×β)},l.lookup k=some v->(k,v)∈l
 | [],h=>by simp at h
 | (a,b)::r,h=>by
  rw [List.lookup_cons]at h
  split at h
  ·rename_i e
   have:=eq_of_beq e
   subst this
   cases h
   exact List.mem_cons_self
  ·exact List.mem_cons_of_mem _ (mem_of_lookup h)
theorem fU {α β:Type} [BEq α] [LawfulBEq α] {k:α} {v:β}: ∀ {l:List (α×β)},(k,v)∈l-> ∃ v',l.lookup k=some v'
 | [],h=>by simp at h
 | (a,b)::r,h=>by
  rw [List.lookup_cons]
  split
  ·exact ⟨b,rfl⟩
  ·rename_i e
   rcases List.mem_cons.mp h with q | q
   ·cases q
    simp at e
   ·exact fU q
theorem dj {cells:List (Str×Addr)} {names:List (Str×NameKind)} {n:Str} {c:Addr} (h:(dD cells names).lookup n=some c):cells.lookup n=some c:=
 jG (names:=names) (acc:=[]) (by simp) (n,c) (mem_of_lookup h)
theorem cV {cells:List (Str×Addr)} {names:List (Str×NameKind)} {n:Str} {c:Addr} (hc:cells.lookup n=some c) (h:(n,NameKind.free)∈names):(dD cells names).lookup n=some c:=by
 obtain ⟨c',e⟩:=fU (nB hc (acc:=[]) h)
 have:=dj e
 rw [hc]at this
 cases this
 exact e
noncomputable def bu (sc0 scope:Scope):List (Str×NameKind):=
 scope.names.map fun (n,k)=>if (k== .free&&sc0.kind== .function&&sc0.names.lookup n==some .cell)then (n,.cell)else (n,k)
structure gw (sc0:Scope) (N0:List Str) (scope:Scope) (x:Str) (ys:List Str) (fr:List Nat):Prop where
 kind:scope.kind=.function
 nocell: ∀ y∈scope.names,y.2≠ .cell
 loc: ∀ y∈scope.names,y.2=.local->scope.names.lookup y.1=some .local
 xl:(bu sc0 scope).lookup x=some .local
 free: ∀ y∈scope.names,y.2=.free->sc0.names.lookup y.1=some .cell
 nd:(x::ys).Nodup
 len:ys.length=fr.length
 sl: ∀ q∈ys.zip fr,N0[q.2]? =some q.1/\sc0.names.lookup q.1=some .cell/\(bu sc0 scope).lookup q.1=some .cell
theorem cok {sc0:Scope} {N0:List Str} {scope:Scope} {x:Str} {ys:List Str} {fr:List Nat} (kind_:scope.kind=.function:=by rfl) (nocell_: ∀ y∈scope.names,y.2≠ .cell:=by decide +kernel) (loc_: ∀ y∈scope.names,y.2=.local->scope.names.lookup y.1=some .local:=by decide +kernel) (xl_:(bu sc0 scope).lookup x=some .local:=by decide +kernel) (free_: ∀ y∈scope.names,y.2=.free->sc0.names.lookup y.1=some .cell:=by decide +kernel) (nd_:(x::ys).Nodup:=by decide +kernel) (len_:ys.length=fr.length:=by rfl) (sl_: ∀ q∈ys.zip fr,N0[q.2]? =some q.1/\sc0.names.lookup q.1=some .cell/\(bu sc0 scope).lookup q.1=some .cell:=by decide +kernel):gw sc0 N0 scope x ys fr:=⟨kind_,nocell_,loc_,xl_,free_,nd_,len_,sl_⟩
noncomputable def bt (X:Cx) (x:Str) (ys:List Str) (scope:Scope) (C:Addr) (s:Shared) (H:Hp) (ex:List Addr):Cx:=
 {X with N:=x::ys,s₀:=s,H₀:=H,env:=compEnvC scope (dD X.env.cells scope.names) C X.env,outer:=X.stack,stack:=X.stack,ex:=ex,fn:=fun _=>false,pn:=[],xe:=fun _ _=>False}
section
variable {prog:Program} {w:World} {A:Around} {R:Result->Shared->Prop} {s:Shared}
theorem fV {elt target iter:Expr} {scope:Scope} {pos:Pos} {it acc:Value} {env:Env} (I:Nat->Shared->Prop)
  (turn: ∀ n s,I n s->wpAny (model prog w) A (pyNext it) (fun r s₁=>match r with
   | none=>R (.ok .next) s₁
   | some v=>wpAny (model prog w) A (letOwnedTupleGo target it v) (fun _ s₁'=>wpAny (model prog w) A (assign target env v) (fun _ s₂=>wpAny (model prog w) A (eval elt env) (fun x s₃=>
     wpAny (model prog w) A (call (.builtin "list.append") [acc,x]) (fun _ s₄=> ∃ m,m<n/\I m s₄) (fun _ _=>False) s₃) (fun _ _=>False) s₂) (fun _ _=>False) s₁') (fun _ _=>False) s₁) (fun _ _=>False) s)
  (n:Nat) (h:I n s):codeAny (model prog w) A (.compLoop (.ListComp elt [⟨target,iter,[],0⟩] scope pos) 0 it acc env) R s:=by
 refine codeAny_loop rfl I (fun n s hI=>?_) n h
 show wpAny _ _ ((compTurn (.ListComp elt [⟨target,iter,[],0⟩] scope pos) 0 it acc env).onRaise (fun x=>do noteFrame x env;theTreesLotGoes x)) _ _ s
 refine wpAny_noted ?_
 rw [compTurn_list1]
 refine wpAny_noRaise ?_
 refine wpAny_bind (wpAny_standAt (wpAny_bind (wpAny_mono (turn n s hI) (fun r s₁ h₁=>?_) fun _ _ h'=>h')))
 cases r with
 | none=>exact wpAny_pure h₁
 | some v=>
  refine wpAny_bind (wpAny_mono h₁ (fun _ s₁' h₁'=>?_) fun _ _ h'=>h')
  exact wpAny_bind (wpAny_mono h₁' (fun _ s₂ h₂=>wpAny_bind (wpAny_bind (wpAny_mono h₂ (fun x s₃ h₃=>wpAny_bind (wpAny_mono h₃
   (fun _ s₄ h₄=>wpAny_pure (wpAny_pure ⟨rfl,h₄⟩)) fun _ _ h'=>h')) fun _ _ h'=>h'))) fun _ _ h'=>h')
end
noncomputable def cf (fr:List Nat) (σ:St):St:=fr.map fun j=>(σ[j]?).join
noncomputable def dN (fr:List Nat) (te:TE) (σ:St) (J:It) (H1:Hp) (Q:VK):Prop:=
 ∀ p,H1 p=none-> ∃ W:Nat->Nat->List V->Hp->Prop,(∃ m,W 0 m [] (upd H1 p (.lst [])))/\ ∀ i m ys H,W i m ys H->H p=some (.lst ys)/\
  ((J.stop i H/\Q (.ref p) H)\/(J.go i H/\ys.length<sizeLine/\ ∀ x H',J.yld i H x H'->te (some x::cf fr σ) H' fun v H2=>
   H2 p=some (.lst ys)/\ ∃ m',m'<m/\W (i+1) m' (ys++[v]) (upd H2 p (.lst (ys++[v])))))
noncomputable def rZ (wi:TI) (fr:List Nat) (te:TE):TE:=fun σ H Q=>wi σ H fun J H1=>dN fr te σ J H1 Q
section
variable {X:Cx} {x:Str} {px pos fpos:Pos} {iter elt:Expr} {scope sc0:Scope} {N0 ys:List Str} {fr:List Nat} {wi:TI} {te:TE} {pins:List (Addr×Obj)} {σ:St} {H:Hp} {s:Shared}
theorem kw {use:Option (Value->Sem Unit)} {Qv:Value->Shared->Prop} {Q:VK} (hcalm:X.calm=true) (hi:PI X (.Name x px) iter wi) (hsc:X.env.scope=sc0) (hN:X.N=N0) (ok:gw sc0 N0 scope x ys fr)
  (hE: ∀ C s H ex,PE (bt X x ys scope C s H ex) elt te) (I:Inv X pins σ H s) (h:rZ wi fr te σ H Q) (hs: ∀ v,foldedSetIterable iter X.env v=pure v)
  (fin: ∀ (p C:Addr) (H':Hp) (s':Shared) (m:Str->Option Value),Inv X pins σ H' s'->s'.heap.Ns C m->H' C=none->C≠X.env.locals->X.s₀.heap.objs.size<=C->(∀ y c,X.env.cells.lookup y=some c->c≠C)->(∀ q∈X.pn++pins,q.1≠C)->Q (.ref p) H'->
   compPost (model X.prog X.w) X.A X.xe use Qv (.ref p) C (.ok .next) s'):
  wpAny (model X.prog X.w) X.A (comprehension (.ListComp elt [⟨.Name x px,iter,[],0⟩] scope pos) scope X.env fpos (newList []) false (eval iter X.env) use) Qv X.xe s:=by
 subst hsc hN
 have hkof: ∀ y,X.env.kindOf y=X.env.scope.names.lookup y:=fun y=>rfl
 have hfree: ∀ y∈scope.names,y.2=.free-> ∃ c,X.env.cells.lookup y.1=some c:=fun y hy e=>I.ok.has y.1 (.inl (ok.free y hy e))
 refine wpAny_comprehension_free (gs:=[]) rfl hs (dS hfree) ok.kind ok.loc (thn (hi pins s σ H _ I h) fun v s1 h1=>thn h1 fun itv s2 h2=>?_)
 obtain ⟨it,fp,tn,J,H2,e,I2,T,st2,f2,hp⟩:=h2
 subst e
 refine wpAny_newObj_type (wpAny_newFunctionEnv ok.nocell (by intro y hy;simp at hy) (fun h₁ hns₁ hsb₁=>?_) ok.kind)
 dsimp only at hns₁ hsb₁ ⊢
 have I3:Inv X pins σ (upd H2 s2.heap.objs.size (.lst [])) {s2 with heap:=s2.heap.push {cls:=.type "list",data:=.seq ([]:List Value).toArray}}:=
  I2.lnew (its:=[]) (ys:=[]) (t':=s2.toks) .nil (Nat.zero_le _)
 have hf2: ∀ b∈fp,b<s2.heap.objs.size:=fun b hb=>by
  obtain ⟨o,e,_⟩:=T.obj _ _ st2 b hb
  exact Heap.lt_size e
 have hps:s2.heap.objs.size< (s2.heap.push {cls:=.type "list",data:=.seq ([]:List Value).toArray}).objs.size:=by rw [Heap.size_push];exact Nat.lt_succ_self _
 have W0:=hp s2.heap.objs.size I2.fresh
 have st3:tn 0 (s2.heap.push {cls:=.type "list",data:=.seq ([]:List Value).toArray}):=T.keep _ _ _ st2 fun b hb o e=>Heap.get?_push_of_some _ e
 generalize hpp:s2.heap.objs.size=p at I3 W0 hf2 hps ⊢
 generalize hh3:(s2.heap.push {cls:=.type "list",data:=.seq ([]:List Value).toArray})=h3 at I3 hns₁ hsb₁ hps st3 ⊢
 generalize hH3:upd H2 p (.lst [])=H3 at I3 W0
 have hold: ∀ b o,h3.get? b=some o->h₁.get? b=some o:=fun b o e=>hsb₁.extBut b o (Nat.ne_of_lt (Heap.lt_size e)) (Heap.get?_push_of_some _ e)
 have fH3: ∀ b∈fp,H3 b=none:=fun b hb=>by
  rw [<- hH3,al (Nat.ne_of_lt (hf2 b hb))]
  exact (f2 b hb).1
 have hclos: ∀ y c,(dD X.env.cells scope.names).lookup y=some c->X.env.cells.lookup y=some c:=fun y c e=>dj e
 have hcell3: ∀ y c,X.env.cells.lookup y=some c->c<h3.objs.size:=fun y c e=>by
  obtain ⟨v,o,ho,_⟩:=I3.cell y c e
  exact Heap.lt_size ho
 have hlt3:X.env.locals<h3.objs.size:=I3.lt
 have Yok:(bt X x ys scope h3.objs.size {s2 with heap:=h3} H3 fp).Ok:={
  mod:=I.ok.mod
  kind:=ok.kind
  glob:=I.ok.glob
  blt:=I.ok.blt
  above:=Nat.le_refl _
  inj:=fun y z c e1 e2=>I.ok.inj y z c (hclos _ _ e1) (hclos _ _ e2)
  has:=fun y hk=>by
   have hfr:(y,NameKind.free)∈scope.names:=by
    have hm: ∃ k,(bu X.env.scope scope).lookup y=some k/\(k=.cell\/k=.free):=by
     rcases hk with hk | hk
     ·exact ⟨_,hk,.inl rfl⟩
     ·exact ⟨_,hk,.inr rfl⟩
    obtain ⟨k,hk,hkk⟩:=hm
    have hmem:=mem_of_lookup hk
    unfold bu at hmem
    obtain ⟨⟨n,k0⟩,hn,en⟩:=List.mem_map.mp hmem
    dsimp only at en
    split at en
    ·rename_i hc
     simp only [Bool.and_eq_true]at hc
     have hk0:k0=.free:=by simpa using hc.1.1
     cases en
     rw [<- hk0]
     exact hn
    ·cases en
     rcases hkk with e | e
     ·exact absurd e (ok.nocell _ hn)
     ·rw [<- e]
      exact hn
   obtain ⟨c,hc⟩:=hfree _ hfr rfl
   exact ⟨c,cV hc hfr⟩
  cab:=fun y c hf _=>by cases hf
  hd:=I.ok.hd
  frames:=I.ok.frames
  stk:=.inl rfl
  exf:=fun b hb=>⟨fun e=>absurd (hf2 b hb) (by rw [e];exact Nat.not_lt.mpr (Nat.le_of_lt hps)),fun y c e=>(f2 b hb).2.2.2.2.1 y c (hclos _ _ e)⟩
  bs:=fun b o e=>⟨(I3.bs b o e).1,(I3.bs b o e).2⟩
  bsz:=Nat.le_trans I.ok.bsz I3.sz
  noex:=fun b o e hb=>by
   rcases (f2 b hb).2.2.2.1 with q | q
   ·exact I.ok.noex b o e q
   ·have h1:b<X.base.objs.size:=Heap.lt_size e
    exact absurd h1 (Nat.not_lt.mpr (Nat.le_trans I.ok.bsz q))
  exfs:=fun b hb hm=>by
   rcases List.mem_cons.mp (I3.stkSub b hm)with q | q
   ·exact (f2 b hb).2.1 q
   ·exact (f2 b hb).2.2.1 q
  funs:=I3.stack
  frf:=I3.stkFree}
 have IY:Inv (bt X x ys scope h3.objs.size {s2 with heap:=h3} H3 fp) [] (none::cf fr σ) H3 {s2 with heap:=h₁,toks:=s2.toks+ ([]:List (Str×Value)).length}:={
  ok:=Yok
  os:=rfl
  bare:=I2.bare
  base:=Un.kept hold
  loc:=by
   refine ⟨_,hns₁,fun i y v hy hv hvis=>?_⟩
   cases i with
   | zero=>cases hv
   | succ j=>
    have hy':ys[j]? =some y:=hy
    have hv':(cf fr σ)[j]? =some (some v):=hv
    unfold cf at hv'
    rw [List.getElem?_map]at hv'
    obtain ⟨i0,hi0,hv0⟩:=Option.map_eq_some_iff.mp hv'
    have hz:(y,i0)∈ys.zip fr:=by
     refine List.mem_iff_getElem?.mpr ⟨j,?_⟩
     rw [List.getElem?_zip_eq_some]
     exact ⟨hy',hi0⟩
    obtain ⟨hn,hk,hk2⟩:=ok.sl _ hz
    have hσ:σ[i0]? =some (some v):=by
     cases e:σ[i0]? with
     | none=>rw [e]at hv0;cases hv0
     | some o=>
      rw [e]at hv0
      rw [show o=some v from hv0]
    obtain ⟨m,hm,hl⟩:=I3.loc
    obtain ⟨u,ru,lk⟩:=hl i0 y v hn hσ (.inr (.inl hk))
    refine ⟨u,ru,.inr ⟨.inl hk2,?_⟩⟩
    rcases lk with ⟨a,_⟩ | ⟨_,c,hc,hcell⟩
    ·have a':X.env.scope.names.lookup y=some .local:=a
     have hk':X.env.scope.names.lookup y=some .cell:=hk
     rw [hk']at a'
     cases a'
    ·have hfr:(y,NameKind.free)∈scope.names:=by
      have hmem:=mem_of_lookup hk2
      unfold bu at hmem
      obtain ⟨⟨n,k0⟩,hn0,en⟩:=List.mem_map.mp hmem
      dsimp only at en
      split at en
      ·rename_i hc0
       simp only [Bool.and_eq_true]at hc0
       have hk0:k0=.free:=by simpa using hc0.1.1
       cases en
       rw [<- hk0]
       exact hn0
      ·cases en
       exact absurd rfl (ok.nocell _ hn0)
     exact ⟨c,cV hc hfr,hcell.keeps hold⟩
  cell:=fun y c e=>by
   obtain ⟨v,hv⟩:=I3.cell y c (hclos _ _ e)
   exact ⟨v,hv.keeps hold⟩
  free:=I3.fresh
  freeC:=fun y c e=>I3.freeC y c (hclos _ _ e)
  pin:=fun q hq=>by cases hq
  hok:=I3.hok.kept hold
  len:=by
   show (none::cf fr σ).length=(x::ys).length
   rw [List.length_cons,List.length_cons,ok.len]
   unfold cf
   rw [List.length_map]}
 have hxl:(bt X x ys scope h3.objs.size {s2 with heap:=h3} H3 fp).env.scope.names.lookup x=some .local:=ok.xl
 have pgx:PG (bt X x ys scope h3.objs.size {s2 with heap:=h3} H3 fp) (.Name x px) (eW 0):=aS (i:=0) ok.nd rfl (.inl hxl) (.inr hxl)
 have pel:=hE h3.objs.size {s2 with heap:=h3} H3 fp
 obtain ⟨W,⟨m0,w0⟩,turn⟩:=W0
 have stat: ∀ {H':Hp},(∀ b∈fp,H' b=none)-> ∀ b∈fp,iN (bt X x ys scope h3.objs.size {s2 with heap:=h3} H3 fp) [] H' b:=fun hn b hb=>
  ⟨hn b hb,(Yok.exf b hb).1,Yok.exfs b hb,.inl hb,(Yok.exf b hb).2,fun q hq=>by cases hq⟩
 have loop:codeAny (model X.prog X.w) X.A (.compLoop (.ListComp elt [⟨.Name x px,iter,[],0⟩] scope pos) 0 (.ref it) (.ref p) (compEnvC scope (dD X.env.cells scope.names) h3.objs.size X.env))
   (compPost (model X.prog X.w) X.A X.xe use Qv (.ref p) h3.objs.size) {s2 with heap:=h₁,toks:=s2.toks+ ([]:List (Str×Value)).length}:=by
  refine fV (fun n s'=> ∃ i zs v0 H',Inv (bt X x ys scope h3.objs.size {s2 with heap:=h3} H3 fp) [] (v0::cf fr σ) H' s'/\tn i s'.heap/\(∀ b∈fp,H' b=none)/\W i n zs H') ?_ m0
   ⟨0,[],none,H3,IY,T.keep _ _ _ st3 fun b hb o e=>hold b o e,fH3,w0⟩
  rintro n s5 ⟨i,zs,v0,H5,I5,st5,fr5,w5⟩
  obtain ⟨hacc,turn5⟩:=turn i n zs H5 w5
  rcases turn5 with ⟨stop,qn⟩ | ⟨go,hlen,step⟩
  ·refine thn (T.done (bt X x ys scope h3.objs.size {s2 with heap:=h3} H3 fp) rfl rfl rfl hcalm i [] s5 _ H5 _ I5 (stat fr5) st5 stop) fun r s6 ⟨hr,I6⟩=>?_
   subst hr
   obtain ⟨m6,n6,_⟩:=I6.loc
   refine fin p h3.objs.size H5 s6 m6 (I3.call' I6.os I6.base I6.hok I6.bare fun b hb=>⟨(f2 b hb).2.2.2.1,(f2 b hb).2.1,(f2 b hb).2.2.2.2.1,(f2 b hb).2.2.2.2.2⟩) n6 I6.free (Nat.ne_of_gt hlt3) I3.sz (fun y c e=>Nat.ne_of_lt (hcell3 y c e)) (fun q hq=>?_) qn
   exact Nat.ne_of_lt (Heap.lt_size (I3.pin q hq).1)
  ·refine thn (T.item (bt X x ys scope h3.objs.size {s2 with heap:=h3} H3 fp) rfl rfl rfl hcalm i [] s5 _ H5 _ I5 (stat fr5) st5 go) fun r s6 ⟨u,hr,h6⟩=>?_
   subst hr
   refine thn h6 fun _ s7 ⟨xv,H7,I7,r7,y7,st7,fr7⟩=>?_
   have I7':=I7.pinned (stat fr7) (T.obj _ _ st7)
   refine thn (pgx _ s7 _ H7 xv u (fun σ' H'=>σ'=some xv::cf fr σ/\H'=H7) I7' r7 ⟨rfl,rfl⟩) fun _ s8 ⟨σ8,H8,I8,e8,e8'⟩=>?_
   subst e8 e8'
   refine thn (pel _ s8 _ H8 _ I8 (step xv H8 y7)) fun yv s9 ⟨v9,H9,I9,r9,hp9,m',hm',w9⟩=>?_
   refine thn (bK _ s9 _ H9 (.ref p) [v9] (.ref p) [yv] (fun _ H'=>H'=upd H9 p (.lst (zs++[v9]))) I9 rfl (.cons r9 .nil) ⟨p,zs,v9,rfl,rfl,hp9,hlen,rfl⟩) fun _ s10 ⟨_,H10,I10,_,e10⟩=>?_
   subst e10
   refine ⟨m',hm',i+1,zs++[v9],some xv,_,I10.unpinned,T.keep _ _ _ st7 fun b hb o e=>(I10.pin (b,o) (List.mem_append_right _ (List.mem_append_right _ (br hb e)))).1,fun b hb=>?_,w9⟩
   obtain ⟨o,e,d⟩:=T.obj _ _ st7 b hb
   exact (I10.pin (b,o) (List.mem_append_right _ (List.mem_append_right _ (br hb e)))).2.1
 exact codeAny_compStart_list loop (T.self X.A 0 _ _ _ (T.keep _ _ _ st3 fun b hb o e=>hold b o e) loop)
theorem cW (hcalm:X.calm=true) (hi:PI X (.Name x px) iter wi) (hsc:X.env.scope=sc0) (hN:X.N=N0) (ok:gw sc0 N0 scope x ys fr)
  (hE: ∀ C s H ex,PE (bt X x ys scope C s H ex) elt te) (hs: ∀ v,foldedSetIterable iter X.env v=pure v:=by intro _;rfl):
  PE X (.ListComp elt [⟨.Name x px,iter,[],0⟩] scope pos) (rZ wi fr te):=by
 intro pins s σ H Q I h
 rw [eval_ListComp]
 refine kw (use:=none) (Qv:=EP X pins σ Q) (Q:=Q) hcalm hi hsc hN ok hE I h hs fun p C H' s' m I' hn h0 h1 h2 h3 h4 q=>?_
 refine ⟨m,hn,fun h' sb=>⟨.ref p,H',I'.turned (t':=s'.toks) (fun b o hb e=>sb.extBut b o hb e) h0 (Ne.symm (Ne.symm h1)) (.inr h2) h3 h4,rfl,q⟩⟩
theorem eI {i:Nat} {y:Str} {py spos:Pos} (hcalm:X.calm=true) (hnd:X.N.Nodup) (hiN:X.N[i]? =some y) (hy:Loc X.env.scope y) (hi:PI X (.Name x px) iter wi) (hsc:X.env.scope=sc0) (hN:X.N=N0) (ok:gw sc0 N0 scope x ys fr)
  (hE: ∀ C s H ex,PE (bt X x ys scope C s H ex) elt te) (hsw:swapsWith (.ListComp elt [⟨.Name x px,iter,[],0⟩] scope pos) (some (.Name y py)) spos.line X.env=pure true:=by rfl)
  (hs: ∀ v,foldedSetIterable iter X.env v=pure v:=by intro _;rfl) (hf:X.fn y=true\/X.env.scope.names.lookup y=some .local:=by first | exact .inl rfl | exact .inr rfl | assumption):
  PS X (.Assign [.Name y py] (.ListComp elt [⟨.Name x px,iter,[],0⟩] scope pos) spos) (ml (rZ wi fr te) (eW i)):=by
 intro pins s σ H D I h
 rw [exec_Assign_Name_used _ _ _ _ hsw]
 refine wpAny_bind (wpAny_standAt (wpAny_bind ?_))
 show wpAny _ X.A (do let _ <- comprehension (.ListComp elt [⟨.Name x px,iter,[],0⟩] scope pos) scope X.env _ (newList []) false (eval iter X.env) (some (assign (.Name y py) X.env))) _ _ s
 refine wpAny_bind (thn (kw (use:=some (assign (.Name y py) X.env)) (Qv:=fun _ s'=>SP X pins D .next s') (Q:=fun v H'=>D.nx (σ.set i (some v)) H') hcalm hi hsc hN ok hE I h hs fun p C H' s' m I' hn h0 h1 h2 h3 h4 q=>?_) fun _ s' hq=>wpAny_pure (wpAny_pure hq))
 show wpAny _ X.A (assign (.Name y py) X.env (.ref p)) _ _ s'
 refine wpAny_assign_Name (fE (v:=.ref p) I' hnd hiN hy rfl (fun s'' I'' ⟨a,sb,ha⟩=>?_) hf)
 have hCa:C≠a:=by
  rcases ha with e | e
  ·rw [e];exact h1
  ·exact (h3 y a e).symm
 refine ⟨m,hn.sameBut sb hCa,fun h' sb'=>⟨_,H',I''.turned (t':=s''.toks) (fun b o hb e=>sb'.extBut b o hb e) h0 h1 (.inr h2) h3 h4,q⟩⟩
theorem fM {n:Nat} {J:It} {H1:Hp} {Q:VK} {R:Nat->V->Prop} (hn:n<=1000) (hgo: ∀ i H,i<n->J.go i H) (hstop: ∀ H,J.stop n H) (hy: ∀ i H v H',J.yld i H v H'->H'=H/\R i v)
  (Pv:Addr->Nat->List V->Hp->Prop) (h0: ∀ p,H1 p=none->Pv p 0 [] (upd H1 p (.lst []))) (hl: ∀ p i zs H,Pv p i zs H->H p=some (.lst zs)/\zs.length=i)
  (hs: ∀ p i zs H v (k:VK),H1 p=none->i<n->R i v->Pv p i zs H->(∀ u H2,H2 p=some (.lst zs)->Pv p (i+1) (zs++[u]) (upd H2 p (.lst (zs++[u])))->k u H2)->te (some v::cf fr σ) H k)
  (hd: ∀ p zs H,H1 p=none->Pv p n zs H->Q (.ref p) H):dN fr te σ J H1 Q:=by
 intro p hp
 refine ⟨fun i m zs H=>i<=n/\m=n-i/\Pv p i zs H,⟨n,Nat.zero_le _,by simp,h0 p hp⟩,?_⟩
 rintro i m zs H ⟨hi,hm,q⟩
 obtain ⟨hp',hz⟩:=hl p i zs H q
 refine ⟨hp',?_⟩
 by_cases e:i=n
 ·subst e
  exact .inl ⟨hstop H,hd p zs H hp q⟩
 ·have hlt:i<n:=by lia
  refine .inr ⟨hgo i H hlt,av (by lia),fun v H' hv=>?_⟩
  obtain ⟨rfl,r⟩:=hy i H v H' hv
  refine hs p i zs H' v _ hp hlt r q fun u H2 a b=>?_
  exact ⟨a,n- (i+1),by lia,by lia,rfl,b⟩
theorem jv {lo:Int} {n:Nat}: ∀ i H,i<n->(Itr lo n).go i H:=fun _ _ h=>h
theorem fC {lo:Int} {n:Nat}: ∀ H,(Itr lo n).stop n H:=fun _=>Nat.le_refl n
theorem iS {lo:Int} {n:Nat}: ∀ i H v H',(Itr lo n).yld i H v H'->H'=H/\v=.int (lo+i):=fun _ _ _ _ h=>h
end
noncomputable def pM:Expr->Bool
 | .Starred _ _=>false
 | _=>true
theorem jN {e:Expr} {es:List Expr} {env:Env} (h:pM e=true):starEach (e::es) env=(false,eval e env)::starEach es env:=by
 cases e <;> first | rfl | cases h
theorem pac {X:Cx} {e:Expr} {es:List Expr} {te:TE} {t:TA} (ha:PE X e te) (hr:PA X es t) (h:pM e=true:=by rfl):PA X (e::es) (mj te t):=aa ha hr (jN h)
noncomputable def oQ:Const->Option V
 | .str x=>some (.str x)
 | .int i=>some (.int i)
 | .bool b=>some (.bl b)
 | .none=>some .non
 | _=>none
noncomputable def h9:List Expr->Option (List V)
 | []=>some []
 | .Constant c _ _::r=>(match oQ c,h9 r with | some v,some vs=>some (v::vs) | _,_=>none)
 | _::_=>none
theorem sV {X:Cx} {c:Const} {j:Nat} {pos:Pos} {v:V} (h:oQ c=some v):PE X (.Constant c j pos) (tC v):=by
 cases c with
 | str x=>cases h;exact aN
 | int i=>cases h;exact ae
 | bool b=>cases h;exact j8
 | none=>cases h;exact bA
 | _=>cases h
theorem ka {X:Cx}: ∀ {es:List Expr} {vs:List V},h9 es=some vs->PA X es (fun _ H Q=>Q vs H)
 | [],vs,h=>by
  cases h
  exact ad
 | e::r,vs,h=>by
  cases e with
  | Constant c j pos=>
   simp only [h9]at h
   cases hc:oQ c with
   | none=>rw [hc]at h;cases h
   | some v=>
    cases hr:h9 r with
    | none=>rw [hc,hr]at h;cases h
    | some ws=>
     rw [hc,hr]at h
     cases h
     exact pac (sV hc) (ka hr)
  | _=>cases h
theorem uW {X:Cx} {i:Nat} {x:Str} {es:List Expr} {vs:List V} {pos p pos':Pos} (hN:X.N.Nodup) (hi:X.N[i]? =some x) (hx:Loc X.env.scope x) (hf:X.fn x=true\/X.env.scope.names.lookup x=some .local) (h:h9 es=some vs):
  PS X (.Assign [.Name x pos'] (.List es p) pos) (ml (xr (fun _ H Q=>Q vs H)) (eW i)):=
 aq hN hi hx (bh (ka h)) rfl hf
end L2
namespace HT
open PySem PyProof.Rows
section
variable {prog:Program} {w:World} {A:Around} {s:Shared} {E:Value->Shared->Prop}
theorem nF (n:Nat):Builtin.Slice.sliceAdjust none none (-1) (n:Int)=((n:Int) -1,-1):=by
 unfold Builtin.Slice.sliceAdjust
 simp
theorem my (n:Nat):Builtin.Slice.slicePlaces ((n:Int) -1) (-1) (-1)=n:=by
 unfold Builtin.Slice.slicePlaces
 have h1: ¬ ((-1:Int) >0):=by lia
 simp only [h1,if_false]
 rw [show (- -1:Int)=1 by decide,Int.ediv_one]
 split <;> lia
theorem lY {sl:Addr} {t:Tok} {n:Nat} {Q:Int×Int×Nat->Shared->Prop} (hs:s.heap.IsSliceOf sl .none .none (.int (-1) t)) (h:Q ((n:Int) -1,-1,n) s):
  wpAny (model prog w) A (Builtin.Slice.sliceApplied (.ref sl) (pure (n:Int))) Q E s:=by
 obtain ⟨os,hos,hcs,hds⟩:=id hs
 unfold Builtin.Slice.sliceApplied Builtin.Slice.sliceFields
 refine wpAny_bind (wpAny_bind (wpAny_field hos hds (x:=.none) rfl (wpAny_bind (wpAny_field hos hds (x:=.none) rfl (wpAny_bind (wpAny_field hos hds (x:=.int (-1) t) rfl (wpAny_pure ?_)))))))
 refine wpAny_bind (dq (.int (-1) t) ?_)
 show wpAny _ _ (if ((-1:Int)==0)=true then _ else _) _ _ s
 rw [if_neg (by decide)]
 refine wpAny_bind (dq .none (wpAny_bind (dq .none (wpAny_bind (wpAny_pure ?_)))))
 show wpAny _ _ (match Builtin.Slice.sliceAdjust none none (-1) (n:Int)with | (lo,hi)=>pure (lo,(-1:Int),Builtin.Slice.slicePlaces lo hi (-1))) _ _ s
 rw [nF n]
 show wpAny _ _ (pure ((n:Int) -1,(-1:Int),Builtin.Slice.slicePlaces ((n:Int) -1) (-1) (-1))) _ _ s
 rw [my]
 exact wpAny_pure h
theorem ny {α β:Type} {f g:α->Option β}: ∀ {l:List α},(∀ x∈l,f x=g x)->l.filterMap f=l.filterMap g
 | [],_=>rfl
 | x::r,h=>by rw [List.filterMap_cons,List.filterMap_cons,h x List.mem_cons_self,ny fun y hy=>h y (List.mem_cons_of_mem _ hy)]
theorem qG (xs:Array Value):((List.range xs.size).filterMap fun (m:Nat)=>xs[((xs.size:Int) -1+ (m:Int) * -1).toNat]?).toArray=xs.toList.reverse.toArray:=by
 congr 1
 rw [<- L2.rev_pick xs.toList,List.filterMap_map,Array.length_toList]
 refine ny fun m hm=>?_
 have:=List.mem_range.mp hm
 have e:((xs.size:Int) -1+ (m:Int) * -1).toNat=xs.size-1-m:=by lia
 rw [e]
 simp
theorem getItem_tuple_back {a sl:Addr} {items:Array Value} {t:Tok} {Q:Value->Shared->Prop} (ht:IsTup s.heap a items) (hs:s.heap.IsSliceOf sl .none .none (.int (-1) t))
  (h:Q (.ref s.heap.objs.size) {s with heap:=s.heap.push {cls:=.type "tuple",data:=.seq items.toList.reverse.toArray}})
  (hsz:items.size<=sizeLine):wpAny (model prog w) A (getItem (.ref a) (.ref sl)) Q E s:=by
 have hok:sizeOk (.seq items.toList.reverse.toArray):=by
  show items.toList.reverse.toArray.size<=sizeLine
  rw [List.size_toArray,List.length_reverse,Array.length_toList]
  exact hsz
 obtain ⟨os,hos,hcs,hds⟩:=id hs
 have hTs:s.TypeIs (.ref sl) "slice":=⟨os,hos,hcs⟩
 unfold getItem
 try with_reducible refine wpAny_holding ?_
 first | refine wpAny_bind (wpAny_pure ?_) | skip
 refine wpAny_bind (wpAny_sequenceKey ht.typeIs (by decide) ?_)
 refine wpAny_bind (wpAny_callSpecial?_slot (name:=Str.ofString "__getitem__") ht.typeIs PyProof.Rows.slot_tuple_getitem
  (wpAny_call_entry PyProof.Rows.slot_tuple_getitem ht.typeIs entry_tuple_getitem ?_ (args_tuple_getitem _ _)))
 show wpAny _ _ (Builtin.Tuple.tupleItemsOf (.ref a) >>= _) _ _ s
 refine wpAny_bind (tupleItemsOf_ ht ?_)
 refine wpAny_bind (wpAny_typeOf hTs ?_)
 rw [if_pos (by decide)]
 refine wpAny_bind (lY hs ?_)
 show wpAny _ _ (if (((items.size:Int) -1)==0&&(-1:Int)==1&&items.size==items.size)=true then _ else _) _ _ s
 rw [if_neg (by simp),qG]
 first
  | exact wpAny_bind (m:=Builtin.Tuple.tupleExact _) (wpAny_newObj_type (wpAny_pure ⟨_,rfl,wpAny_pure h⟩) hok)
  | exact wpAny_bind (m:=Builtin.Tuple.tupleExact _) (wpAny_newObj_type (wpAny_bind (wpAny_pure (wpAny_pure ⟨_,rfl,wpAny_pure h⟩))) hok)
  | exact wpAny_bind (wpAny_bind (m:=Builtin.Tuple.tupleExact _) (wpAny_newObj_type (wpAny_pure (wpAny_pure ⟨_,rfl,wpAny_pure h⟩)) hok))
  | exact wpAny_bind (wpAny_bind (m:=Builtin.Tuple.tupleExact _) (wpAny_newObj_type (wpAny_pure ⟨_,rfl,wpAny_pure h⟩) hok))
end
end HT
namespace L2
open PySem PySem.Spec PyProof.Rows
section
variable {X:Cx} {e k:Expr} {te tk:TE} {pos p2:Pos}
noncomputable def wg (K:PySem.W.Frag) (te tk:TE):TE:=fun σ H Q=>te σ H fun x H1=>tk σ H1 fun y H2=> ∃ a xs,x=.ref a/\y=.int (-1)/\SqT K H2 a xs/\ ∀ p,H2 p=none->Q (.ref p) (upd H2 p (.tup xs.reverse))
theorem rO {xs:List V} {us:List Value} (h:Vals xs us):Vals xs.reverse us.reverse:=by
 rw [<- rev_pick xs,<- rev_pick us,h.length]
 exact dU _ h
theorem sZ (he:PE X e te) (hk:PE X k tk):PE X (.Subscript e (.Slice none none (some k) p2) pos) (wg X.K te tk):=by
 intro pins s σ H Q I h
 refine Subscript_ (thn (he pins s σ H _ I h) fun v s1 ⟨x,H1,I1,r1,q1⟩=>?_)
 refine wpAny_Slice ?_
 rw [evalPart_none,evalPart_some]
 refine wpAny_pure (wpAny_pure ?_)
 refine thn (hk pins s1 σ H1 _ I1 q1) fun vk s3 ⟨y,H3,I3,ry,a,xs,ex,ey,hq,q⟩=>?_
 subst ex ey
 obtain ⟨t,rfl⟩:=ry
 cases r1
 have I4:Inv X pins σ H3 {s3 with heap:=s3.heap.push {cls:=.type "slice",data:=.fields #[.none,.none,.int (-1) t]}}:=I3.kept (t':=s3.toks) fun b ob q=>Heap.get?_push_of_some _ q
 obtain ⟨its,r,ht,hz⟩:=I4.tuple hq
 show wpAny (model X.prog X.w) X.A (subscriptTail e (.Slice none none (some k) p2) (.ref a) (.ref s3.heap.objs.size)) (EP X pins σ Q) X.xe {s3 with heap:=s3.heap.push {cls:=.type "slice",data:=.fields #[.none,.none,.int (-1) t]}}
 refine tail_any (ops:=[.ref a,.ref s3.heap.objs.size]) ht.typeIs PyProof.Rows.slot_tuple_getitem.lookup (HT.getItem_tuple_back ht (Heap.IsSliceOf.new ..) ?_ (by rw [List.size_toArray,<- r.length];exact hz)) (by with_unfolding_all rfl)
 refine ⟨.ref (s3.heap.push {cls:=.type "slice",data:=.fields #[.none,.none,.int (-1) t]}).objs.size,_,I4.laid (t':=s3.toks) (o:=.tup xs.reverse) (fun b ob q=>Heap.get?_push_of_some _ q) (Nat.le_refl _) ?_,rfl,q _ I4.fresh⟩
 exact ⟨by rw [List.length_reverse];exact hz,_,rO r,IsTup.new _ _⟩
end
section
variable {X:Cx}
noncomputable def iL:List Int->Int
 | []=>0
 | n::r=>n+iL r
theorem qD (ns:List Int): ∀ k,k<=ns.length->preSum (fun i=>(ns[i]?).getD 0) k=iL (ns.take k):=by
 intro k
 induction k with
 | zero=>intro _;rfl
 | succ k ih=>
  intro h
  have hk:k<ns.length:=h
  show preSum (fun i=>(ns[i]?).getD 0) k+ (ns[k]?).getD 0=iL (ns.take (k+1))
  rw [ih (Nat.le_of_lt hk)]
  have: ∀ (l:List Int) (j:Nat) (hj:j<l.length),iL (l.take (j+1))=iL (l.take j) + (l[j]?).getD 0:=by
   intro l
   induction l with
   | nil=>intro j hj;cases hj
   | cons x r ih=>
    intro j hj
    cases j with
    | zero=>simp [iL]
    | succ j=>
     rw [List.take_succ_cons,List.take_succ_cons,List.getElem?_cons_succ]
     show x+iL (r.take (j+1))=x+iL (r.take j) + (r[j]?).getD 0
     rw [ih j (by simpa using hj)]
     lia
  exact (this ns k hk).symm
theorem lL (ns:List Int) (h: ∀ n∈ns,0<=n/\n<=1000000): ∀ k,k<=ns.length->0<=preSum (fun i=>(ns[i]?).getD 0) k/\preSum (fun i=>(ns[i]?).getD 0) k<=1000000*k:=by
 intro k
 induction k with
 | zero=>intro _;exact ⟨Int.le_refl _,by show (0:Int)<=1000000* ((0:Nat):Int);lia⟩
 | succ k ih=>
  intro hk
  obtain ⟨a,b⟩:=ih (Nat.le_of_succ_le hk)
  have e:ns[k]? =some ns[k]:=List.getElem?_eq_getElem hk
  obtain ⟨c,d⟩:=h ns[k] (List.getElem_mem hk)
  show 0<=preSum (fun i=>(ns[i]?).getD 0) k+ (ns[k]?).getD 0/\preSum (fun i=>(ns[i]?).getD 0) k+ (ns[k]?).getD 0<=1000000* ((k+1:Nat):Int)
  rw [e,Option.getD_some]
  constructor <;> lia
theorem jJ (hc:X.calm=true):dE X (.builtin "sum") (fun xs H Q=> ∃ (p:Addr) (ns:List Int),xs=[.ref p]/\SqL X.K H p (ns.map V.int)/\ns.length<=1000/\(∀ n∈ns,0<=n/\n<=1000000)/\Q (.int (iL ns)) H):=by
 intro pins s σ H xs us Q I r h
 obtain ⟨p,ns,rfl,hq,hle,hb,q⟩:=h
 obtain ⟨u,rfl,ru⟩:=iD r
 cases ru
 obtain ⟨its,rv,pl,hz⟩:=I.list hq
 have hl:=pl.isList
 have hlt:p<s.heap.objs.size:=by obtain ⟨_,e,_⟩:=hl;exact Heap.lt_size e
 have hlen:its.length=ns.length:=by have:=rv.length;rw [List.length_map]at this;lia
 have hn:its.toArray.size=ns.length:=by rw [List.size_toArray];exact hlen
 refine call_sum_walk (wpAny_pyIter_list hl ?_)
 refine ⟨s.heap.objs.size,[s.heap.objs.size,p],[s.heap.objs.size],its.toArray.size,_,_,fun i=>(ns[i]?).getD 0,rfl,Walks.list (A:=X.A.in1) (I.ok.hd hc) _ p (Nat.ne_of_lt hlt) its.toArray,
  ⟨⟨_,Heap.get?_push_size _ rfl,rfl,rfl⟩,hl.push _⟩,fun b hb=>?_,fun i v hP=>?_,fun j hj=>?_,fun h' tk t' hk=>?_⟩
 ·rw [Heap.size_push]
  rcases List.mem_cons.mp hb with e | e
  ·rw [e];exact Nat.lt_succ_self _
  ·rw [List.mem_singleton.mp e];exact Nat.lt_succ_of_lt hlt
 ·have hv:its[i]? =some v:=by simpa using hP
  have hi:i<ns.length:=by
   have:=(List.getElem?_eq_some_iff.mp hv).1
   lia
  have hx:(ns.map V.int)[i]? =some (V.int ns[i]):=by rw [List.getElem?_map,List.getElem?_eq_getElem hi] <;> rfl
  obtain ⟨u,eu,ru⟩:=rv.get hx
  rw [hv]at eu
  cases eu
  obtain ⟨t,rfl⟩:=ru
  refine ⟨t,?_⟩
  show Value.int ns[i] t=Value.int ((ns[i]?).getD 0) t
  rw [List.getElem?_eq_getElem hi]
  rfl
 ·rw [hn]at hj
  obtain ⟨a,b⟩:=lL ns hb (j+1) hj
  have e:ns[j]? =some ns[j]:=List.getElem?_eq_getElem hj
  obtain ⟨c,d⟩:=hb ns[j] (List.getElem_mem hj)
  refine ⟨⟨?_,?_⟩,?_,?_⟩
  ·show -(2^63)<=(ns[j]?).getD 0
   rw [e,Option.getD_some];lia
  ·show (ns[j]?).getD 0<2^63
   rw [e,Option.getD_some];lia
  ·lia
  ·lia
 ·rw [hn,qD ns _ (Nat.le_refl _),List.take_length]
  refine ⟨.int (iL ns),H,I.kept (t':=tk) fun b x e=>?_,⟨_,rfl⟩,q⟩
  exact hk b x (fun hm=>by rw [List.mem_singleton.mp hm]at e;exact Nat.lt_irrefl _ (Heap.lt_size e)) (Heap.get?_push_of_some _ e)
end
section
variable {X:Cx}
theorem qI (hu:X.A.units<cLine):OpR X (compareOp .NotEq) (fun x y H Q=> ∃ a b xs,x=.ref a/\y=.ref b/\SqL X.K H a xs/\SqL X.K H b []/\Q (.bl (!xs.isEmpty)) H):=by
 intro pins s σ H x y v u Q I rx ry h
 obtain ⟨a,b,xs,rfl,rfl,ha,hb,q⟩:=h
 cases rx
 cases ry
 obtain ⟨its,r,pl,_⟩:=I.list ha
 obtain ⟨its2,r2,pl2,_⟩:=I.list hb
 cases r2
 cases r with
 | nil=>exact SeqAt.RcNeAt.lists (e:=fun _=>true) pl.isList pl2.isList rfl hu (fun j h1 _=>absurd h1 (Nat.not_lt_zero _)) X.prog X.w X.xe _ ⟨.bl _,H,I,rfl,q⟩
 | cons r1 t=>exact SeqAt.RcNeAt.lists_lengths pl.isList pl2.isList (by simp) hu X.prog X.w X.xe _ ⟨.bl _,H,I,rfl,q⟩
instance yP (ks:List Key) (kss:List (List Key)):Decidable (ks∈kss):=decidable_of_iff (kss.any (fun l=>decide (l=ks))=true) ⟨fun h=>by
  obtain ⟨x,hx,e⟩:=List.any_eq_true.mp h
  rw [<- of_decide_eq_true e]
  exact hx,fun h=>List.any_eq_true.mpr ⟨ks,h,decide_eq_true rfl⟩⟩
theorem iR (K:PySem.W.Frag) (t:String) (ht:t∈["NoneType","bool","int","str","list","tuple","dict"]):
  PySem.W.kitAny K (.type t) [.type "tuple",.type "list"]=some (t=="tuple"||t=="list"):=by
 simp only [List.mem_cons,List.not_mem_nil,or_false]at ht
 rcases ht with rfl | rfl | rfl | rfl | rfl | rfl | rfl <;> first | rfl | (with_unfolding_all rfl) | (with_unfolding_all decide)
inductive TL (H:Hp):V->Bool->Prop where
 | str (z:Str):TL H (.str z) false
 | int (i:Int):TL H (.int i) false
 | tup {a:Addr} {xs:List V}:H a=some (.tup xs)->TL H (.ref a) true
 | lst {a:Addr} {xs:List V}:H a=some (.lst xs)->TL H (.ref a) true
theorem rH:dE X (.builtin "isinstance") (fun xs H Q=> ∃ x p b,xs=[x,.ref p]/\H p=some (.tup [.ty "tuple",.ty "list"])/\TL H x b/\Q (.bl b) H):=by
 intro pins s σ H xs us Q I r h
 obtain ⟨x,p,b,rfl,hp,ty,q⟩:=h
 obtain ⟨u,w',rfl,rx,rp⟩:=eY r
 cases (show w'=Value.ref p from rp)
 obtain ⟨_,its,rv,o,h1,h2,n,h3⟩:=(show ObjOk X.prog X.w H s.heap p (.tup [.ty "tuple",.ty "list"])from I.hok p _ hp)
 obtain ⟨u1,u2,rfl,r1,r2⟩:=eY rv
 cases (show u1=Value.type "tuple" from r1)
 cases (show u2=Value.type "list" from r2)
 obtain ⟨c,d,dt,sl⟩:=o
 simp only at h2 h3
 subst h2 h3
 have k: ∀ tk,EP X pins σ Q (.bool b) {s with toks:=tk}:=fun tk=>⟨.bl b,H,I.tok tk,rfl,q⟩
 cases ty with
 | int i=>
  obtain ⟨t,e⟩:=(show ∃ t,u=Value.int i t from rx)
  cases e
  exact PySem.W.kia_tup PySem.W.kitx_int I.kIn True.intro h1 (iR _ "int" (by simp)) (fun z=>nomatch z) k
 | str y=>
  obtain ⟨t,e⟩:=(show ∃ t,u=Value.str y t from rx)
  cases e
  exact PySem.W.kia_tup PySem.W.kitx_str I.kIn True.intro h1 (iR _ "str" (by simp)) (fun z=>nomatch z) k
 | @lst a xs ea=>
  cases (show u=Value.ref a from rx)
  obtain ⟨_,_,_,_,h4⟩:=(show ObjOk X.prog X.w H s.heap a (.lst xs)from I.hok a _ ea)
  exact PySem.W.kia_tup PySem.W.kitx_list I.kIn ⟨_,h4,rfl⟩ h1 (iR _ "list" (by simp)) (fun z=>nomatch z) k
 | @tup a xs ea=>
  cases (show u=Value.ref a from rx)
  obtain ⟨_,_,_,o2,h4,h5,_⟩:=(show ObjOk X.prog X.w H s.heap a (.tup xs)from I.hok a _ ea)
  exact PySem.W.kia_tup PySem.W.kitx_tuple I.kIn ⟨o2,h4,h5⟩ h1 (iR _ "tuple" (by simp)) (fun z=>nomatch z) k
end
end L2
namespace HT
open PySem PyProof.Rows
section
variable {prog:Program} {w:World} {A:Around} {s:Shared} {E:Value->Shared->Prop} {j t:Addr} {i:Nat} {items:Array Value}
theorem uq {x:Value} {Q:Value->Shared->Prop} (st:s.heap.IsTupleIter j t i) (ht:s.heap.IsTuple t items) (hx:items[i]? =some x)
  (q: ∀ h',h'.IsTupleIter j t (i+1)->Heap.SameBut j s.heap h'->Q x {s with heap:=h'}):wpAny (model prog w) A (Builtin.SmallTypes.nextOf (.ref j)) Q E s:=by
 have ty:=st.typeIs
 obtain ⟨o,ho,hc,hd⟩:=id st
 obtain ⟨ol,hol,_,nl,hdl⟩:=ht
 unfold Builtin.SmallTypes.nextOf
 refine wpAny_bind (wpAny_callSpecial?_slot (name:=Str.ofString "__next__") ty PySem.F.slot_tuple_iterator_next (wpAny_call_entry PySem.F.slot_tuple_iterator_next ty PySem.F.entry_tuple_iterator_next ?_ (PySem.F.args_tuple_iterator_next_1 _)))
 refine (show wpAny _ _ (field (.ref j) 0 >>= _) _ _ s from wpAny_bind (wpAny_field ho hd (x:=.ref t) rfl ?_))
 refine (show wpAny _ _ (if (Value.ref t==Value.none)=true then _ else _) _ _ s from ?_)
 rw [if_neg fun b0:(Value.ref t==Value.none)=true=>Bool.false_ne_true b0]
 refine (show wpAny _ _ (field (.ref j) 1 >>= _) _ _ s from wpAny_bind (wpAny_field ho hd (x:=.int i 0) rfl ?_))
 refine (show wpAny _ _ (seqItems? (.ref t) >>= _) _ _ s from wpAny_bind (wpAny_seqItems hol hdl ?_))
 simp only [Int.toNat_natCast,hx]
 refine wpAny_bind (wpAny_setField ho hd (by simp) (wpAny_pure ⟨x,rfl,wpAny_pure (q _ ⟨_,Heap.get?_update_self _ ho (Obj.isFreed_of_fields (Obj.data_mapFields hd _)),(Obj.cls_mapFields ..).trans hc,?_⟩ (Heap.SameBut.update ..))⟩))
 rw [Obj.data_mapFields hd];simp [rawInt]
theorem nz {Q:Value->Shared->Prop} (hh:A.handled=none) (st:s.heap.IsTupleIter j t i) (ht:s.heap.IsTuple t items) (hx:items[i]? =none)
  (q: ∀ h' e,Heap.ExtBut j s.heap h'->(∃ o,h'.get? e=some o/\o.cls=.type "StopIteration")->E (.ref e) {s with heap:=h'}):wpAny (model prog w) A (Builtin.SmallTypes.nextOf (.ref j)) Q E s:=by
 have ty:=st.typeIs
 obtain ⟨o,ho,hc,hd⟩:=id st
 obtain ⟨ol,hol,_,nl,hdl⟩:=ht
 unfold Builtin.SmallTypes.nextOf
 refine wpAny_bind (wpAny_callSpecial?_slot (name:=Str.ofString "__next__") ty PySem.F.slot_tuple_iterator_next (wpAny_call_entry PySem.F.slot_tuple_iterator_next ty PySem.F.entry_tuple_iterator_next ?_ (PySem.F.args_tuple_iterator_next_1 _)))
 refine (show wpAny _ _ (field (.ref j) 0 >>= _) _ _ s from wpAny_bind (wpAny_field ho hd (x:=.ref t) rfl ?_))
 refine (show wpAny _ _ (if (Value.ref t==Value.none)=true then _ else _) _ _ s from ?_)
 rw [if_neg fun b0:(Value.ref t==Value.none)=true=>Bool.false_ne_true b0]
 refine (show wpAny _ _ (field (.ref j) 1 >>= _) _ _ s from wpAny_bind (wpAny_field ho hd (x:=.int i 0) rfl ?_))
 refine (show wpAny _ _ (seqItems? (.ref t) >>= _) _ _ s from wpAny_bind (wpAny_seqItems hol hdl ?_))
 simp only [Int.toNat_natCast,hx]
 refine wpAny_bind (wpAny_rule (wpAny_bind (wpAny_setField ho hd (by simp) (show wpAny _ _ (newExc (.type "StopIteration") [] >>= _) _ _ _ from wpAny_bind ?_))))
 simp only [newExc,newTuple]
 refine wpAny_bind (wpAny_newObj_type (wpAny_bind (m:=firstArgMember _ _) (wpAny_of_eq (a:=Value.none) (by first | rfl | (simp only [firstArgMember];rfl)) (wpAny_newObj_type ?_ (by size_fits)))) (by size_fits))
 simp only [raiseNew]
 refine wpAny_bind (wpAny_handled ?_)
 rw [show A.in1.handled=none from hh]
 exact wpAny_bind (wpAny_pure (wpAny_throw (q _ _ (((Heap.SameBut.update ..).extBut.push _).push _) ⟨_,Heap.get?_push_size _ rfl,rfl⟩)))
noncomputable def SIter (c:Bool) (h:Heap) (j l:Addr) (i:Nat):Prop:=if c=true then h.IsTupleIter j l i else h.IsListIter j l i
noncomputable def SSeq (c:Bool) (h:Heap) (l:Addr) (items:Array Value):Prop:=if c=true then h.IsTuple l items else h.IsList l items
theorem SIter.obj {c:Bool} {h:Heap} {l:Addr} (x:SIter c h j l i): ∃ o,h.get? j=some o/\ ∀ v,o.data≠ .cell v:=by
 cases c with
 | true=>obtain ⟨o,e,_,d⟩:=(show h.IsTupleIter j l i from x);exact ⟨o,e,fun v z=>by rw [d]at z;cases z⟩
 | false=>obtain ⟨o,e,_,d⟩:=(show h.IsListIter j l i from x);exact ⟨o,e,fun v z=>by rw [d]at z;cases z⟩
theorem SIter.at {c:Bool} {h h':Heap} {l:Addr} (x:SIter c h j l i) (k: ∀ o,h.get? j=some o->h'.get? j=some o):SIter c h' j l i:=by
 cases c with
 | true=>obtain ⟨o,e,r⟩:=(show h.IsTupleIter j l i from x);exact (show h'.IsTupleIter j l i from ⟨o,k o e,r⟩)
 | false=>obtain ⟨o,e,r⟩:=(show h.IsListIter j l i from x);exact (show h'.IsListIter j l i from ⟨o,k o e,r⟩)
theorem SSeq.at {c:Bool} {h h':Heap} {l:Addr} (x:SSeq c h l items) (k: ∀ o,h.get? l=some o->h'.get? l=some o):SSeq c h' l items:=by
 cases c with
 | true=>obtain ⟨o,e,r⟩:=(show h.IsTuple l items from x);exact (show h'.IsTuple l items from ⟨o,k o e,r⟩)
 | false=>obtain ⟨o,e,r⟩:=(show h.IsList l items from x);exact (show h'.IsList l items from ⟨o,k o e,r⟩)
theorem draws_seq (c:Bool) (hh:A.handled=none) (j l:Addr) (hne:l≠j) (items:Array Value):
  Draws prog w A j [j,l] items.size (fun i v=>items[i]? =some v) (fun i h=>SIter c h j l i/\SSeq c h l items) where
 live:=fun _ _ st=>let ⟨o,e,_⟩:=st.1.obj;⟨o,e⟩
 frame:=fun _ _ _ st k=>⟨st.1.at fun o e=>k j (by simp) o e,st.2.at fun o e=>k l (by simp) o e⟩
 item:=fun i s Q E hi st hQ=>by
  have hx:items[i]? =some items[i]:=Array.getElem?_eq_getElem hi
  cases c with
  | true=>exact uq st.1 st.2 hx fun h' st' sb=>hQ _ h' s.toks hx ⟨st',st.2.at fun o e=>sb.extBut l o hne e⟩ sb
  | false=>exact wpAny_nextOf_list_item st.1 st.2 hx fun h' st' sb=>hQ _ h' s.toks hx ⟨st',st.2.at fun o e=>sb.extBut l o hne e⟩ sb
 done:=fun s Q E st hE=>by
  cases c with
  | true=>exact nz hh st.1 st.2 (by simp) hE
  | false=>exact wpAny_nextOf_list_end hh st.1 st.2 (by simp) hE
end
structure ZAp (z TI TO i1 i2:Addr) (f1 f2:List Addr):Prop where
 tz:TI≠z
 oz:TO≠z
 a1z:i1≠z
 a2z:i2≠z
 to:TI≠TO
 t1:TI≠i1
 t2:TI≠i2
 o1:TO≠i1
 o2:TO≠i2
 ii:i1≠i2
 z1:z∉f1
 z2:z∉f2
 p1:TO∉f1
 p2:TO∉f2
 q1:i2∉f1
 q2:i1∉f2
section
variable {prog:Program} {w:World} {A:Around} {s:Shared} {E:Value->Shared->Prop} {z TI TO i1 i2:Addr} {f1 f2:List Addr} {n1 n2 k:Nat} {P1 P2:Nat->Value->Prop} {S1 S2:Nat->Heap->Prop} {a b:Value}
theorem rK {Q:Value->Shared->Prop} (D1:Draws prog w A i1 f1 n1 P1 S1) (D2:Draws prog w A i2 f2 n2 P2 S2) (D:ZAp z TI TO i1 i2 f1 f2)
  (hz:IsZip s.heap z TI TO .none) (hTI:IsPair s.heap TI (.ref i1) (.ref i2)) (hTO:IsPair s.heap TO a b) (st1:S1 k s.heap) (st2:S2 k s.heap) (k1:k<n1) (k2:k<n2)
  (q: ∀ x y h' tk,P1 k x->P2 k y->IsZip h' z TI TO (rawInt s.heap.objs.size)->IsPair h' TO x y->S1 (k+1) h'->S2 (k+1) h'->IsPair h' s.heap.objs.size x y->
   (∀ c o,c≠z->c≠TO->c≠i1->c≠i2->s.heap.get? c=some o->h'.get? c=some o)->Q (.ref s.heap.objs.size) {s with heap:=h',toks:=tk}):
  wpAny (model prog w) A (Builtin.«zip.__next__» ⟨[.ref z],[]⟩) (fun fin s'=> ∃ v,fin=.done (.ret v)/\Q v s') E s:=by
 refine (show wpAny _ _ (field (.ref z) 2 >>= _) _ _ _ from wpAny_bind (wpAny_field hz rfl (x:=.bool false) rfl ?_))
 refine (show wpAny _ _ (field (.ref z) 3 >>= _) _ _ _ from wpAny_bind (wpAny_field hz rfl (x:=.ref TI) rfl (wpAny_bind (wpAny_seqItems hTI rfl ?_))))
 refine (show wpAny _ _ (Builtin.SmallTypes.ownedTupleIsFree (.ref z) >>= _) _ _ _ from wpAny_bind ?_)
 unfold Builtin.SmallTypes.ownedTupleIsFree
 refine wpAny_bind (wpAny_field hz rfl (x:=.none) rfl (wpAny_pure ?_))
 simp only [if_true]
 refine wpAny_bind (wpAny_rule (wpAny_bind (wpAny_field hz rfl (x:=.ref TO) rfl (wpAny_bind (wpAny_setField_rec hz (by simp) fun g1 zz1 sb1=>?_)))))
 replace zz1:IsZip g1 z TI TO .ellipsis:=zz1
 refine wpAny_bind ?_
 simp only [List.zipIdx_cons,List.zipIdx_nil,List.forIn_cons,List.forIn_nil]
 refine wpAny_bind (wpAny_bind (wpAny_onRaise (show wpAny _ _ (Builtin.SmallTypes.nextOf (.ref i1) >>= _) _ _ _ from ?_)))
 refine wpAny_bind (D1.item k _ _ _ k1 (D1.frame k s.heap g1 st1 fun c hc o e=>sb1.extBut c o (fun x=>D.z1 (x▸hc)) e) fun x g2 tk2 hx s1' sb2=>wpAny_pure ?_)
 have to2:IsPair g2 TO a b:=sb2.extBut _ _ D.o1 (sb1.extBut _ _ D.oz hTO)
 refine wpAny_bind (wpAny_seqItems to2 rfl (wpAny_bind (wpAny_updateSeq_pair to2 fun g3 to3 sb3=>?_)))
 replace to3:IsPair g3 TO x b:=to3
 refine wpAny_bind (wpAny_letGo (wpAny_pure ?_))
 refine wpAny_bind (wpAny_bind (wpAny_onRaise (show wpAny _ _ (Builtin.SmallTypes.nextOf (.ref i2) >>= _) _ _ _ from ?_)))
 refine wpAny_bind (D2.item k _ _ _ k2 (D2.frame k s.heap g3 st2 fun c hc o e=>?_) fun y g4 tk4 hy s2' sb4=>wpAny_pure ?_)
 ·exact sb3.extBut c o (fun x=>D.p2 (x▸hc)) (sb2.extBut c o (fun x=>D.q2 (x▸hc)) (sb1.extBut c o (fun x=>D.z2 (x▸hc)) e))
 have to4:IsPair g4 TO x b:=sb4.extBut _ _ D.o2 to3
 refine wpAny_bind (wpAny_seqItems to4 rfl (wpAny_bind (wpAny_updateSeq_pair to4 fun g5 to5 sb5=>?_)))
 replace to5:IsPair g5 TO x y:=to5
 refine wpAny_bind (wpAny_letGo (wpAny_pure (wpAny_pure ?_)))
 refine wpAny_bind (wpAny_seqItems to5 rfl (wpAny_bind (wpAny_newTuple ?_)))
 have sz:g5.objs.size=s.heap.objs.size:=by rw [sb5.1,sb4.1,sb3.1,sb2.1,sb1.1]
 have zz5:IsZip g5 z TI TO .ellipsis:=sb5.extBut _ _ D.oz.symm (sb4.extBut _ _ D.a2z.symm (sb3.extBut _ _ D.oz.symm (sb2.extBut _ _ D.a1z.symm zz1)))
 have kk5: ∀ c o,c≠z->c≠TO->c≠i1->c≠i2->s.heap.get? c=some o->g5.get? c=some o:=fun c o c1 c2 c3 c4 e=>
  sb5.extBut c o c2 (sb4.extBut c o c4 (sb3.extBut c o c2 (sb2.extBut c o c3 (sb1.extBut c o c1 e))))
 have zlt:z<g5.objs.size:=Heap.lt_size zz5
 refine (show wpAny _ _ (Builtin.SmallTypes.ownedTupleHandOut (.ref z) (.ref g5.objs.size) >>= _) _ _ _ from wpAny_bind ?_)
 unfold Builtin.SmallTypes.ownedTupleHandOut
 have zz6:IsZip (g5.push {cls:=.type "tuple",data:=.seq #[x,y]}) z TI TO .ellipsis:=Heap.get?_push_of_some _ zz5
 refine wpAny_bind (wpAny_setField_rec zz6 (by simp) fun g7 zz7 sb7=>?_)
 replace zz7:IsZip g7 z TI TO (rawInt g5.objs.size):=zz7
 refine wpAny_setField_rec zz7 (by simp) fun g8 zz8 sb8=>?_
 replace zz8:IsZip g8 z TI TO (rawInt g5.objs.size):=zz8
 have up: ∀ c o,c≠z->g5.get? c=some o->g8.get? c=some o:=fun c o c1 e=>sb8.extBut c o c1 (sb7.extBut c o c1 (Heap.get?_push_of_some _ e))
 have tt8:IsPair g8 g5.objs.size x y:=sb8.extBut _ _ (Nat.ne_of_gt zlt) (sb7.extBut _ _ (Nat.ne_of_gt zlt) (Heap.get?_push_size _ rfl))
 rw [sz]at zz8 tt8
 refine wpAny_pure ⟨_,rfl,(show Q (.ref g5.objs.size) _ from ?_)⟩
 rw [sz]
 refine q x y g8 _ hx hy zz8 (up _ _ D.oz to5) ?_ ?_ tt8 fun c o c1 c2 c3 c4 e=>up c o c1 (kk5 c o c1 c2 c3 c4 e)
 ·refine D1.frame (k+1) g2 g8 s1' fun c hc o e=>up c o (fun x=>D.z1 (x▸hc)) (sb5.extBut c o (fun x=>D.p1 (x▸hc)) (sb4.extBut c o (fun x=>D.q1 (x▸hc)) (sb3.extBut c o (fun x=>D.p1 (x▸hc)) e)))
 ·exact D2.frame (k+1) g4 g8 s2' fun c hc o e=>up c o (fun x=>D.z2 (x▸hc)) (sb5.extBut c o (fun x=>D.p2 (x▸hc)) e)
theorem l7 {Q:Fin->Shared->Prop} (D1:Draws prog w A i1 f1 n1 P1 S1) (D:ZAp z TI TO i1 i2 f1 f2)
  (hz:IsZip s.heap z TI TO .none) (hTI:IsPair s.heap TI (.ref i1) (.ref i2)) (hTO:IsPair s.heap TO a b) (st1:S1 n1 s.heap)
  (q: ∀ h' e,(∀ c o,c≠z->c≠TO->c≠i1->c≠i2->s.heap.get? c=some o->h'.get? c=some o)->(∃ o,h'.get? e=some o/\o.cls=.type "StopIteration")->E (.ref e) {s with heap:=h'}):
  wpAny (model prog w) A (Builtin.«zip.__next__» ⟨[.ref z],[]⟩) Q E s:=by
 refine (show wpAny _ _ (field (.ref z) 2 >>= _) _ _ _ from wpAny_bind (wpAny_field hz rfl (x:=.bool false) rfl ?_))
 refine (show wpAny _ _ (field (.ref z) 3 >>= _) _ _ _ from wpAny_bind (wpAny_field hz rfl (x:=.ref TI) rfl (wpAny_bind (wpAny_seqItems hTI rfl ?_))))
 refine (show wpAny _ _ (Builtin.SmallTypes.ownedTupleIsFree (.ref z) >>= _) _ _ _ from wpAny_bind ?_)
 unfold Builtin.SmallTypes.ownedTupleIsFree
 refine wpAny_bind (wpAny_field hz rfl (x:=.none) rfl (wpAny_pure ?_))
 simp only [if_true]
 refine wpAny_bind (wpAny_rule (wpAny_bind (wpAny_field hz rfl (x:=.ref TO) rfl (wpAny_bind (wpAny_setField_rec hz (by simp) fun g1 zz1 sb1=>?_)))))
 replace zz1:IsZip g1 z TI TO .ellipsis:=zz1
 refine wpAny_bind ?_
 simp only [List.zipIdx_cons,List.zipIdx_nil,List.forIn_cons,List.forIn_nil]
 refine wpAny_bind (wpAny_bind (wpAny_onRaise (show wpAny _ _ (Builtin.SmallTypes.nextOf (.ref i1) >>= _) _ _ _ from ?_)))
 refine wpAny_bind (D1.done _ _ _ (D1.frame n1 s.heap g1 st1 fun c hc o e=>sb1.extBut c o (fun x=>D.z1 (x▸hc)) e) fun g2 e eb2 he=>?_)
 obtain ⟨oe,hoe,hce⟩:=he
 have zz2:IsZip g2 z TI TO .ellipsis:=eb2 _ _ D.a1z.symm zz1
 have ez:e≠z:=fun x=>by subst x;rw [zz2]at hoe;cases hoe;simp at hce
 exact wpAny_setField_rec zz2 (by simp) fun g3 _ sb3=>q g3 e (fun c o c1 _ c3 _ x=>sb3.extBut c o c1 (eb2 c o c3 (sb1.extBut c o c1 x))) ⟨oe,sb3.extBut _ _ ez hoe,hce⟩
theorem next_zip {Q:Option Value->Shared->Prop} (D1:Draws prog w A.in1 i1 f1 n1 P1 S1) (D2:Draws prog w A.in1 i2 f2 n2 P2 S2) (D:ZAp z TI TO i1 i2 f1 f2)
  (hz:IsZip s.heap z TI TO .none) (hTI:IsPair s.heap TI (.ref i1) (.ref i2)) (hTO:IsPair s.heap TO a b) (st1:S1 k s.heap) (st2:S2 k s.heap) (k1:k<n1) (k2:k<n2)
  (q: ∀ x y h' tk,P1 k x->P2 k y->IsZip h' z TI TO (rawInt s.heap.objs.size)->IsPair h' TO x y->S1 (k+1) h'->S2 (k+1) h'->IsPair h' s.heap.objs.size x y->
   (∀ c o,c≠z->c≠TO->c≠i1->c≠i2->s.heap.get? c=some o->h'.get? c=some o)->Q (some (.ref s.heap.objs.size)) {s with heap:=h',toks:=tk}):
  wpAny (model prog w) A (pyNext (.ref z)) Q E s:=by
 have ty:s.TypeIs (.ref z) "zip":=⟨_,hz,rfl⟩
 unfold pyNext
 exact wpAny_bind (wpAny_attempt (wpAny_callSpecial?_slot (name:=Str.ofString "__next__") ty PySem.F.slot_zip_next (wpAny_call_entry PySem.F.slot_zip_next ty PySem.F.entry_zip_next
  (rK D1 D2 D hz hTI hTO st1 st2 k1 k2 fun x y h' tk a0 b0 a1 a2 a3 a4 a5 a6=>wpAny_pure (q x y h' tk a0 b0 a1 a2 a3 a4 a5 a6)) (PySem.F.args_zip_next_1 _))))
theorem end_zip {Q:Option Value->Shared->Prop} (D1:Draws prog w A.in1 i1 f1 n1 P1 S1) (D:ZAp z TI TO i1 i2 f1 f2)
  (hz:IsZip s.heap z TI TO .none) (hTI:IsPair s.heap TI (.ref i1) (.ref i2)) (hTO:IsPair s.heap TO a b) (st1:S1 n1 s.heap)
  (q: ∀ h',(∀ c o,c≠z->c≠TO->c≠i1->c≠i2->s.heap.get? c=some o->h'.get? c=some o)->Q none {s with heap:=h'}):wpAny (model prog w) A (pyNext (.ref z)) Q E s:=by
 have ty:s.TypeIs (.ref z) "zip":=⟨_,hz,rfl⟩
 unfold pyNext
 refine wpAny_bind (wpAny_attempt (wpAny_callSpecial?_slot (name:=Str.ofString "__next__") ty PySem.F.slot_zip_next (wpAny_call_entry PySem.F.slot_zip_next ty PySem.F.entry_zip_next
  (l7 D1 D hz hTI hTO st1 fun h' e kk he=>?_) (PySem.F.args_zip_next_1 _))))
 obtain ⟨o,ho,hc⟩:=he
 exact wpAny_bind (wpAny_isInstance (T:="StopIteration") (b:=true) ⟨o,ho,hc⟩ isSubtype_stop (wpAny_pure (q _ kk)))
end
section
variable {prog:Program} {w:World} {A:Around} {s:Shared} {E:Value->Shared->Prop}
noncomputable def tIt (l:Addr):Obj:={cls:=.type "tuple_iterator",data:=.fields #[.ref l,.int 0 0]}
noncomputable def zG2 (h:Heap) (l1 l2:Addr):Heap:=(h.push (tIt l1)).push (tIt l2)
noncomputable def zG3 (h:Heap) (l1 l2:Addr):Heap:=(zG2 h l1 l2).push {cls:=.type "tuple",data:=.seq #[.ref h.objs.size,.ref (h.push (tIt l1)).objs.size]}
noncomputable def zG4 (h:Heap) (l1 l2:Addr):Heap:=(zG3 h l1 l2).push {cls:=.type "tuple",data:=.seq #[.none,.none]}
noncomputable def zG5 (h:Heap) (l1 l2:Addr):Heap:=(zG4 h l1 l2).push {cls:=.type "zip",data:=.fields #[.none,.bool false,.bool false,.ref (zG2 h l1 l2).objs.size,.ref (zG3 h l1 l2).objs.size]}
theorem rJ (l1 l2:Addr) (xs ys:Array Value):Meets (Builtin.«zip.__new__» ⟨[.type "zip",.ref l1,.ref l2],[]⟩)
  (fun _ R s=>s.heap.IsTuple l1 xs/\s.heap.IsTuple l2 ys/\R (.ok (.ret (.ref (zG4 s.heap l1 l2).objs.size))) {s with heap:=zG5 s.heap l1 l2}):=
 .of_wp fun prog w A R s h=>by
  obtain ⟨hp,g,d,tk,os⟩:=s
  obtain ⟨a1,a2,h⟩:=h
  have sub:=sub_zip
  have b1:Heap.IsTuple (Shared.heap ⟨hp,g,d,tk,os⟩) l1 xs:=a1
  have b2:Heap.IsTuple (Shared.heap ⟨hp.push {cls:=.type "tuple_iterator",data:=.fields #[.ref l1,.int 0 0]},g,d,tk,os⟩) l2 ys:=Heap.IsTuple.push a2 _
  wp_walk using wpAny_pyIter_tuple b1,wpAny_pyIter_tuple b2
  exact ⟨_,rfl,h⟩
theorem call_zipS {c:Bool} {l1 l2:Addr} {xs ys:Array Value} {Q:Value->Shared->Prop} (a1:SSeq c s.heap l1 xs) (a2:SSeq c s.heap l2 ys)
  (q: ∀ h',IsZip h' (s.heap.objs.size+4) (s.heap.objs.size+2) (s.heap.objs.size+3) .none->IsPair h' (s.heap.objs.size+2) (.ref s.heap.objs.size) (.ref (s.heap.objs.size+1))->
   IsPair h' (s.heap.objs.size+3) .none .none->SIter c h' s.heap.objs.size l1 0->SIter c h' (s.heap.objs.size+1) l2 0->
   (∀ b o,s.heap.get? b=some o->h'.get? b=some o)->Q (.ref (s.heap.objs.size+4)) {s with heap:=h'}):wpAny (model prog w) A (call (.type "zip") [.ref l1,.ref l2]) Q E s:=by
 cases c with
 | false=>exact call_zip_2 a1 a2 fun h' b1 b2 b3 b4 b5 _ b7=>q h' b1 b2 b3 b4 b5 b7
 | true=>
  refine callType_new PySem.F.called_zip (by decide) (PySem.F.typeCall_zip_2 _ _) (PySem.F.newCall_zip_2 _ _) (fun obj=>PySem.F.args_object_init_3 obj _ _) PySem.F.entry_zip_new (rJ l1 l2 xs ys) ⟨a1,a2,?_⟩
  have z1:(s.heap.push (tIt l1)).objs.size=s.heap.objs.size+1:=Heap.size_push ..
  have z2:(zG2 s.heap l1 l2).objs.size=s.heap.objs.size+2:=by unfold zG2;rw [Heap.size_push,z1]
  have z3:(zG3 s.heap l1 l2).objs.size=s.heap.objs.size+3:=by unfold zG3;rw [Heap.size_push,z2]
  have z4:(zG4 s.heap l1 l2).objs.size=s.heap.objs.size+4:=by unfold zG4;rw [Heap.size_push,z3]
  have g5:(zG5 s.heap l1 l2).get? (zG4 s.heap l1 l2).objs.size=some {cls:=.type "zip",data:=.fields #[.none,.bool false,.bool false,.ref (zG2 s.heap l1 l2).objs.size,.ref (zG3 s.heap l1 l2).objs.size]}:=Heap.get?_push_size _ rfl
  have g4:(zG5 s.heap l1 l2).get? (zG3 s.heap l1 l2).objs.size=some {cls:=.type "tuple",data:=.seq #[.none,.none]}:=Heap.get?_push_of_some _ (Heap.get?_push_size _ rfl)
  have g3:(zG5 s.heap l1 l2).get? (zG2 s.heap l1 l2).objs.size=some {cls:=.type "tuple",data:=.seq #[.ref s.heap.objs.size,.ref (s.heap.push (tIt l1)).objs.size]}:=Heap.get?_push_of_some _ (Heap.get?_push_of_some _ (Heap.get?_push_size _ rfl))
  have g2:(zG5 s.heap l1 l2).get? (s.heap.push (tIt l1)).objs.size=some (tIt l2):=Heap.get?_push_of_some _ (Heap.get?_push_of_some _ (Heap.get?_push_of_some _ (Heap.get?_push_size _ rfl)))
  have g1:(zG5 s.heap l1 l2).get? s.heap.objs.size=some (tIt l1):=Heap.get?_push_of_some _ (Heap.get?_push_of_some _ (Heap.get?_push_of_some _ (Heap.get?_push_of_some _ (Heap.get?_push_size _ rfl))))
  show _/\_
  rw [z2,z3,z4]at g5
  rw [z1,z2]at g3
  rw [z3]at g4
  rw [z1]at g2
  rw [z4]
  exact ⟨⟨_,g5,rfl⟩,q _ g5 g3 g4 (show Heap.IsTupleIter _ _ _ _ from ⟨_,g1,rfl,rfl⟩) (show Heap.IsTupleIter _ _ _ _ from ⟨_,g2,rfl,rfl⟩) fun b o x=>
   Heap.get?_push_of_some _ (Heap.get?_push_of_some _ (Heap.get?_push_of_some _ (Heap.get?_push_of_some _ (Heap.get?_push_of_some _ x))))⟩
end
end HT
namespace L2
open PySem PySem.Spec PyProof.Rows
noncomputable def dP (c:Bool) (xs:List V):HO:=if c=true then .tup xs else .lst xs
theorem mv {c:Bool} {xs ys:List V} (h:dP c xs=dP c ys):xs=ys:=by
 cases c with
 | true=>exact HO.tup.inj h
 | false=>exact HO.lst.inj h
theorem Inv.seqS {X:Cx} {pins:List (Addr×Obj)} {σ:St} {H:Hp} {s:Shared} {c:Bool} {a:Addr} {xs:List V} (I:Inv X pins σ H s) (h:H a=some (dP c xs)): ∃ its:List Value,Vals xs its/\HT.SSeq c s.heap a its.toArray/\xs.length<=sizeLine:=by
 cases c with
 | true=>obtain ⟨its,r,p,z⟩:=I.tuple (SqT.of (K:=X.K) h);exact ⟨its,r,p,z⟩
 | false=>obtain ⟨its,r,p,z⟩:=I.list (SqL.of (K:=X.K) h);exact ⟨its,r,p.isList,z⟩
noncomputable def Itz (c:Bool) (l1 l2:Addr):It:=
 ⟨fun i H=> ∃ xs ys x y,H l1=some (dP c xs)/\H l2=some (dP c ys)/\xs[i]? =some x/\ys[i]? =some y,
  fun i H v H'=> ∃ T x y,H T=none/\v=.ref T/\H'=upd H T (.tup [x,y])/\ ∀ xs ys,H l1=some (dP c xs)->H l2=some (dP c ys)->xs[i]? =some x/\ys[i]? =some y,
  fun i H=> ∃ xs ys,H l1=some (dP c xs)/\H l2=some (dP c ys)/\xs.length=i/\ys.length=i⟩
noncomputable def ZAt (c:Bool) (z TI TO i1 i2 l1 l2:Addr) (i:Nat) (h:Heap):Prop:=IsZip h z TI TO .none/\IsPair h TI (.ref i1) (.ref i2)/\(∃ a b,IsPair h TO a b)/\HT.SIter c h i1 l1 i/\HT.SIter c h i2 l2 i
theorem fp5 {z TI TO i1 i2 b:Addr} (h:b∈[z,TI,TO,i1,i2]):b=z\/b=TI\/b=TO\/b=i1\/b=i2:=by simpa using h
theorem rS {P:Program} {w:World} {K:PySem.W.Frag} {es:List Expr} {kk:Nat} {tpos:Pos} (c:Bool) (z TI TO i1 i2 l1 l2:Addr) (nd:[z,TI,TO,i1,i2].Nodup):
  nG P w K (.Tuple es kk tpos) (Itz c l1 l2) [z,TI,TO,i1,i2] z (ZAt c z TI TO i1 i2 l1 l2):=by
 simp only [List.nodup_cons,List.mem_cons,List.not_mem_nil,or_false,not_or,List.nodup_nil,and_true]at nd
 obtain ⟨⟨n1,n2,n3,n4⟩,⟨n5,n6,n7⟩,⟨n8,n9⟩,n10,_⟩:=nd
 have ap: ∀ {X:Cx} {pins:List (Addr×Obj)} {H:Hp} {xs ys:List V},(∀ b∈[z,TI,TO,i1,i2],iN X pins H b)->H l1=some (dP c xs)->H l2=some (dP c ys)->
   HT.ZAp z TI TO i1 i2 [i1,l1] [i2,l2]/\l1≠i1/\l2≠i2:=by
  intro X pins H xs ys hf h1 h2
  have a: ∀ b∈[z,TI,TO,i1,i2],b≠l1/\b≠l2:=fun b hb=>⟨(ah h1 (hf b hb).1).symm,(ah h2 (hf b hb).1).symm⟩
  have az:=a z (by simp)
  have aO:=a TO (by simp)
  have a1:=a i1 (by simp)
  have a2:=a i2 (by simp)
  refine ⟨⟨Ne.symm n1,Ne.symm n2,Ne.symm n3,Ne.symm n4,n5,n6,n7,n8,n9,n10,?_,?_,?_,?_,?_,?_⟩,Ne.symm a1.1,Ne.symm a2.2⟩ <;> simp only [List.mem_cons,List.not_mem_nil,or_false,not_or]
  ·exact ⟨n3,az.1⟩
  ·exact ⟨n4,az.2⟩
  ·exact ⟨n8,aO.1⟩
  ·exact ⟨n9,aO.2⟩
  ·exact ⟨Ne.symm n10,a2.1⟩
  ·exact ⟨n10,a1.2⟩
 refine ⟨by simp,fun i h st b hb=>?_,fun i h h' st k=>?_,?_,?_,fun _ _ _ _ _ st h=>wpAny_pyIter_zip st.1 h⟩
 ·obtain ⟨h1,h2,⟨a,b',h3⟩,h4,h5⟩:=st
  rcases fp5 hb with rfl | rfl | rfl | rfl | rfl
  ·exact ⟨_,h1,fun v e=>nomatch e⟩
  ·exact ⟨_,h2,fun v e=>nomatch e⟩
  ·exact ⟨_,h3,fun v e=>nomatch e⟩
  ·exact h4.obj
  ·exact h5.obj
 ·obtain ⟨h1,h2,⟨a,b',h3⟩,h4,h5⟩:=st
  exact ⟨k z (by simp) _ h1,k TI (by simp) _ h2,⟨a,b',k TO (by simp) _ h3⟩,h4.at fun o e=>k i1 (by simp) o e,h5.at fun o e=>k i2 (by simp) o e⟩
 ·intro X hP hw hK hc i pins s σ H E I hf st hg
  subst hP hw hK
  obtain ⟨xs,ys,x,y,hx,hy,ex,ey⟩:=hg
  obtain ⟨its1,r1,q1,_⟩:=I.seqS hx
  obtain ⟨its2,r2,q2,_⟩:=I.seqS hy
  obtain ⟨u,hu,ru⟩:=r1.get ex
  obtain ⟨v,hv,rv⟩:=r2.get ey
  obtain ⟨z0,t0,⟨a,b,o0⟩,s1,s2⟩:=st
  obtain ⟨D,e1,e2⟩:=ap hf hx hy
  refine HT.next_zip (HT.draws_seq (A:=X.A.in1) c (I.ok.hd hc) i1 l1 e1 its1.toArray) (HT.draws_seq (A:=X.A.in1) c (I.ok.hd hc) i2 l2 e2 its2.toArray) D z0 t0 o0 ⟨s1,q1⟩ ⟨s2,q2⟩
   (by rw [List.size_toArray];exact (List.getElem?_eq_some_iff.mp hu).1) (by rw [List.size_toArray];exact (List.getElem?_eq_some_iff.mp hv).1) fun x' y' h' tk px py z1 o1 t1 t2 pr kk=>?_
  have ex':x'=u:=by
   have p1:its1[i]? =some x':=by simpa using px
   rw [hu]at p1;exact (Option.some.inj p1).symm
  have ey':y'=v:=by
   have p1:its2[i]? =some y':=by simpa using py
   rw [hv]at p1;exact (Option.some.inj p1).symm
  subst ex' ey'
  refine ⟨_,rfl,wpAny_letOwnedTupleGo_zip z1 fun h'' z2 sb=>?_⟩
  have lt: ∀ {b:Addr} {ob:Obj},s.heap.get? b=some ob->b≠s.heap.objs.size:=fun e=>Nat.ne_of_lt (Heap.lt_size e)
  have fT:H s.heap.objs.size=none:=I.hok.fresh (Nat.le_refl _)
  have keep: ∀ b ob,b∉[z,TO,i1,i2]->s.heap.get? b=some ob->h''.get? b=some ob:=fun b ob hb e=>by
   simp only [List.mem_cons,List.not_mem_nil,or_false,not_or]at hb
   exact sb.extBut b ob hb.1 (kk b ob hb.1 hb.2.1 hb.2.2.1 hb.2.2.2 e)
  have sub: ∀ b,b∈[z,TO,i1,i2]->b∈[z,TI,TO,i1,i2]:=fun b hb=>by
   simp only [List.mem_cons,List.not_mem_nil,or_false]at hb ⊢
   rcases hb with h | h | h | h
   ·exact .inl h
   ·exact .inr (.inr (.inl h))
   ·exact .inr (.inr (.inr (.inl h)))
   ·exact .inr (.inr (.inr (.inr h)))
  have trk: ∀ b uo,H b=some uo->b∉[z,TO,i1,i2]:=fun b uo e hb=>by rw [(hf b (sub b hb)).1]at e;cases e
  have ptT:IsPair h'' s.heap.objs.size x' y':=sb.extBut _ _ (Ne.symm (lt z0)) pr
  have I2:Inv X pins σ (upd H s.heap.objs.size (.tup [x,y])) {s with heap:=h'',toks:=tk}:=by
   refine I.step (g':=s.gens) (d':=s.drawn) (ch:=[z,TO,i1,i2]) (fun b hb=>?_) (fun b ob _ _ hb e _=>keep b ob hb e) (fun b ob _ _ hb e _=>⟨ob.slots,keep b ob hb e⟩) (fun b ob hb e n=>by rw [al (lt e)];exact n)
    (fun b ob hb e=>⟨ob,keep b ob hb e⟩) (fun b zs e=>by rw [al (ah e fT)];exact e) (fun b ob uo e=>by rw [al (ah e fT)];exact e) (fun b ps e=>⟨#[],by rw [al (ah e fT),e];simp⟩) (fun m hm=>?_) (fun b uo e=>?_) I.bare
   ·obtain ⟨_,f1,_,f3,f4,f5⟩:=hf b (sub b hb)
    exact ⟨f3,f1,f4,f5⟩
   ·obtain ⟨ob,es',ep,ho,r⟩:=hm
    exact ⟨ob,es',ep,keep _ ob (fun hb=>(hf _ (sub _ hb)).2.1 rfl) ho,r⟩
   ·by_cases hb:b=s.heap.objs.size
    ·subst hb
     rw [ac]at e
     cases e
     exact ⟨by show 2<=sizeLine;decide,[x',y'],.cons ru (.cons rv .nil),_,ptT,rfl,_,rfl⟩
    ·rw [al hb]at e
     refine (I.hok b uo e).stay (fun c' v' hc' q=>keep c' v' ?_ q) (fun c' q=>by rw [al (ah q fT)];exact q) fun c' zs q=>by rw [al (ah q fT)];exact q
     rcases hc' with h | h
     ·rw [h];exact trk b uo e
     ·exact trk c' _ h
  refine ⟨.ref s.heap.objs.size,_,I2,rfl,⟨_,x,y,fT,rfl,rfl,fun xs' ys' h1 h2=>?_⟩,⟨z2,sb.extBut _ _ (Ne.symm n1) (kk _ _ (Ne.symm n1) n5 n6 n7 t0),⟨_,_,sb.extBut _ _ (Ne.symm n2) o1⟩,t1.1.at fun o e=>sb.extBut _ o (Ne.symm n3) e,t2.1.at fun o e=>sb.extBut _ o (Ne.symm n4) e⟩,fun b hb=>?_⟩
  ·rw [hx]at h1
   rw [hy]at h2
   rw [<- mv (Option.some.inj h1),<- mv (Option.some.inj h2)]
   exact ⟨ex,ey⟩
  ·have hb': ∃ ob,s.heap.get? b=some ob:=by
    rcases fp5 hb with rfl | rfl | rfl | rfl | rfl
    ·exact ⟨_,z0⟩
    ·exact ⟨_,t0⟩
    ·exact ⟨_,o0⟩
    ·obtain ⟨ob,e,_⟩:=s1.obj;exact ⟨ob,e⟩
    ·obtain ⟨ob,e,_⟩:=s2.obj;exact ⟨ob,e⟩
   obtain ⟨ob,e⟩:=hb'
   rw [al (lt e)]
   exact (hf b hb).1
 ·intro X hP hw hK hc i pins s σ H E I hf st hg
  subst hP hw hK
  obtain ⟨xs,ys,hx,hy,l,l'⟩:=hg
  obtain ⟨its1,r1,q1,_⟩:=I.seqS hx
  obtain ⟨z0,t0,⟨a,b,o0⟩,s1,s2⟩:=st
  obtain ⟨D,e1,e2⟩:=ap hf hx hy
  have hi:i=its1.toArray.size:=by rw [List.size_toArray,<- l];exact r1.length
  rw [hi]at s1
  refine HT.end_zip (HT.draws_seq (A:=X.A.in1) c (I.ok.hd hc) i1 l1 e1 its1.toArray) D z0 t0 o0 ⟨s1,q1⟩ fun h' kk=>⟨rfl,?_⟩
  have keep: ∀ b ob,b∉[z,TO,i1,i2]->s.heap.get? b=some ob->h'.get? b=some ob:=fun b ob hb e=>by
   simp only [List.mem_cons,List.not_mem_nil,or_false,not_or]at hb
   exact kk b ob hb.1 hb.2.1 hb.2.2.1 hb.2.2.2 e
  have sub: ∀ b,b∈[z,TO,i1,i2]->b∈[z,TI,TO,i1,i2]:=fun b hb=>by
   simp only [List.mem_cons,List.not_mem_nil,or_false]at hb ⊢
   rcases hb with h | h | h | h
   ·exact .inl h
   ·exact .inr (.inr (.inl h))
   ·exact .inr (.inr (.inr (.inl h)))
   ·exact .inr (.inr (.inr (.inr h)))
  have trk: ∀ b uo,H b=some uo->b∉[z,TO,i1,i2]:=fun b uo e hb=>by rw [(hf b (sub b hb)).1]at e;cases e
  refine I.step (g':=s.gens) (d':=s.drawn) (t':=s.toks) (ch:=[z,TO,i1,i2]) (fun b hb=>?_) (fun b ob _ _ hb e _=>keep b ob hb e) (fun b ob _ _ hb e _=>⟨ob.slots,keep b ob hb e⟩) (fun b ob hb e n=>n)
   (fun b ob hb e=>⟨ob,keep b ob hb e⟩) (fun b zs e=>e) (fun b ob uo e=>e) (fun b ps e=>⟨#[],by rw [e];simp⟩) (fun m hm=>?_) (fun b uo e=>?_) I.bare
  ·obtain ⟨_,f1,_,f3,f4,f5⟩:=hf b (sub b hb)
   exact ⟨f3,f1,f4,f5⟩
  ·obtain ⟨ob,es',ep,ho,r⟩:=hm
   exact ⟨ob,es',ep,keep _ ob (fun hb=>(hf _ (sub _ hb)).2.1 rfl) ho,r⟩
  ·refine (I.hok b uo e).stay (fun c' v' hc' q=>keep c' v' ?_ q) (fun _ q=>q) fun _ _ q=>q
   rcases hc' with h | h
   ·rw [h];exact trk b uo e
   ·exact trk c' _ h
noncomputable def yq (ta:TA):TI:=fun σ H R=>ta σ H fun vs H1=> ∃ c l1 l2 xs ys,vs=[.ref l1,.ref l2]/\H1 l1=some (dP c xs)/\H1 l2=some (dP c ys)/\R (Itz c l1 l2) H1
theorem wA {X:Cx} {es:List Expr} {kk:Nat} {tpos:Pos} {a b:Expr} {ta:TA} {p pos:Pos} (hg:Gl X "zip") (hm:X.mg "zip"=none) (ha:PA X [a,b] ta) (hs:starEach [a,b] X.env=[(false,eval a X.env),(false,eval b X.env)]:=by rfl) (hs2:starEach [b] X.env=[(false,eval b X.env)]:=by rfl):
  PI X (.Tuple es kk tpos) (.Call (.Name "zip" p) [a,b] [] pos) (yq ta):=by
 intro pins s σ H R I h
 refine Call_ (dA I hg hm (show bootBuiltins "zip"=some (.type "zip") by decide +kernel) (PyProof.Rows.callWith_type1 (thn (ha pos pins s σ H _ I h) fun us s1 ⟨vs,H1,I1,r1,q1⟩=>?_) (by rw [hs,hs2]) (by rw [hs2];rfl)))
 obtain ⟨c,l1,l2,xs,ys,rfl,hx,hy,q⟩:=q1
 obtain ⟨u,v,rfl,ru,rv⟩:=eY r1
 cases (show u=Value.ref l1 from ru)
 cases (show v=Value.ref l2 from rv)
 obtain ⟨its1,_,e1,_⟩:=I1.seqS hx
 obtain ⟨its2,_,e2,_⟩:=I1.seqS hy
 refine HT.call_zipS e1 e2 fun h' a1 a2 a3 a4 a5 kp=>?_
 have I2:Inv X pins σ H1 {s1 with heap:=h'}:=I1.kept (t':=s1.toks) kp
 refine wpAny_pyIter_zip a1 ?_
 refine ⟨s1.heap.objs.size+4,[s1.heap.objs.size+4,s1.heap.objs.size+2,s1.heap.objs.size+3,s1.heap.objs.size,s1.heap.objs.size+1],_,_,H1,rfl,I2,rS c _ _ _ _ _ l1 l2 (by simp),⟨a1,a2,⟨_,_,a3⟩,a4,a5⟩,fun b hb=>?_,q⟩
 have hb':s1.heap.objs.size<=b:=by rcases fp5 hb with rfl | rfl | rfl | rfl | rfl <;> lia
 exact I1.fpOk hb' (I1.hok.fresh hb')
structure l5 (sc0:Scope) (N0:List Str) (scope:Scope) (x x2:Str) (ys:List Str) (fr:List Nat):Prop where
 kind:scope.kind=.function
 nocell: ∀ y∈scope.names,y.2≠ .cell
 loc: ∀ y∈scope.names,y.2=.local->scope.names.lookup y.1=some .local
 xl:(bu sc0 scope).lookup x=some .local
 xl2:(bu sc0 scope).lookup x2=some .local
 free: ∀ y∈scope.names,y.2=.free->sc0.names.lookup y.1=some .cell
 nd:(x::x2::ys).Nodup
 len:ys.length=fr.length
 sl: ∀ q∈ys.zip fr,N0[q.2]? =some q.1/\sc0.names.lookup q.1=some .cell/\(bu sc0 scope).lookup q.1=some .cell
noncomputable def cH (X:Cx) (x x2:Str) (ys:List Str) (scope:Scope) (C:Addr) (s:Shared) (H:Hp) (ex:List Addr):Cx:=
 {X with N:=x::x2::ys,s₀:=s,H₀:=H,env:=compEnvC scope (dD X.env.cells scope.names) C X.env,outer:=X.stack,stack:=X.stack,ex:=ex,fn:=fun _=>false,pn:=[],xe:=fun _ _=>False}
noncomputable def pc (fr:List Nat) (te:TE) (σ:St) (J:It) (H1:Hp) (Q:VK):Prop:=
 ∀ p,H1 p=none-> ∃ W:Nat->Nat->List V->Hp->Prop,(∃ m,W 0 m [] (upd H1 p (.lst [])))/\ ∀ i m ys H,W i m ys H->H p=some (.lst ys)/\
  ((J.stop i H/\Q (.ref p) H)\/(J.go i H/\ys.length<sizeLine/\ ∀ x H',J.yld i H x H'-> ∃ T v1 v2,x=.ref T/\H' T=some (.tup [v1,v2])/\te (some v1::some v2::cf fr σ) H' fun v H2=>
   H2 p=some (.lst ys)/\ ∃ m',m'<m/\W (i+1) m' (ys++[v]) (upd H2 p (.lst (ys++[v])))))
noncomputable def nR (wi:TI) (fr:List Nat) (te:TE):TE:=fun σ H Q=>wi σ H fun J H1=>pc fr te σ J H1 Q
section
variable {X:Cx} {x x2:Str} {px px2 tpos pos fpos:Pos} {kk:Nat} {iter elt:Expr} {scope sc0:Scope} {N0 ys:List Str} {fr:List Nat} {wi:TI} {te:TE} {pins:List (Addr×Obj)} {σ:St} {H:Hp} {s:Shared}
theorem jD {use:Option (Value->Sem Unit)} {Qv:Value->Shared->Prop} {Q:VK} (hcalm:X.calm=true) (hi:PI X (.Tuple [.Name x px,.Name x2 px2] kk tpos) iter wi) (hsc:X.env.scope=sc0) (hN:X.N=N0) (ok:l5 sc0 N0 scope x x2 ys fr)
  (hE: ∀ C s H ex,PE (cH X x x2 ys scope C s H ex) elt te) (I:Inv X pins σ H s) (h:nR wi fr te σ H Q) (hs: ∀ v,foldedSetIterable iter X.env v=pure v)
  (fin: ∀ (p C:Addr) (H':Hp) (s':Shared) (m:Str->Option Value),Inv X pins σ H' s'->s'.heap.Ns C m->H' C=none->C≠X.env.locals->X.s₀.heap.objs.size<=C->(∀ y c,X.env.cells.lookup y=some c->c≠C)->(∀ q∈X.pn++pins,q.1≠C)->Q (.ref p) H'->
   compPost (model X.prog X.w) X.A X.xe use Qv (.ref p) C (.ok .next) s'):
  wpAny (model X.prog X.w) X.A (comprehension (.ListComp elt [⟨.Tuple [.Name x px,.Name x2 px2] kk tpos,iter,[],0⟩] scope pos) scope X.env fpos (newList []) false (eval iter X.env) use) Qv X.xe s:=by
 subst hsc hN
 have hkof: ∀ y,X.env.kindOf y=X.env.scope.names.lookup y:=fun y=>rfl
 have hfree: ∀ y∈scope.names,y.2=.free-> ∃ c,X.env.cells.lookup y.1=some c:=fun y hy e=>I.ok.has y.1 (.inl (ok.free y hy e))
 refine wpAny_comprehension_free (gs:=[]) rfl hs (dS hfree) ok.kind ok.loc (thn (hi pins s σ H _ I h) fun v s1 h1=>thn h1 fun itv s2 h2=>?_)
 obtain ⟨it,fp,tn,J,H2,e,I2,T,st2,f2,hp⟩:=h2
 subst e
 refine wpAny_newObj_type (wpAny_newFunctionEnv ok.nocell (by intro y hy;simp at hy) (fun h₁ hns₁ hsb₁=>?_) ok.kind)
 dsimp only at hns₁ hsb₁ ⊢
 have I3:Inv X pins σ (upd H2 s2.heap.objs.size (.lst [])) {s2 with heap:=s2.heap.push {cls:=.type "list",data:=.seq ([]:List Value).toArray}}:=
  I2.lnew (its:=[]) (ys:=[]) (t':=s2.toks) .nil (Nat.zero_le _)
 have hf2: ∀ b∈fp,b<s2.heap.objs.size:=fun b hb=>by
  obtain ⟨o,e,_⟩:=T.obj _ _ st2 b hb
  exact Heap.lt_size e
 have hps:s2.heap.objs.size< (s2.heap.push {cls:=.type "list",data:=.seq ([]:List Value).toArray}).objs.size:=by rw [Heap.size_push];exact Nat.lt_succ_self _
 have W0:=hp s2.heap.objs.size I2.fresh
 have st3:tn 0 (s2.heap.push {cls:=.type "list",data:=.seq ([]:List Value).toArray}):=T.keep _ _ _ st2 fun b hb o e=>Heap.get?_push_of_some _ e
 generalize hpp:s2.heap.objs.size=p at I3 W0 hf2 hps ⊢
 generalize hh3:(s2.heap.push {cls:=.type "list",data:=.seq ([]:List Value).toArray})=h3 at I3 hns₁ hsb₁ hps st3 ⊢
 generalize hH3:upd H2 p (.lst [])=H3 at I3 W0
 have hold: ∀ b o,h3.get? b=some o->h₁.get? b=some o:=fun b o e=>hsb₁.extBut b o (Nat.ne_of_lt (Heap.lt_size e)) (Heap.get?_push_of_some _ e)
 have fH3: ∀ b∈fp,H3 b=none:=fun b hb=>by
  rw [<- hH3,al (Nat.ne_of_lt (hf2 b hb))]
  exact (f2 b hb).1
 have hclos: ∀ y c,(dD X.env.cells scope.names).lookup y=some c->X.env.cells.lookup y=some c:=fun y c e=>dj e
 have hcell3: ∀ y c,X.env.cells.lookup y=some c->c<h3.objs.size:=fun y c e=>by
  obtain ⟨v,o,ho,_⟩:=I3.cell y c e
  exact Heap.lt_size ho
 have hlt3:X.env.locals<h3.objs.size:=I3.lt
 have Yok:(cH X x x2 ys scope h3.objs.size {s2 with heap:=h3} H3 fp).Ok:={
  mod:=I.ok.mod
  kind:=ok.kind
  glob:=I.ok.glob
  blt:=I.ok.blt
  above:=Nat.le_refl _
  inj:=fun y z c e1 e2=>I.ok.inj y z c (hclos _ _ e1) (hclos _ _ e2)
  has:=fun y hk=>by
   have hfr:(y,NameKind.free)∈scope.names:=by
    have hm: ∃ k,(bu X.env.scope scope).lookup y=some k/\(k=.cell\/k=.free):=by
     rcases hk with hk | hk
     ·exact ⟨_,hk,.inl rfl⟩
     ·exact ⟨_,hk,.inr rfl⟩
    obtain ⟨k,hk,hkk⟩:=hm
    have hmem:=mem_of_lookup hk
    unfold bu at hmem
    obtain ⟨⟨n,k0⟩,hn,en⟩:=List.mem_map.mp hmem
    dsimp only at en
    split at en
    ·rename_i hc
     simp only [Bool.and_eq_true]at hc
     have hk0:k0=.free:=by simpa using hc.1.1
     cases en
     rw [<- hk0]
     exact hn
    ·cases en
     rcases hkk with e | e
     ·exact absurd e (ok.nocell _ hn)
     ·rw [<- e]
      exact hn
   obtain ⟨c,hc⟩:=hfree _ hfr rfl
   exact ⟨c,cV hc hfr⟩
  cab:=fun y c hf _=>by cases hf
  hd:=I.ok.hd
  frames:=I.ok.frames
  stk:=.inl rfl
  exf:=fun b hb=>⟨fun e=>absurd (hf2 b hb) (by rw [e];exact Nat.not_lt.mpr (Nat.le_of_lt hps)),fun y c e=>(f2 b hb).2.2.2.2.1 y c (hclos _ _ e)⟩
  bs:=fun b o e=>⟨(I3.bs b o e).1,(I3.bs b o e).2⟩
  bsz:=Nat.le_trans I.ok.bsz I3.sz
  noex:=fun b o e hb=>by
   rcases (f2 b hb).2.2.2.1 with q | q
   ·exact I.ok.noex b o e q
   ·have h1:b<X.base.objs.size:=Heap.lt_size e
    exact absurd h1 (Nat.not_lt.mpr (Nat.le_trans I.ok.bsz q))
  exfs:=fun b hb hm=>by
   rcases List.mem_cons.mp (I3.stkSub b hm)with q | q
   ·exact (f2 b hb).2.1 q
   ·exact (f2 b hb).2.2.1 q
  funs:=I3.stack
  frf:=I3.stkFree}
 have IY:Inv (cH X x x2 ys scope h3.objs.size {s2 with heap:=h3} H3 fp) [] (none::none::cf fr σ) H3 {s2 with heap:=h₁,toks:=s2.toks+ ([]:List (Str×Value)).length}:={
  ok:=Yok
  os:=rfl
  bare:=I2.bare
  base:=Un.kept hold
  loc:=by
   refine ⟨_,hns₁,fun i y v hy hv hvis=>?_⟩
   match i,hy,hv with
   | 0,_,hv=>cases hv
   | 1,_,hv=>cases hv
   | j+2,hy,hv=>
    have hy':ys[j]? =some y:=hy
    have hv':(cf fr σ)[j]? =some (some v):=hv
    unfold cf at hv'
    rw [List.getElem?_map]at hv'
    obtain ⟨i0,hi0,hv0⟩:=Option.map_eq_some_iff.mp hv'
    have hz:(y,i0)∈ys.zip fr:=by
     refine List.mem_iff_getElem?.mpr ⟨j,?_⟩
     rw [List.getElem?_zip_eq_some]
     exact ⟨hy',hi0⟩
    obtain ⟨hn,hk,hk2⟩:=ok.sl _ hz
    have hσ:σ[i0]? =some (some v):=by
     cases e:σ[i0]? with
     | none=>rw [e]at hv0;cases hv0
     | some o=>
      rw [e]at hv0
      rw [show o=some v from hv0]
    obtain ⟨m,hm,hl⟩:=I3.loc
    obtain ⟨u,ru,lk⟩:=hl i0 y v hn hσ (.inr (.inl hk))
    refine ⟨u,ru,.inr ⟨.inl hk2,?_⟩⟩
    rcases lk with ⟨a,_⟩ | ⟨_,c,hc,hcell⟩
    ·have a':X.env.scope.names.lookup y=some .local:=a
     have hk':X.env.scope.names.lookup y=some .cell:=hk
     rw [hk']at a'
     cases a'
    ·have hfr:(y,NameKind.free)∈scope.names:=by
      have hmem:=mem_of_lookup hk2
      unfold bu at hmem
      obtain ⟨⟨n,k0⟩,hn0,en⟩:=List.mem_map.mp hmem
      dsimp only at en
      split at en
      ·rename_i hc0
       simp only [Bool.and_eq_true]at hc0
       have hk0:k0=.free:=by simpa using hc0.1.1
       cases en
       rw [<- hk0]
       exact hn0
      ·cases en
       exact absurd rfl (ok.nocell _ hn0)
     exact ⟨c,cV hc hfr,hcell.keeps hold⟩
  cell:=fun y c e=>by
   obtain ⟨v,hv⟩:=I3.cell y c (hclos _ _ e)
   exact ⟨v,hv.keeps hold⟩
  free:=I3.fresh
  freeC:=fun y c e=>I3.freeC y c (hclos _ _ e)
  pin:=fun q hq=>by cases hq
  hok:=I3.hok.kept hold
  len:=by
   show (none::none::cf fr σ).length=(x::x2::ys).length
   rw [List.length_cons,List.length_cons,List.length_cons,List.length_cons,ok.len]
   unfold cf
   rw [List.length_map]}
 have hxl:(cH X x x2 ys scope h3.objs.size {s2 with heap:=h3} H3 fp).env.scope.names.lookup x=some .local:=ok.xl
 have hxl2:(cH X x x2 ys scope h3.objs.size {s2 with heap:=h3} H3 fp).env.scope.names.lookup x2=some .local:=ok.xl2
 have pgx:PG (cH X x x2 ys scope h3.objs.size {s2 with heap:=h3} H3 fp) (.Tuple [.Name x px,.Name x2 px2] kk tpos) (wV X.K 2 (pV (eW 0) (pV (eW 1) xW))):=
  jg hcalm (bO (aS (i:=0) ok.nd rfl (.inl hxl) (.inr hxl)) (bO (aS (i:=1) ok.nd rfl (.inl hxl2) (.inr hxl2)) gU))
 have pel:=hE h3.objs.size {s2 with heap:=h3} H3 fp
 obtain ⟨W,⟨m0,w0⟩,turn⟩:=W0
 have stat: ∀ {H':Hp},(∀ b∈fp,H' b=none)-> ∀ b∈fp,iN (cH X x x2 ys scope h3.objs.size {s2 with heap:=h3} H3 fp) [] H' b:=fun hn b hb=>
  ⟨hn b hb,(Yok.exf b hb).1,Yok.exfs b hb,.inl hb,(Yok.exf b hb).2,fun q hq=>by cases hq⟩
 have loop:codeAny (model X.prog X.w) X.A (.compLoop (.ListComp elt [⟨.Tuple [.Name x px,.Name x2 px2] kk tpos,iter,[],0⟩] scope pos) 0 (.ref it) (.ref p) (compEnvC scope (dD X.env.cells scope.names) h3.objs.size X.env))
   (compPost (model X.prog X.w) X.A X.xe use Qv (.ref p) h3.objs.size) {s2 with heap:=h₁,toks:=s2.toks+ ([]:List (Str×Value)).length}:=by
  refine fV (fun n s'=> ∃ i zs v0 w0 H',Inv (cH X x x2 ys scope h3.objs.size {s2 with heap:=h3} H3 fp) [] (v0::w0::cf fr σ) H' s'/\tn i s'.heap/\(∀ b∈fp,H' b=none)/\W i n zs H') ?_ m0
   ⟨0,[],none,none,H3,IY,T.keep _ _ _ st3 fun b hb o e=>hold b o e,fH3,w0⟩
  rintro n s5 ⟨i,zs,v0,wv0,H5,I5,st5,fr5,w5⟩
  obtain ⟨hacc,turn5⟩:=turn i n zs H5 w5
  rcases turn5 with ⟨stop,qn⟩ | ⟨go,hlen,step⟩
  ·refine thn (T.done (cH X x x2 ys scope h3.objs.size {s2 with heap:=h3} H3 fp) rfl rfl rfl hcalm i [] s5 _ H5 _ I5 (stat fr5) st5 stop) fun r s6 ⟨hr,I6⟩=>?_
   subst hr
   obtain ⟨m6,n6,_⟩:=I6.loc
   refine fin p h3.objs.size H5 s6 m6 (I3.call' I6.os I6.base I6.hok I6.bare fun b hb=>⟨(f2 b hb).2.2.2.1,(f2 b hb).2.1,(f2 b hb).2.2.2.2.1,(f2 b hb).2.2.2.2.2⟩) n6 I6.free (Nat.ne_of_gt hlt3) I3.sz (fun y c e=>Nat.ne_of_lt (hcell3 y c e)) (fun q hq=>?_) qn
   exact Nat.ne_of_lt (Heap.lt_size (I3.pin q hq).1)
  ·refine thn (T.item (cH X x x2 ys scope h3.objs.size {s2 with heap:=h3} H3 fp) rfl rfl rfl hcalm i [] s5 _ H5 _ I5 (stat fr5) st5 go) fun r s6 ⟨u,hr,h6⟩=>?_
   subst hr
   refine thn h6 fun _ s7 ⟨xv,H7,I7,r7,y7,st7,fr7⟩=>?_
   have I7':=I7.pinned (stat fr7) (T.obj _ _ st7)
   obtain ⟨T7,v1,v2,eT,hT7,step7⟩:=step xv H7 y7
   refine thn (pgx _ s7 _ H7 xv u (fun σ' H'=>σ'=some v1::some v2::cf fr σ/\H'=H7) I7' r7 ⟨T7,[v1,v2],eT,SqT.of hT7,rfl,v1,[v2],rfl,v2,[],rfl,rfl,rfl,rfl⟩) fun _ s8 ⟨σ8,H8,I8,e8,e8'⟩=>?_
   subst e8 e8'
   refine thn (pel _ s8 _ H8 _ I8 step7) fun yv s9 ⟨v9,H9,I9,r9,hp9,m',hm',w9⟩=>?_
   refine thn (bK _ s9 _ H9 (.ref p) [v9] (.ref p) [yv] (fun _ H'=>H'=upd H9 p (.lst (zs++[v9]))) I9 rfl (.cons r9 .nil) ⟨p,zs,v9,rfl,rfl,hp9,hlen,rfl⟩) fun _ s10 ⟨_,H10,I10,_,e10⟩=>?_
   subst e10
   refine ⟨m',hm',i+1,zs++[v9],some v1,some v2,_,I10.unpinned,T.keep _ _ _ st7 fun b hb o e=>(I10.pin (b,o) (List.mem_append_right _ (List.mem_append_right _ (br hb e)))).1,fun b hb=>?_,w9⟩
   obtain ⟨o,e,d⟩:=T.obj _ _ st7 b hb
   exact (I10.pin (b,o) (List.mem_append_right _ (List.mem_append_right _ (br hb e)))).2.1
 exact codeAny_compStart_list loop (T.self X.A 0 _ _ _ (T.keep _ _ _ st3 fun b hb o e=>hold b o e) loop)
theorem sX (hcalm:X.calm=true) (hi:PI X (.Tuple [.Name x px,.Name x2 px2] kk tpos) iter wi) (hsc:X.env.scope=sc0) (hN:X.N=N0) (ok:l5 sc0 N0 scope x x2 ys fr)
  (hE: ∀ C s H ex,PE (cH X x x2 ys scope C s H ex) elt te) (hs: ∀ v,foldedSetIterable iter X.env v=pure v:=by intro _;rfl):
  PE X (.ListComp elt [⟨.Tuple [.Name x px,.Name x2 px2] kk tpos,iter,[],0⟩] scope pos) (nR wi fr te):=by
 intro pins s σ H Q I h
 rw [eval_ListComp]
 refine jD (use:=none) (Qv:=EP X pins σ Q) (Q:=Q) hcalm hi hsc hN ok hE I h hs fun p C H' s' m I' hn h0 h1 h2 h3 h4 q=>?_
 refine ⟨m,hn,fun h' sb=>⟨.ref p,H',I'.turned (t':=s'.toks) (fun b o hb e=>sb.extBut b o hb e) h0 (Ne.symm (Ne.symm h1)) (.inr h2) h3 h4,rfl,q⟩⟩
end
section
variable {prog:Program} {w:World} {A:Around} {R:Result->Shared->Prop} {s:Shared}
theorem jE {elt target iter cnd:Expr} {scope:Scope} {pos:Pos} {it acc:Value} {env:Env} (I:Nat->Shared->Prop)
  (turn: ∀ n s,I n s->wpAny (model prog w) A (pyNext it) (fun r s₁=>match r with
   | none=>R (.ok .next) s₁
   | some v=>wpAny (model prog w) A (letOwnedTupleGo target it v) (fun _ s₁'=>wpAny (model prog w) A (assign target env v) (fun _ s₂=>wpAny (model prog w) A (isTrue cnd env (eval cnd env)) (fun ok s₃=>
     if ok=true then wpAny (model prog w) A (eval elt env) (fun x s₄=>
      wpAny (model prog w) A (call (.builtin "list.append") [acc,x]) (fun _ s₅=> ∃ m,m<n/\I m s₅) (fun _ _=>False) s₄) (fun _ _=>False) s₃
     else ∃ m,m<n/\I m s₃) (fun _ _=>False) s₂) (fun _ _=>False) s₁') (fun _ _=>False) s₁) (fun _ _=>False) s)
  (n:Nat) (h:I n s):codeAny (model prog w) A (.compLoop (.ListComp elt [⟨target,iter,[cnd],0⟩] scope pos) 0 it acc env) R s:=by
 refine codeAny_loop rfl I (fun n s hI=>?_) n h
 show wpAny _ _ ((compTurn (.ListComp elt [⟨target,iter,[cnd],0⟩] scope pos) 0 it acc env).onRaise (fun x=>do noteFrame x env;theTreesLotGoes x)) _ _ s
 refine wpAny_noted ?_
 rw [compTurn_list]
 refine wpAny_noRaise ?_
 refine wpAny_bind (wpAny_standAt (wpAny_bind (wpAny_mono (turn n s hI) (fun r s₁ h₁=>?_) fun _ _ h'=>h')))
 cases r with
 | none=>exact wpAny_pure h₁
 | some v=>
  refine wpAny_bind (wpAny_mono h₁ (fun _ s₁' h₁'=>?_) fun _ _ h'=>h')
  refine wpAny_bind (wpAny_mono h₁' (fun _ s₂ h₂=>wpAny_bind (wpAny_mono (wpAny_tests_one h₂) (fun ok s₃ h₃=>?_) fun _ _ h'=>h')) fun _ _ h'=>h')
  cases ok with
  | false=>exact wpAny_pure ⟨rfl,h₃⟩
  | true=>
   exact wpAny_bind (wpAny_bind (wpAny_mono h₃ (fun x s₄ h₄=>wpAny_bind (wpAny_mono h₄ (fun _ s₅ h₅=>wpAny_pure (wpAny_pure ⟨rfl,h₅⟩)) fun _ _ h'=>h')) fun _ _ h'=>h'))
end
noncomputable def kQ (fr:List Nat) (tc:TT) (te:TE) (σ:St) (J:It) (H1:Hp) (Q:VK):Prop:=
 ∀ p,H1 p=none-> ∃ W:Nat->Nat->List V->Hp->Prop,(∃ m,W 0 m [] (upd H1 p (.lst [])))/\ ∀ i m ys H,W i m ys H->H p=some (.lst ys)/\
  ((J.stop i H/\Q (.ref p) H)\/(J.go i H/\ys.length<sizeLine/\ ∀ x H',J.yld i H x H'->tc (some x::cf fr σ) H' fun b H2=>if b=true then te (some x::cf fr σ) H2 fun v H3=>
   H3 p=some (.lst ys)/\ ∃ m',m'<m/\W (i+1) m' (ys++[v]) (upd H3 p (.lst (ys++[v])))else ∃ m',m'<m/\W (i+1) m' ys H2))
noncomputable def nQ (wi:TI) (fr:List Nat) (tc:TT) (te:TE):TE:=fun σ H Q=>wi σ H fun J H1=>kQ fr tc te σ J H1 Q
section
variable {X:Cx} {x:Str} {px pos fpos:Pos} {iter elt cnd:Expr} {scope sc0:Scope} {N0 ys:List Str} {fr:List Nat} {wi:TI} {tc:TT} {te:TE} {pins:List (Addr×Obj)} {σ:St} {H:Hp} {s:Shared}
theorem jC {use:Option (Value->Sem Unit)} {Qv:Value->Shared->Prop} {Q:VK} (hcalm:X.calm=true) (hi:PI X (.Name x px) iter wi) (hsc:X.env.scope=sc0) (hN:X.N=N0) (ok:gw sc0 N0 scope x ys fr)
  (hT: ∀ C s H ex,PT (bt X x ys scope C s H ex) cnd tc) (hE: ∀ C s H ex,PE (bt X x ys scope C s H ex) elt te) (I:Inv X pins σ H s) (h:nQ wi fr tc te σ H Q) (hs: ∀ v,foldedSetIterable iter X.env v=pure v)
  (fin: ∀ (p C:Addr) (H':Hp) (s':Shared) (m:Str->Option Value),Inv X pins σ H' s'->s'.heap.Ns C m->H' C=none->C≠X.env.locals->X.s₀.heap.objs.size<=C->(∀ y c,X.env.cells.lookup y=some c->c≠C)->(∀ q∈X.pn++pins,q.1≠C)->Q (.ref p) H'->
   compPost (model X.prog X.w) X.A X.xe use Qv (.ref p) C (.ok .next) s'):
  wpAny (model X.prog X.w) X.A (comprehension (.ListComp elt [⟨.Name x px,iter,[cnd],0⟩] scope pos) scope X.env fpos (newList []) false (eval iter X.env) use) Qv X.xe s:=by
 subst hsc hN
 have hkof: ∀ y,X.env.kindOf y=X.env.scope.names.lookup y:=fun y=>rfl
 have hfree: ∀ y∈scope.names,y.2=.free-> ∃ c,X.env.cells.lookup y.1=some c:=fun y hy e=>I.ok.has y.1 (.inl (ok.free y hy e))
 refine wpAny_comprehension_free (gs:=[]) rfl hs (dS hfree) ok.kind ok.loc (thn (hi pins s σ H _ I h) fun v s1 h1=>thn h1 fun itv s2 h2=>?_)
 obtain ⟨it,fp,tn,J,H2,e,I2,T,st2,f2,hp⟩:=h2
 subst e
 refine wpAny_newObj_type (wpAny_newFunctionEnv ok.nocell (by intro y hy;simp at hy) (fun h₁ hns₁ hsb₁=>?_) ok.kind)
 dsimp only at hns₁ hsb₁ ⊢
 have I3:Inv X pins σ (upd H2 s2.heap.objs.size (.lst [])) {s2 with heap:=s2.heap.push {cls:=.type "list",data:=.seq ([]:List Value).toArray}}:=
  I2.lnew (its:=[]) (ys:=[]) (t':=s2.toks) .nil (Nat.zero_le _)
 have hf2: ∀ b∈fp,b<s2.heap.objs.size:=fun b hb=>by
  obtain ⟨o,e,_⟩:=T.obj _ _ st2 b hb
  exact Heap.lt_size e
 have hps:s2.heap.objs.size< (s2.heap.push {cls:=.type "list",data:=.seq ([]:List Value).toArray}).objs.size:=by rw [Heap.size_push];exact Nat.lt_succ_self _
 have W0:=hp s2.heap.objs.size I2.fresh
 have st3:tn 0 (s2.heap.push {cls:=.type "list",data:=.seq ([]:List Value).toArray}):=T.keep _ _ _ st2 fun b hb o e=>Heap.get?_push_of_some _ e
 generalize hpp:s2.heap.objs.size=p at I3 W0 hf2 hps ⊢
 generalize hh3:(s2.heap.push {cls:=.type "list",data:=.seq ([]:List Value).toArray})=h3 at I3 hns₁ hsb₁ hps st3 ⊢
 generalize hH3:upd H2 p (.lst [])=H3 at I3 W0
 have hold: ∀ b o,h3.get? b=some o->h₁.get? b=some o:=fun b o e=>hsb₁.extBut b o (Nat.ne_of_lt (Heap.lt_size e)) (Heap.get?_push_of_some _ e)
 have fH3: ∀ b∈fp,H3 b=none:=fun b hb=>by
  rw [<- hH3,al (Nat.ne_of_lt (hf2 b hb))]
  exact (f2 b hb).1
 have hclos: ∀ y c,(dD X.env.cells scope.names).lookup y=some c->X.env.cells.lookup y=some c:=fun y c e=>dj e
 have hcell3: ∀ y c,X.env.cells.lookup y=some c->c<h3.objs.size:=fun y c e=>by
  obtain ⟨v,o,ho,_⟩:=I3.cell y c e
  exact Heap.lt_size ho
 have hlt3:X.env.locals<h3.objs.size:=I3.lt
 have Yok:(bt X x ys scope h3.objs.size {s2 with heap:=h3} H3 fp).Ok:={
  mod:=I.ok.mod
  kind:=ok.kind
  glob:=I.ok.glob
  blt:=I.ok.blt
  above:=Nat.le_refl _
  inj:=fun y z c e1 e2=>I.ok.inj y z c (hclos _ _ e1) (hclos _ _ e2)
  has:=fun y hk=>by
   have hfr:(y,NameKind.free)∈scope.names:=by
    have hm: ∃ k,(bu X.env.scope scope).lookup y=some k/\(k=.cell\/k=.free):=by
     rcases hk with hk | hk
     ·exact ⟨_,hk,.inl rfl⟩
     ·exact ⟨_,hk,.inr rfl⟩
    obtain ⟨k,hk,hkk⟩:=hm
    have hmem:=mem_of_lookup hk
    unfold bu at hmem
    obtain ⟨⟨n,k0⟩,hn,en⟩:=List.mem_map.mp hmem
    dsimp only at en
    split at en
    ·rename_i hc
     simp only [Bool.and_eq_true]at hc
     have hk0:k0=.free:=by simpa using hc.1.1
     cases en
     rw [<- hk0]
     exact hn
    ·cases en
     rcases hkk with e | e
     ·exact absurd e (ok.nocell _ hn)
     ·rw [<- e]
      exact hn
   obtain ⟨c,hc⟩:=hfree _ hfr rfl
   exact ⟨c,cV hc hfr⟩
  cab:=fun y c hf _=>by cases hf
  hd:=I.ok.hd
  frames:=I.ok.frames
  stk:=.inl rfl
  exf:=fun b hb=>⟨fun e=>absurd (hf2 b hb) (by rw [e];exact Nat.not_lt.mpr (Nat.le_of_lt hps)),fun y c e=>(f2 b hb).2.2.2.2.1 y c (hclos _ _ e)⟩
  bs:=fun b o e=>⟨(I3.bs b o e).1,(I3.bs b o e).2⟩
  bsz:=Nat.le_trans I.ok.bsz I3.sz
  noex:=fun b o e hb=>by
   rcases (f2 b hb).2.2.2.1 with q | q
   ·exact I.ok.noex b o e q
   ·have h1:b<X.base.objs.size:=Heap.lt_size e
    exact absurd h1 (Nat.not_lt.mpr (Nat.le_trans I.ok.bsz q))
  exfs:=fun b hb hm=>by
   rcases List.mem_cons.mp (I3.stkSub b hm)with q | q
   ·exact (f2 b hb).2.1 q
   ·exact (f2 b hb).2.2.1 q
  funs:=I3.stack
  frf:=I3.stkFree}
 have IY:Inv (bt X x ys scope h3.objs.size {s2 with heap:=h3} H3 fp) [] (none::cf fr σ) H3 {s2 with heap:=h₁,toks:=s2.toks+ ([]:List (Str×Value)).length}:={
  ok:=Yok
  os:=rfl
  bare:=I2.bare
  base:=Un.kept hold
  loc:=by
   refine ⟨_,hns₁,fun i y v hy hv hvis=>?_⟩
   cases i with
   | zero=>cases hv
   | succ j=>
    have hy':ys[j]? =some y:=hy
    have hv':(cf fr σ)[j]? =some (some v):=hv
    unfold cf at hv'
    rw [List.getElem?_map]at hv'
    obtain ⟨i0,hi0,hv0⟩:=Option.map_eq_some_iff.mp hv'
    have hz:(y,i0)∈ys.zip fr:=by
     refine List.mem_iff_getElem?.mpr ⟨j,?_⟩
     rw [List.getElem?_zip_eq_some]
     exact ⟨hy',hi0⟩
    obtain ⟨hn,hk,hk2⟩:=ok.sl _ hz
    have hσ:σ[i0]? =some (some v):=by
     cases e:σ[i0]? with
     | none=>rw [e]at hv0;cases hv0
     | some o=>
      rw [e]at hv0
      rw [show o=some v from hv0]
    obtain ⟨m,hm,hl⟩:=I3.loc
    obtain ⟨u,ru,lk⟩:=hl i0 y v hn hσ (.inr (.inl hk))
    refine ⟨u,ru,.inr ⟨.inl hk2,?_⟩⟩
    rcases lk with ⟨a,_⟩ | ⟨_,c,hc,hcell⟩
    ·have a':X.env.scope.names.lookup y=some .local:=a
     have hk':X.env.scope.names.lookup y=some .cell:=hk
     rw [hk']at a'
     cases a'
    ·have hfr:(y,NameKind.free)∈scope.names:=by
      have hmem:=mem_of_lookup hk2
      unfold bu at hmem
      obtain ⟨⟨n,k0⟩,hn0,en⟩:=List.mem_map.mp hmem
      dsimp only at en
      split at en
      ·rename_i hc0
       simp only [Bool.and_eq_true]at hc0
       have hk0:k0=.free:=by simpa using hc0.1.1
       cases en
       rw [<- hk0]
       exact hn0
      ·cases en
       exact absurd rfl (ok.nocell _ hn0)
     exact ⟨c,cV hc hfr,hcell.keeps hold⟩
  cell:=fun y c e=>by
   obtain ⟨v,hv⟩:=I3.cell y c (hclos _ _ e)
   exact ⟨v,hv.keeps hold⟩
  free:=I3.fresh
  freeC:=fun y c e=>I3.freeC y c (hclos _ _ e)
  pin:=fun q hq=>by cases hq
  hok:=I3.hok.kept hold
  len:=by
   show (none::cf fr σ).length=(x::ys).length
   rw [List.length_cons,List.length_cons,ok.len]
   unfold cf
   rw [List.length_map]}
 have hxl:(bt X x ys scope h3.objs.size {s2 with heap:=h3} H3 fp).env.scope.names.lookup x=some .local:=ok.xl
 have pgx:PG (bt X x ys scope h3.objs.size {s2 with heap:=h3} H3 fp) (.Name x px) (eW 0):=aS (i:=0) ok.nd rfl (.inl hxl) (.inr hxl)
 have pel:=hE h3.objs.size {s2 with heap:=h3} H3 fp
 have ptl:=hT h3.objs.size {s2 with heap:=h3} H3 fp
 obtain ⟨W,⟨m0,w0⟩,turn⟩:=W0
 have stat: ∀ {H':Hp},(∀ b∈fp,H' b=none)-> ∀ b∈fp,iN (bt X x ys scope h3.objs.size {s2 with heap:=h3} H3 fp) [] H' b:=fun hn b hb=>
  ⟨hn b hb,(Yok.exf b hb).1,Yok.exfs b hb,.inl hb,(Yok.exf b hb).2,fun q hq=>by cases hq⟩
 have loop:codeAny (model X.prog X.w) X.A (.compLoop (.ListComp elt [⟨.Name x px,iter,[cnd],0⟩] scope pos) 0 (.ref it) (.ref p) (compEnvC scope (dD X.env.cells scope.names) h3.objs.size X.env))
   (compPost (model X.prog X.w) X.A X.xe use Qv (.ref p) h3.objs.size) {s2 with heap:=h₁,toks:=s2.toks+ ([]:List (Str×Value)).length}:=by
  refine jE (fun n s'=> ∃ i zs v0 H',Inv (bt X x ys scope h3.objs.size {s2 with heap:=h3} H3 fp) [] (v0::cf fr σ) H' s'/\tn i s'.heap/\(∀ b∈fp,H' b=none)/\W i n zs H') ?_ m0
   ⟨0,[],none,H3,IY,T.keep _ _ _ st3 fun b hb o e=>hold b o e,fH3,w0⟩
  rintro n s5 ⟨i,zs,v0,H5,I5,st5,fr5,w5⟩
  obtain ⟨hacc,turn5⟩:=turn i n zs H5 w5
  rcases turn5 with ⟨stop,qn⟩ | ⟨go,hlen,step⟩
  ·refine thn (T.done (bt X x ys scope h3.objs.size {s2 with heap:=h3} H3 fp) rfl rfl rfl hcalm i [] s5 _ H5 _ I5 (stat fr5) st5 stop) fun r s6 ⟨hr,I6⟩=>?_
   subst hr
   obtain ⟨m6,n6,_⟩:=I6.loc
   refine fin p h3.objs.size H5 s6 m6 (I3.call' I6.os I6.base I6.hok I6.bare fun b hb=>⟨(f2 b hb).2.2.2.1,(f2 b hb).2.1,(f2 b hb).2.2.2.2.1,(f2 b hb).2.2.2.2.2⟩) n6 I6.free (Nat.ne_of_gt hlt3) I3.sz (fun y c e=>Nat.ne_of_lt (hcell3 y c e)) (fun q hq=>?_) qn
   exact Nat.ne_of_lt (Heap.lt_size (I3.pin q hq).1)
  ·refine thn (T.item (bt X x ys scope h3.objs.size {s2 with heap:=h3} H3 fp) rfl rfl rfl hcalm i [] s5 _ H5 _ I5 (stat fr5) st5 go) fun r s6 ⟨u,hr,h6⟩=>?_
   subst hr
   refine thn h6 fun _ s7 ⟨xv,H7,I7,r7,y7,st7,fr7⟩=>?_
   have I7':=I7.pinned (stat fr7) (T.obj _ _ st7)
   refine thn (pgx _ s7 _ H7 xv u (fun σ' H'=>σ'=some xv::cf fr σ/\H'=H7) I7' r7 ⟨rfl,rfl⟩) fun _ s8 ⟨σ8,H8,I8,e8,e8'⟩=>?_
   subst e8 e8'
   refine thn (ptl _ s8 _ H8 _ I8 (step xv H8 y7)) fun bb s8' ⟨H8',I8',hb⟩=>?_
   cases bb with
   | false=>
    obtain ⟨m',hm',w9⟩:=hb
    refine ⟨m',hm',i+1,zs,some xv,_,I8'.unpinned,T.keep _ _ _ st7 fun b hb o e=>(I8'.pin (b,o) (List.mem_append_right _ (List.mem_append_right _ (br hb e)))).1,fun b hb=>?_,w9⟩
    obtain ⟨o,e,d⟩:=T.obj _ _ st7 b hb
    exact (I8'.pin (b,o) (List.mem_append_right _ (List.mem_append_right _ (br hb e)))).2.1
   | true=>
   refine thn (pel _ s8' _ H8' _ I8' hb) fun yv s9 ⟨v9,H9,I9,r9,hp9,m',hm',w9⟩=>?_
   refine thn (bK _ s9 _ H9 (.ref p) [v9] (.ref p) [yv] (fun _ H'=>H'=upd H9 p (.lst (zs++[v9]))) I9 rfl (.cons r9 .nil) ⟨p,zs,v9,rfl,rfl,hp9,hlen,rfl⟩) fun _ s10 ⟨_,H10,I10,_,e10⟩=>?_
   subst e10
   refine ⟨m',hm',i+1,zs++[v9],some xv,_,I10.unpinned,T.keep _ _ _ st7 fun b hb o e=>(I10.pin (b,o) (List.mem_append_right _ (List.mem_append_right _ (br hb e)))).1,fun b hb=>?_,w9⟩
   obtain ⟨o,e,d⟩:=T.obj _ _ st7 b hb
   exact (I10.pin (b,o) (List.mem_append_right _ (List.mem_append_right _ (br hb e)))).2.1
 exact codeAny_compStart_list loop (T.self X.A 0 _ _ _ (T.keep _ _ _ st3 fun b hb o e=>hold b o e) loop)
theorem sW (hcalm:X.calm=true) (hi:PI X (.Name x px) iter wi) (hsc:X.env.scope=sc0) (hN:X.N=N0) (ok:gw sc0 N0 scope x ys fr)
  (hT: ∀ C s H ex,PT (bt X x ys scope C s H ex) cnd tc) (hE: ∀ C s H ex,PE (bt X x ys scope C s H ex) elt te) (hs: ∀ v,foldedSetIterable iter X.env v=pure v:=by intro _;rfl):
  PE X (.ListComp elt [⟨.Name x px,iter,[cnd],0⟩] scope pos) (nQ wi fr tc te):=by
 intro pins s σ H Q I h
 rw [eval_ListComp]
 refine jC (use:=none) (Qv:=EP X pins σ Q) (Q:=Q) hcalm hi hsc hN ok hT hE I h hs fun p C H' s' m I' hn h0 h1 h2 h3 h4 q=>?_
 refine ⟨m,hn,fun h' sb=>⟨.ref p,H',I'.turned (t':=s'.toks) (fun b o hb e=>sb.extBut b o hb e) h0 (Ne.symm (Ne.symm h1)) (.inr h2) h3 h4,rfl,q⟩⟩
theorem sO {i:Nat} {y:Str} {py spos:Pos} (hcalm:X.calm=true) (hnd:X.N.Nodup) (hiN:X.N[i]? =some y) (hy:Loc X.env.scope y) (hi:PI X (.Name x px) iter wi) (hsc:X.env.scope=sc0) (hN:X.N=N0) (ok:gw sc0 N0 scope x ys fr)
  (hT: ∀ C s H ex,PT (bt X x ys scope C s H ex) cnd tc) (hE: ∀ C s H ex,PE (bt X x ys scope C s H ex) elt te) (hsw:swapsWith (.ListComp elt [⟨.Name x px,iter,[cnd],0⟩] scope pos) (some (.Name y py)) spos.line X.env=pure true:=by rfl)
  (hs: ∀ v,foldedSetIterable iter X.env v=pure v:=by intro _;rfl) (hf:X.fn y=true\/X.env.scope.names.lookup y=some .local:=by first | exact .inl rfl | exact .inr rfl | assumption):
  PS X (.Assign [.Name y py] (.ListComp elt [⟨.Name x px,iter,[cnd],0⟩] scope pos) spos) (ml (nQ wi fr tc te) (eW i)):=by
 intro pins s σ H D I h
 rw [exec_Assign_Name_used _ _ _ _ hsw]
 refine wpAny_bind (wpAny_standAt (wpAny_bind ?_))
 show wpAny _ X.A (do let _ <- comprehension (.ListComp elt [⟨.Name x px,iter,[cnd],0⟩] scope pos) scope X.env _ (newList []) false (eval iter X.env) (some (assign (.Name y py) X.env))) _ _ s
 refine wpAny_bind (thn (jC (use:=some (assign (.Name y py) X.env)) (Qv:=fun _ s'=>SP X pins D .next s') (Q:=fun v H'=>D.nx (σ.set i (some v)) H') hcalm hi hsc hN ok hT hE I h hs fun p C H' s' m I' hn h0 h1 h2 h3 h4 q=>?_) fun _ s' hq=>wpAny_pure (wpAny_pure hq))
 show wpAny _ X.A (assign (.Name y py) X.env (.ref p)) _ _ s'
 refine wpAny_assign_Name (fE (v:=.ref p) I' hnd hiN hy rfl (fun s'' I'' ⟨a,sb,ha⟩=>?_) hf)
 have hCa:C≠a:=by
  rcases ha with e | e
  ·rw [e];exact h1
  ·exact (h3 y a e).symm
 refine ⟨m,hn.sameBut sb hCa,fun h' sb'=>⟨_,H',I''.turned (t':=s''.toks) (fun b o hb e=>sb'.extBut b o hb e) h0 h1 (.inr h2) h3 h4,q⟩⟩
end
end L2
namespace HT
open PySem PyProof.Rows
theorem str_eq_declines_dict (b:Str) (u:Tok) (l:Addr) (es:Array DictEntry) (n:Nat) (dd:Option Addr) (sl:Array (Option Value)):
  Meets (Builtin.«str.__eq__» ⟨[.str b u,.ref l],[]⟩) (fun _ R s=>s.heap.get? l=some {cls:=.type "dict",dict:=dd,data:=.dict es n,slots:=sl}/\R (.ok (.ret .notImplemented)) s):=
 .of_wp fun prog w A R s h=>by obtain ⟨hp,g,d,tk,os⟩:=s;obtain ⟨hl,h⟩:=h;wp_walk using AutoSeq1.wpAny_loadPart' hl,wpAny_load hl;exact ⟨_,rfl,h⟩
theorem kX:isSubtype (.type "str") (.type "dict")=pure false:=by rw [isSubtype_type];kernel_rfl
theorem sub_dict_str:isSubtype (.type "dict") (.type "str")=pure false:=by rw [isSubtype_type];kernel_rfl
theorem dict_eq_declines_str (l:Addr) (es:Array DictEntry) (n:Nat) (dd:Option Addr) (sl:Array (Option Value)) (b:Str) (u:Tok):
  Meets (Builtin.«dict.__eq__» ⟨[.ref l,.str b u],[]⟩) (fun _ R s=>s.heap.get? l=some {cls:=.type "dict",dict:=dd,data:=.dict es n,slots:=sl}/\R (.ok (.ret .notImplemented)) s):=
 .of_wp fun prog w A R s h=>by obtain ⟨hp,g,d,tk,os⟩:=s;obtain ⟨hl,h⟩:=h;have f1:=kX;wp_walk using AutoSeq1.wpAny_loadPart' hl;exact ⟨_,rfl,h⟩
end HT
namespace L2
open PySem PySem.Spec PyProof.Rows
section
variable {X:Cx}
theorem tq:OpR X (binaryOp .Add) (fun x y H Q=> ∃ a b xs ys,x=.ref a/\y=.ref b/\SqT X.K H a xs/\SqT X.K H b ys/\xs.length+ys.length<=sizeLine/\(xs=[]->Q (.ref b) H)/\(xs≠[]->ys=[]->Q (.ref a) H)/\
  (xs≠[]->ys≠[]-> ∀ p,H p=none->Q (.ref p) (upd H p (.tup (xs++ys))))):=by
 intro pins s σ H x y v u Q I rx ry h
 obtain ⟨a,b,xs,ys,rfl,rfl,ha,hb,hz,q0,q1,q2⟩:=h
 by_cases hx:xs=[]
 ·subst hx
  cases rx
  cases ry
  obtain ⟨its,r1,p1,_⟩:=I.tuple ha
  obtain ⟨its2,r2,p2,_⟩:=I.tuple hb
  cases r1
  obtain ⟨⟨cls,dd,data,sl⟩,ho,hc,n,hd⟩:=id p1
  obtain ⟨⟨cls2,dd2,data2,sl2⟩,ho2,hc2,n2,hd2⟩:=id p2
  simp only at hc hd hc2 hd2
  subst hc hd hc2 hd2
  exact concat_meets ⟨_,ho,rfl⟩ ⟨_,ho2,rfl⟩ noFill_tuple_add seq_tuple_add PySem.F.slot_tuple_add PySem.F.entry_tuple_add (PySem.F.args_tuple_add_2 _ _)
   (tuple_addW0 a b #[] its2.toArray n n2 dd dd2 sl sl2 rfl) ⟨ho,ho2,⟨.ref b,H,I,rfl,q0 rfl⟩⟩
 ·exact u3 pins s σ H _ _ v u Q I rx ry ⟨a,b,xs,ys,rfl,rfl,ha,hb,hx,hz,q1 hx,q2 hx⟩
theorem wH (hu:X.A.units<cLine):OpR X (compareOp .Eq) (fun x y H Q=> ∃ z,x=.str z/\(uQ x y=true\/ ∃ b,y=.ref b/\((∃ xs,H b=some (.lst xs))\/(∃ xs,H b=some (.tup xs))\/ ∃ kvs,H b=some (.dK kvs)))/\Q (.bl (decide (x=y))) H):=by
 intro pins s σ H x y v u Q I rx ry h
 obtain ⟨z,rfl,hs,q⟩:=h
 rcases hs with hs | ⟨b,rfl,hb⟩
 ·exact bV pins s σ H _ _ v u Q I rx ry ⟨hs,q⟩
 ·obtain ⟨t,rfl⟩:=rx
  cases ry
  have q':EP X pins σ Q (.bool false) s:=⟨.bl _,H,I,rfl,by rw [show decide (V.str z=V.ref b)=false from decide_eq_false fun e=>nomatch e]at q;exact q⟩
  rcases hb with ⟨xs,hb⟩ | ⟨xs,hb⟩ | ⟨kvs,hb⟩
  ·obtain ⟨its,_,pl,_⟩:=I.list (SqL.of hb)
   exact SeqAt.RcAt.str_list z t pl.isList hu X.prog X.w X.xe _ q'
  ·obtain ⟨its,_,pl,_⟩:=I.tuple (SqT.of hb)
   exact SeqAt.RcAt.str_tuple z t pl hu X.prog X.w X.xe _ q'
  ·obtain ⟨_,_,vs,_,o,es,ep,ho,hE,hd,_⟩:=vS I.hok hb
   obtain ⟨cls,dd,data,sl⟩:=o
   obtain ⟨e1,e2,e3⟩:=hE
   simp only at hd e1 e2 e3
   subst hd e1
   exact SeqAt.rc_eq_decline_or (k:=false) (typeIs_str s z t) ⟨_,ho,rfl⟩ (by decide) HT.sub_dict_str F.slot_str_eq F.slot_dict_eq_refl
    (fun _ hq=>call_meets F.slot_str_eq (typeIs_str s z t) F.entry_str_eq (F.args_str_eq_2 _ _) (HT.str_eq_declines_dict z t b es ep dd sl) ⟨ho,hq⟩)
    (fun _ hq=>call_meets F.slot_dict_eq_refl ⟨_,ho,rfl⟩ F.entry_dict_eq (F.args_dict_eq_2 _ _) (HT.dict_eq_declines_str b es ep dd sl z t) ⟨ho,hq⟩)
    (fun _ hq=>wpAny_of_eq (rfl:isSame (.str z t) (.ref b)=pure false) hq) (.inr hu) q'
end
section
variable {base G h h':Heap}
theorem lO {env:Env} {r:List Env} {L:Addr} (hf:env.frame=some L):L∈frs (env::r):=by
 unfold frs;rw [List.filterMap_cons,hf];exact List.mem_cons_self
theorem gZ {env:Env} {r:List Env} {b:Addr} (hb:b∈frs r):b∈frs (env::r):=by
 unfold frs;rw [List.filterMap_cons]
 cases env.frame with
 | none=>exact hb
 | some L=>exact List.mem_cons_of_mem _ hb
theorem di: ∀ {l:List Env},h.FunFrames base l->(∀ b∈frs l,G.get? b=none)->h.FunFrames G l
 | [],_,_=>trivial
 | _::_,⟨hk,⟨L,o,hf,_,ho,hd⟩,hr⟩,hg=>⟨hk,⟨L,o,hf,hg L (lO hf),ho,hd⟩,di hr fun b hb=>hg b (gZ hb)⟩
end
inductive Rec (h:Heap) (x C T:Addr):Prop
 | mk (oe:Obj) (vs:Array Value) (oT:Obj) (ts:Array Value) (he:h.get? x=some oe) (hc:oe.cls=.ref C) (hd:oe.data=.fields vs) (h1:vs[1]? =some (.ref T)) (ne:T≠x)
   (hT:h.get? T=some oT) (hdT:oT.data=.fields ts) (h3:ts[3]? =some .none):Rec h x C T
structure LeftF (l:List Env) (x C:Addr) (hs:List Addr) (h h':Heap):Prop where
 keep: ∀ b o,b≠x->b∉hs->b∉frs l->h.get? b=some o->h'.get? b=some o
 slot: ∀ b o,b∈frs l->h.get? b=some o-> ∃ sl,h'.get? b=some {o with slots:=sl}
 rc: ∃ T,Rec h' x C T/\(T∈hs\/h.get? T=none)
section
variable {base h h':Heap} {l:List Env} {x C:Addr} {hs:List Addr}
theorem LeftF.of (hl:h.FunFrames base l) (hL:(PySem.W.hideAll h (x::(hs++frs l))).Left l x (.ref C) h h'):LeftF l x C hs h h':=by
 obtain ⟨a1,_,⟨oe,vs,T,oT,ts,he,hc,hd,h1,hn,hTe,hT,hdT,h3⟩,a4⟩:=hL
 have slot: ∀ b o,b∈frs l->h.get? b=some o-> ∃ sl,h'.get? b=some {o with slots:=sl}:=fun b o hb e=>by
  obtain ⟨_,o',ho',hnf⟩:=hl.mem hb
  rw [e]at ho';cases ho'
  exact a4 b o e hnf
 refine ⟨fun b o n1 n2 n3 e=>a1 b o (PySem.W.hideAll_get _ e fun z=>?_),slot,T,.mk oe vs oT ts he hc hd h1 hTe hT hdT h3,?_⟩
 ·rcases List.mem_cons.mp z with z | z
  ·exact n1 z
  ·rcases List.mem_append.mp z with z | z
   ·exact n2 z
   ·exact n3 z
 ·cases q:h.get? T with
  | none=>exact .inr rfl
  | some o=>
   refine .inl ?_
   by_cases z:T∈x::(hs++frs l)
   ·rcases List.mem_cons.mp z with z | z
    ·exact absurd z hTe
    ·rcases List.mem_append.mp z with z | z
     ·exact z
     ·obtain ⟨_,o',ho',hnf⟩:=hl.mem z
      obtain ⟨sl,e2⟩:=slot T o' z ho'
      rw [hT]at e2
      cases e2
      exact absurd hdT (hnf ts)
   ·rw [PySem.W.hideAll_get _ q z]at hn;cases hn
end
section
variable {M:Model} {A:Around} {E:Value->Shared->Prop} {s:Shared} {base:Heap} {env:Env} {outer:List Env} {L x C T:Addr} {Q:Unit->Shared->Prop}
theorem ni {oe:Obj} {vs:Array Value} (hfr:A.frames=some (env::outer)) (hl:s.heap.FunFrames base (env::outer)) (hf:env.frame=some L) (he:s.heap.get? x=some oe) (hc:oe.cls=.ref C)
  (hd:oe.data=.fields vs) (h1:vs[1]? =some .none) (k: ∀ h',LeftF (env::outer) x C [] s.heap h'->Q () {s with heap:=h'}):wpAny M A (leaving env (.ref x)) Q E s:=
 wpAny_leaving_first (base:=PySem.W.hideAll s.heap (x::([]++frs (env::outer)))) hfr (di hl fun b hb=>PySem.W.hideAll_none _ (List.mem_cons_of_mem _ hb)) hf he (fun _ _ e=>PySem.W.of_hideAll _ e)
  (PySem.W.hideAll_none _ List.mem_cons_self) hd h1 fun h' z=>k h' (.of hl (hc▸z))
end
theorem ObjOk.there {P:Program} {w:World} {H:Hp} {h:Heap} {a:Addr} {o:HO} (x:ObjOk P w H h a o): ∃ ob,h.get? a=some ob:=by
 cases o with
 | lst xs=>obtain ⟨_,_,_,_,e⟩:=x;exact ⟨_,e⟩
 | tup xs=>obtain ⟨_,_,_,ob,e,_⟩:=x;exact ⟨_,e⟩
 | dK kvs=>obtain ⟨_,_,_,_,o,_,_,e,_⟩:=x;exact ⟨_,e⟩
 | set S n=>obtain ⟨o,_,_,_,e,_⟩:=x;exact ⟨_,e⟩
 | ins C dx fs=>obtain ⟨_,_,_,e,_⟩:=x;exact ⟨_,e⟩
 | own y=>exact x
 | xd fs=>obtain ⟨_,⟨_,_,_,e,_⟩,_⟩:=x;exact ⟨_,e⟩
 | rng lo hi=>obtain ⟨_,_,_,e⟩:=x;exact ⟨_,e⟩
 | frz ob u=>obtain ⟨e,_⟩:=x;exact ⟨_,e⟩
 | tbl ps=>exact ⟨_,show h.get? a=some _ from x⟩
 | met f y=>exact ⟨_,show h.get? a=some _ from x⟩
 | ext φ=>obtain ⟨_,e,_⟩:=x;exact e
 | _=>obtain ⟨_,_,_,_,o,_,_,e,_⟩:=x;exact ⟨_,e⟩
theorem HOk.none_of {P:Program} {w:World} {H:Hp} {h:Heap} {a:Addr} (x:HOk P w H h) (e:h.get? a=none):H a=none:=by
 cases q:H a with
 | none=>rfl
 | some u=>obtain ⟨ob,z⟩:=(x a u q).there;rw [e]at z;cases z
inductive CX1 (P:Program) (w:World) (C:Addr) (outer:List Env) (H:Hp) (s:Shared) (E:XK) (e:Value) (s':Shared):Prop
 | mk (x T:Addr) (H':Hp) (he:e=.ref x) (os:s'.os=s.os) (bare:AllBare s'.gens) (un:Un (frs outer) [] H H' s.heap s'.heap) (hok:HOk P w H' s'.heap)
   (rc:Rec s'.heap x C T) (nx:s.heap.get? x=none) (nT:s.heap.get? T=none) (fx:H' x=none) (fT:H' T=none) (q:E (.ref C) none H'):CX1 P w C outer H s E e s'
section
variable {P:Program} {w:World} {K:PySem.W.Frag} {mg:Str->Option Value} {base:Heap} {N:List Str} {qual:Str} {scope:Scope} {f:Addr} {cd:Value} {A:Around} {outer:List Env} {s:Shared} {H:Hp} {E:XK} {C:Addr}
theorem vw {CX:CXT} {pins:List (Addr×Obj)} {σ:St} {H1:Hp} {s1:Shared} {x:Addr} {hs:List Addr} {h':Heap} (J:Inv (cY CX P w K mg base N qual scope f cd A outer s H E) pins σ H1 s1)
  (fx:H1 x=none) (nx:s.heap.get? x=none) (hh: ∀ T∈hs,H1 T=none/\s.heap.get? T=none) (L:LeftF (envOfC qual scope s.heap.objs.size f cd::outer) x C hs s1.heap h') (q:E (.ref C) none H1):
  CX1 P w C outer H s E (.ref x) {s1 with heap:=h'}:=by
 obtain ⟨T,rc,hT⟩:=L.rc
 have B:Un (frs outer) [] H H1 s.heap s1.heap:=J.base
 have nx': ∀ b o,s.heap.get? b=some o->b≠x:=fun b o e z=>by rw [z,nx]at e;cases e
 have nh': ∀ b o,s.heap.get? b=some o->b∉hs:=fun b o e z=>by rw [(hh b z).2]at e;cases e
 have nfr: ∀ b o,s.heap.get? b=some o->b∉frs outer->b∉frs (envOfC qual scope s.heap.objs.size f cd::outer):=fun b o e nb z=>by
  rcases List.mem_cons.mp (J.stkSub b z)with z | z
  ·have:b<s.heap.objs.size:=Heap.lt_size e
   rw [show b=s.heap.objs.size from z]at this
   exact Nat.lt_irrefl _ this
  ·exact nb z
 refine .mk x T H1 rfl J.os J.bare ⟨fun b o e n hb hx=>?_,fun b o e n hb hx=>?_,B.free,fun b o e hx=>?_,B.tups,B.frzs,B.tbls⟩ (fun a o e=>?_) rc nx ?_ fx ?_ q
 ·exact L.keep b o (nx' b o e) (nh' b o e) (nfr b o e hb) (B.keep b o e n hb hx)
 ·obtain ⟨sl,e1⟩:=B.slot b o e n hb hx
  obtain ⟨sl',e2⟩:=L.slot b _ (gZ hb) e1
  exact ⟨sl',e2⟩
 ·obtain ⟨o1,e1⟩:=B.there b o e hx
  by_cases hb:b∈frs (envOfC qual scope s.heap.objs.size f cd::outer)
  ·obtain ⟨sl',e2⟩:=L.slot b _ hb e1
   exact ⟨_,e2⟩
  ·exact ⟨o1,L.keep b o1 (nx' b o e) (nh' b o e) hb e1⟩
 ·have tr: ∀ b u,H1 b=some u-> ∀ v,s1.heap.get? b=some v->h'.get? b=some v:=fun b u e1 v e2=>
   L.keep b v (fun z=>by rw [z,fx]at e1;cases e1) (fun z=>by rw [(hh b z).1]at e1;cases e1) (fun z=>by rw [J.stkFree b z]at e1;cases e1) e2
  refine (J.hok a o e).stay (fun b u hb e2=>?_) (fun _ z=>z) fun _ _ z=>z
  rcases hb with z | z
  ·rw [z]at e2 ⊢;exact tr a o e u e2
  ·exact tr b _ z u e2
 ·rcases hT with z | z
  ·exact (hh T z).2
  ·cases r:s.heap.get? T with
   | none=>rfl
   | some o=>obtain ⟨o1,e1⟩:=B.there T o r (by simp);rw [z]at e1;cases e1
 ·rcases hT with z | z
  ·exact (hh T z).1
  ·exact J.hok.none_of z
theorem rn {CX:CXT} {pins:List (Addr×Obj)} {σ:St} {H1:Hp} {s1:Shared} {x:Addr} {vs:List Value} {h':Heap} (I:Inv (cY CX P w K mg base N qual scope f cd A outer s H E) pins σ H1 s1)
  (m:s1.heap.MadeExcOf h' x (.ref C) vs) (q:E (.ref C) none H1) (hi: ∀ e s',CX1 P w C outer H s E e s'->CX outer H s E e s':=by exact fun _ _ z=>z):(cY CX P w K mg base N qual scope f cd A outer s H E).xe (.ref x) {s1 with heap:=h'}:=by
 have J:Inv (cY CX P w K mg base N qual scope f cd A outer s H E) pins σ H1 {s1 with heap:=h'}:=I.kept (t':=s1.toks) m.keeps
 obtain ⟨t,e,_,_⟩:=m.there
 have nx:s.heap.get? x=none:=by
  cases r:s.heap.get? x with
  | none=>rfl
  | some o=>obtain ⟨o1,e1⟩:=I.base.there x o r (by intro z;cases z);rw [m.new]at e1;cases e1
 exact ni (base:=base) J.ok.frames J.stack rfl e rfl rfl rfl fun h2 L=>hi _ _ (vw J (I.hok.none_of m.new) nx (fun _ z=>absurd z (by simp)) L q)
end
section
open PySem.W (excIn tailIn nsOkIn nsIn)
theorem vx {K:PySem.W.Frag} {h:Heap} {C:Addr} {bmB:List Value} {newId:String} (X:K.In h) (q:excIn K C bmB newId=true): ∃ bm N nm qn bs hd sn sub ab col dd k0 k1 k2 k3 k5 mN,
  h.get? C=some (excClassObj nm qn C N bs bm hd sn sub ab col dd k0 k1 k2 k3 k5 newId)/\(h.Ns N mN/\mN "__init__"=none)/\OwnTail h bmB bm:=by
 unfold excIn at q
 split at q
 case h_2=>cases q
 case h_1 dd c sl ho=>
  split at q
  case h_2=>cases q
  case h_1 C' bm k0 k1 k2 k3 n k5 hm hs=>
   rw [Bool.and_eq_true,Bool.and_eq_true,Bool.and_eq_true,Bool.and_eq_true,Bool.and_eq_true]at q
   obtain ⟨⟨⟨⟨⟨q1,q2⟩,q3⟩,q4⟩,q5⟩,q6⟩:=q
   have e1:C'=C:=beq_iff_eq.mp q1
   have e2:n=newId:=beq_iff_eq.mp q2
   have e3:c.hasDel=false:=by rw [Bool.not_eq_true']at q3;exact q3
   have hob:=X _ _ ho
   have hsl:sl= #[k0,k1,k2,k3,some (.builtin n),k5]:=Array.toList_inj.mp hs
   have hcd:c={name:=c.name,bases:=c.bases,mro:=.ref C::bm,ns:=c.ns,qualname:=c.qualname,hasDict:=c.hasDict,slotNames:=c.slotNames,subclasses:=c.subclasses,abstract:=c.abstract,collection:=c.collection,hasDel:=false}:=by
    rw [<- e3,<- e1,<- hm]
   rw [hsl,hcd,e2]at hob
   exact ⟨bm,_,_,_,_,_,_,_,_,_,_,_,_,_,_,_,_,hob,⟨Heap.Ns.of_isNs (PySem.W.isNs_of_in X q5),PySem.W.nsMap_none_of_in X q5 (beq_iff_eq.mp q6)⟩,PySem.W.tail_of_in X q4⟩
variable {X:Cx} {C:Addr} {x:Str} {np cpos pos:Pos} {e:Expr} {es:List Expr} {t:TA} {E:XK} {bmB:List Value} {newId initId:String}
noncomputable def vZ (C:Addr) (E:XK) (t:TA):TS:=fun _ σ H=>t σ H fun vs H1=>vs.length<=sizeLine/\E (.ref C) none H1
theorem qC {B:String} (hc:X.calm=true) (hg:Gl X x) (hm:X.mg x=some (.ref C)) (q:excIn X.K C bmB newId=true) (FB:ExcBaseFacts B newId initId bmB)
  (hx: ∀ (pins:List (Addr×Obj)) (σ:St) (H:Hp) (s:Shared) (h':Heap) (y:Addr) (vs:List Value),Inv X pins σ H s->s.heap.MadeExcOf h' y (.ref C) vs->E (.ref C) none H->X.xe (.ref y) {s with heap:=h'})
  (ha:PA X (e::es) t) (hdb:(x==("__debug__":Str))=false:=by decide) (he:starEach (e::es) X.env=(false,eval e X.env)::starEach es X.env:=by rfl) (hpl:(backTo cpos (starEach es X.env)).any (·.1)=false:=by rfl):
  PS X (.Raise (some (.Call (.Name x np) (e::es) [] cpos)) none pos) (vZ C E t):=by
 intro pins s σ H D I h
 obtain ⟨bm,N,nm,qn,bs,hd,sn,sub,ab,col,dd,k0,k1,k2,k3,k5,mN,hC,⟨hN,hni⟩,T⟩:=vx I.ok.mod.kin q
 refine wpAny_Raise_call_subT (nm:=nm) (q:=qn) (N:=N) (bs:=bs) (bm:=bm) (hdct:=hd) (sn:=sn) (sub:=sub) (ab:=ab) (col:=col) (dd:=dd) (k0:=k0) (k1:=k1) (k2:=k2) (k3:=k3) (k5:=k5) FB (mN:=mN)
  (T.hasType FB.hasBase) (I.ok.hd hc) ?_ hni (eL I hg hm ⟨rfl,?_⟩ hdb)
 ·rw [he];exact hpl
 have hp:=ha cpos pins s σ H _ I h
 rw [he]at hp ⊢
 refine Calls.evalArgs_plain (thn hp fun us s1 ⟨vs,H1,I1,r,z,w⟩=>?_)
 exact ⟨rfl,by rw [<- r.length];exact z,I1.bk _ _ hC,hN.keeps I1.bk,T.keeps I1.bk,fun h' y m=>hx pins σ H1 s1 h' y us I1 m w⟩
end
open PySem.W (findIn specialIn takesIn mroIn clsIn Looks)
noncomputable def ExAt (x C:Addr) (h:Heap):Prop:= ∃ oe vs,h.get? x=some oe/\oe.cls=.ref C/\oe.data=.fields vs
noncomputable def ExO (x C:Addr):HO:=.ext (ExAt x C)
theorem ExAt.type {M:Model} {h:Heap} {x C:Addr} (p:ExAt x C h):Looks M h (typeOf (.ref x)) (.ref C):=by
 obtain ⟨oe,_,e,c,_⟩:=p
 exact c▸(Looks.ld e).andThen .now
structure ExC (K:PySem.W.Frag) (C:Addr):Prop where
 ga:findIn K (.ref C) "__getattribute__"=some (some (.builtin "BaseException.__getattribute__"))
 gno:findIn K (.ref C) "__getattr__"=some none
 cls:findIn K (.ref C) "__class__"=some (some (.builtin "object.__class__"))
 get:specialIn K (.builtin "object.__class__") "__get__"=some (some (.builtin "getset_descriptor.__get__"))
 tk:takesIn K (.builtin "object.__class__")=some true
 ob:mroIn K C (.type "object")=some true
 ba:mroIn K C (.type "BaseException")=some true
 is:(clsIn K C).isSome=true
section
variable {prog:Program} {w:World} {A:Around} {E:Value->Shared->Prop} {K:PySem.W.Frag} {x C:Addr}
open PySem.Builtin PySem.Builtin.ObjectAttr PySem.Builtin.Getset_descriptor PySem.W
theorem vy {M:Model} {h:Heap} (X:K.In h) (Z:ExC K C):Looks M h (find (.ref x) (.ref C) "__class__") (.bind (.builtin "getset_descriptor.__get__") (.builtin "object.__class__")):=
 (looks_findIn X Z.cls).andThen ((show Looks M h (getOf (some (.builtin "object.__class__"))) (some (.builtin "getset_descriptor.__get__"))from looks_specialIn X Z.get).andThen
  ((show Looks M h (dataDescriptor? (some (.builtin "object.__class__")) (some (.builtin "getset_descriptor.__get__"))) (some (.builtin "getset_descriptor.__get__",.builtin "object.__class__"))from (looks_takesIn X Z.tk).andThen .now).andThen (Looks.tag .now)))
theorem lT {s:Shared} {tp:Value} {R:Result->Shared->Prop} (X:K.In s.heap) (Z:ExC K C) (p:ExAt x C s.heap) (h:R (.ok (.ret (.ref C))) s):
  codeAny (model prog w) A (.call (.builtin "getset_descriptor.__get__") ⟨[.builtin "object.__class__",.ref x,tp],[]⟩) R s:=by
 obtain ⟨hh,g,dr,t,os⟩:=s
 have L0:=p.type (M:=model prog w)
 have L1:=looks_mroIn (M:=model prog w) X Z.ob
 refine codeAny_call_builtin KF.slot_gs.plain KF.entry_gs (KF.slot_gs.check _ _ _ _ _ _ _ _ KF.type_class (KF.args_gs _ _ _) ?_)
 unfold Builtin.«getset_descriptor.__get__» descrGet
 rw [dga_obj]
 refine wpAny_bind (wpAny_pure ?_)
 unfold descrGetter descrCheckInstance descrNameAndClass isInstance
 simp only [KF.owner_class]
 repeat lk
 refine ⟨Code.quiet_builtin _ (by decide +kernel),codeAny_builtin KF.entry_class ?_⟩
 unfold Builtin.«object.__class__» shownTypeOf
 repeat lk
 exact h
theorem uj {s:Shared} {tk:Tok} {Q:Fin->Shared->Prop} (X:K.In s.heap) (Z:ExC K C) (p:ExAt x C s.heap) (h:Q (.done (.ret (.ref C))) s):
  wpAny (model prog w) A (Builtin.«object.__getattribute__» ⟨[.ref x,.str "__class__" tk],[]⟩) Q E s:=by
 obtain ⟨hh,g,dr,t,os⟩:=s
 have L0:=p.type (M:=model prog w)
 have L1:=vy (M:=model prog w) (x:=x) X Z
 unfold Builtin.«object.__getattribute__»
 refine wpAny_bind (wpAny_pure ?_)
 refine wpAny_bind (wpAny_pure ?_)
 refine wpAny_bind (L0.at ?_)
 refine wpAny_bind (L1.at ?_)
 show wpAny _ _ (bindTo _ _ _ _) _ _ _
 unfold bindTo
 refine wpAny_bind (wpAny_holding (wpAny_call (lT X Z p (wpAny_pure h))))
theorem xY {s:Shared} {tk:Tok} {R:Result->Shared->Prop} (X:K.In s.heap) (Z:ExC K C) (p:ExAt x C s.heap) (h:R (.ok (.ret (.ref C))) s):
  codeAny (model prog w) A (.call (.builtin "BaseException.__getattribute__") ⟨[.ref x,.str "__class__" tk],[]⟩) R s:=by
 refine codeAny_call_builtin PySem.F.attr_ValueError.ga.plain PySem.F.entry_bexc_ga ?_
 have L0:=p.type (M:=model prog w)
 have L2:Looks (model prog w) s.heap (isInstance (.ref x) (.type "BaseException")) true:=L0.andThen (looks_mroIn X Z.ba)
 have hk:builtinKind "BaseException.__getattribute__"=some .slot:=by decide +kernel
 have hsp:splitId "BaseException.__getattribute__"=some ("BaseException","__getattribute__"):=by decide +kernel
 have ha:=PySem.F.args_bexc_ga (.ref x) (.str "__class__" tk)
 simp only [checkBuiltinCall,hk,hsp]
 refine wpAny_bind (L2.at ?_)
 rw [if_neg (by decide)]
 repeat (first | exact uj X Z p h | wp_step)
theorem oO {s:Shared} {Q:Option Value->Shared->Prop} (X:K.In s.heap) (Z:ExC K C) (p:ExAt x C s.heap) (h:Q (some (.ref C)) {s with toks:=s.toks+1}):wpAny (model prog w) A (getAttr? (.ref x) "__class__") Q E s:=by
 obtain ⟨hh,g,d,t,os⟩:=s
 have L0:=p.type (M:=model prog w)
 have L1:=looks_findIn (M:=model prog w) X Z.ga
 have L2:Looks (model prog w) hh (typeLookup (.ref C) "__getattr__") none:=looks_findIn X Z.gno
 unfold getAttr? getAttrBy? getAttrBy
 refine wpAny_bind (wpAny_mkText (wpAny_bind (wpAny_attempt (wpAny_holding (wpAny_bind (L0.at (wpAny_bind (L1.at ?_))))))))
 have hn0:(Value.builtin "BaseException.__getattribute__"==Value.builtin "object.__getattribute__")=false:=by decide +kernel
 have hne:(onTheHeap (Value.ref C)&&Value.builtin "BaseException.__getattribute__"==Value.builtin "object.__getattribute__")=false:=by rw [hn0];rfl
 simp only [hne]
 rw [if_neg (by decide)]
 unfold getAttrByItsOwn hookBefore callGetattribute boundAndCalled
 rw [if_pos (show onTheHeap (Value.ref C)=true from rfl)]
 refine wpAny_bind (Looks.at (h:=hh) L2 (wpAny_bind (wpAny_attempt (wpAny_holding ?_))))
 rw [if_neg (by decide),PySem.F.attr_ValueError.ga.bind (.ref x)]
 exact wpAny_bind (wpAny_pure (wpAny_call (xY (s:=⟨hh,g,d,t+1,os⟩) X Z p (wpAny_pure (wpAny_pure h)))))
theorem jF {M:Model} {h:Heap} (X:K.In h) (e:(clsIn K C).isSome=true):Looks M h (isType (.ref C)) true:=by
 unfold clsIn at e
 split at e
 case h_1 c' d' cd' sl' ho=>
  intro A' Q' E' s' k q
  unfold isType loadHead
  exact wpAny_bind (wpAny_loadPart (k _ _ (X _ _ ho)) (wpAny_pure q))
 case h_2=>cases e
theorem nj (Z:ExC K C):KitX K (.ref x) (.ref C) (ExAt x C) where
 ty:=fun _ _ _ p=>p.type
 it:=fun _ _ X _=>jF X Z.is
 ne:=fun h tp dd its n sl X htp=>by
  have e:=Z.is
  refine Bool.eq_false_iff.mpr fun q=>?_
  have e2:C=tp:=Value.ref.inj (beq_iff_eq.mp q)
  subst e2
  unfold clsIn at e
  split at e
  case h_1 ho=>cases (X _ _ ho).symm.trans htp
  case h_2=>cases e
 ca:=fun X p k=>oO X Z p k
theorem rq {M:Model} {s:Shared} {CB:Addr} {Q:Bool->Shared->Prop} (X:K.In s.heap) (p:ExAt x C s.heap) (m1:mroIn K C (.ref CB)=some true) (m2:mroIn K CB (.type "BaseException")=some true)
  (ty:typeIn K (.ref CB)=some (.type "type")) (is:(clsIn K CB).isSome=true) (hq:Q true s):wpAny M A (excMatches (.ref x) (.ref CB)) Q E s:=by
 obtain ⟨h,g,d,t,os⟩:=s
 have L0:=p.type (M:=M)
 have L1:Looks M h (isInstance (.ref CB) (.type "tuple")) false:=(looks_typeIn X ty).andThen (Looks.of_pure tc_notTuple)
 have L2:Looks M h (isExcClass (.ref CB)) true:=(jF X is).andThen (looks_mroIn X m2)
 have L3:=looks_mroIn (M:=M) X m1
 unfold excMatches
 refine wpAny_bind (L1.at ?_)
 simp only [Bool.false_eq_true,if_false]
 refine wpAny_bind (wpAny_pure ?_)
 rw [List.forIn_cons]
 refine wpAny_bind (wpAny_bind (wpAny_bind (L2.at ?_)))
 simp only [Bool.not_true,Bool.false_eq_true,if_false]
 refine wpAny_pure ?_
 show wpAny _ _ (forIn [] _ _) _ _ _
 rw [List.forIn_nil]
 refine wpAny_pure (wpAny_bind (L0.at ?_))
 rw [List.forIn_cons]
 refine wpAny_bind (wpAny_bind (wpAny_bind (L3.at ?_)))
 simp only [if_true]
 exact wpAny_pure (wpAny_pure (wpAny_pure hq))
end
section
variable {X:Cx}
theorem nE:dE X (.builtin "isinstance") (fun xs H Q=> ∃ x C y c b,xs=[.ref x,y]/\H x=some (ExO x C)/\ExC X.K C/\(∀ u,RelV y u->u=c)/\PySem.W.kitOne X.K (.ref C) c=some b/\Q (.bl b) H):=by
 intro pins s σ H xs us Q I r h
 obtain ⟨x,C,y,c,b,rfl,hx,Z,rc,e,q⟩:=h
 obtain ⟨u,w',rfl,ru,rw'⟩:=eY r
 cases (show u=Value.ref x from ru)
 cases rc w' rw'
 have p:ExAt x C s.heap:=(show ObjOk X.prog X.w H s.heap x (ExO x C)from I.hok x _ hx).1
 exact PySem.W.kia_one (nj Z) I.kIn p e (fun z=>nomatch z) fun tk=>⟨.bl b,H,I.tok tk,rfl,q⟩
theorem rG:dE X (.builtin "isinstance") (fun xs H Q=> ∃ (x C p:Addr) (Ds:List Addr) (b:Bool),xs=[.ref x,.ref p]/\H x=some (ExO x C)/\ExC X.K C/\H p=some (.tup (Ds.map V.ref))/\PySem.W.kitAny X.K (.ref C) (Ds.map Value.ref)=some b/\Q (.bl b) H):=by
 intro pins s σ H xs us Q I r h
 obtain ⟨x,C,p,Ds,b,rfl,hx,Z,hp,e,q⟩:=h
 obtain ⟨u,w',rfl,ru,rw'⟩:=eY r
 cases (show u=Value.ref x from ru)
 cases (show w'=Value.ref p from rw')
 have pe:ExAt x C s.heap:=(show ObjOk X.prog X.w H s.heap x (ExO x C)from I.hok x _ hx).1
 obtain ⟨_,its,rv,o,h1,h2,n,h3⟩:=(show ObjOk X.prog X.w H s.heap p (.tup (Ds.map V.ref))from I.hok p _ hp)
 have all: ∀ (l:List Addr) (us:List Value),Vals (l.map V.ref) us->us=l.map Value.ref:=by
  intro l
  induction l with
  | nil=>intro us r;cases r;rfl
  | cons a l ih=>intro us r;cases r with | cons r1 r2=>rw [show _=Value.ref a from r1,ih _ r2];rfl
 cases all Ds its rv
 obtain ⟨c,d,dt,sl⟩:=o
 simp only at h2 h3
 subst h2 h3
 exact PySem.W.kia_tup (nj Z) I.kIn pe h1 e (fun z=>nomatch z) fun tk=>⟨.bl b,H,I.tok tk,rfl,q⟩
end
open PySem.W (findIn specialIn takesIn mroIn clsIn typeIn Looks)
structure Fl (P:Program) (w:World) (C:Addr) (stack:List Env) (H:Hp) (h₀:Heap) (x T:Addr) (H':Hp) (h:Heap):Prop where
 un:Un (frs stack) [] H H' h₀ h
 hok:HOk P w H' h
 rc:Rec h x C T
 nx:h₀.get? x=none
 nT:h₀.get? T=none
 fx:H' x=none
 fT:H' T=none
section
variable {P:Program} {w:World} {C:Addr} {stack:List Env} {H H':Hp} {h₀ h h' base:Heap} {x T:Addr}
theorem Fl.left (F:Fl P w C stack H h₀ x T H' h) (fr: ∀ b∈frs stack,H' b=none) (L:LeftF stack x C [T] h h'): ∃ T',Fl P w C stack H h₀ x T' H' h':=by
 obtain ⟨T',rc,hT⟩:=L.rc
 have nx': ∀ b o,h₀.get? b=some o->b≠x:=fun b o e z=>by rw [z,F.nx]at e;cases e
 have nT': ∀ b o,h₀.get? b=some o->b∉[T]:=fun b o e z=>by rw [List.mem_singleton.mp z,F.nT]at e;cases e
 refine ⟨T',⟨fun b o e n hb hx=>?_,fun b o e n hb hx=>?_,F.un.free,fun b o e hx=>?_,F.un.tups,F.un.frzs,F.un.tbls⟩,fun a o e=>?_,rc,F.nx,?_,F.fx,?_⟩
 ·exact L.keep b o (nx' b o e) (nT' b o e) hb (F.un.keep b o e n hb hx)
 ·obtain ⟨sl,e1⟩:=F.un.slot b o e n hb hx
  obtain ⟨sl',e2⟩:=L.slot b _ hb e1
  exact ⟨sl',e2⟩
 ·obtain ⟨o1,e1⟩:=F.un.there b o e hx
  by_cases hb:b∈frs stack
  ·obtain ⟨sl',e2⟩:=L.slot b _ hb e1
   exact ⟨_,e2⟩
  ·exact ⟨o1,L.keep b o1 (nx' b o e) (nT' b o e) hb e1⟩
 ·have tr: ∀ b u,H' b=some u-> ∀ v,h.get? b=some v->h'.get? b=some v:=fun b u e1 v e2=>
   L.keep b v (fun z=>by rw [z,F.fx]at e1;cases e1) (fun z=>by rw [List.mem_singleton.mp z,F.fT]at e1;cases e1) (fun z=>by rw [fr b z]at e1;cases e1) e2
  refine (F.hok a o e).stay (fun b u hb e2=>?_) (fun _ z=>z) fun _ _ z=>z
  rcases hb with z | z
  ·rw [z]at e2 ⊢;exact tr a o e u e2
  ·exact tr b _ z u e2
 ·rcases hT with z | z
  ·rw [List.mem_singleton.mp z];exact F.nT
  ·cases r:h₀.get? T' with
   | none=>rfl
   | some o=>obtain ⟨o1,e1⟩:=F.un.there T' o r (by simp);rw [z]at e1;cases e1
 ·rcases hT with z | z
  ·rw [List.mem_singleton.mp z];exact F.fT
  ·exact F.hok.none_of z
theorem Fl.track (F:Fl P w C stack H h₀ x T H' h):Un (frs stack) [] H (upd H' x (ExO x C)) h₀ h/\HOk P w (upd H' x (ExO x C)) h:=by
 have ne: ∀ b o,h₀.get? b=some o->b≠x:=fun b o e z=>by rw [z,F.nx]at e;cases e
 have nt: ∀ b u,H' b=some u->b≠x:=fun b u e z=>by rw [z,F.fx]at e;cases e
 refine ⟨⟨F.un.keep,F.un.slot,fun b o e n hx=>?_,F.un.there,fun b xs e=>?_,fun b o u e=>?_,fun b ps e=>?_⟩,fun a o e=>?_⟩
 ·rw [al (ne b o e)];exact F.un.free b o e n hx
 ·rw [al (nt _ _ (F.un.tups b xs e))];exact F.un.tups b xs e
 ·rw [al (nt _ _ (F.un.frzs b o u e))];exact F.un.frzs b o u e
 ·obtain ⟨m,e1⟩:=F.un.tbls b ps e
  exact ⟨m,by rw [al (nt _ _ e1)];exact e1⟩
 ·by_cases z:a=x
  ·subst z
   rw [ac]at e
   cases e
   obtain ⟨oe,vs,oT,ts,he,hc,hd,_,_,_,_,_⟩:=F.rc
   exact ⟨⟨oe,vs,he,hc,hd⟩,⟨oe,he⟩,fun h1 h2 ⟨o1,v1,a1,a2,a3⟩ k=>⟨o1,v1,k o1 a1,a2,a3⟩⟩
  ·rw [al z]at e
   exact (F.hok a o e).stay (fun b u _ q=>q) (fun b q=>by rw [al (nt _ _ q)];exact q) fun b xs q=>by rw [al (nt _ _ q)];exact q
end
theorem Rec.traced {h G:Heap} {x C T:Addr} (r:Rec h x C T) (hG:G.get? T=none): ∃ a0,h.TracedW G x (.ref C) a0:=by
 obtain ⟨oe,vs,oT,ts,he,hc,hd,h1,ne,hT,hdT,h3⟩:=r
 have hsz:1<vs.size:=(Array.getElem?_eq_some_iff.mp h1).1
 exact ⟨vs[0],oe,vs,T,oT,ts,he,⟨hc,by simp [Nat.lt_trans Nat.zero_lt_one hsz]⟩,hd,h1,hG,ne,hT,hdT,h3⟩
section
variable {M:Model} {A:Around} {E:Value->Shared->Prop} {s:Shared} {base:Heap} {env:Env} {outer:List Env} {L x C T:Addr}
theorem qS {Q:Unit->Shared->Prop} (hfr:A.frames=some (env::outer)) (hl:s.heap.FunFrames base (env::outer)) (hf:env.frame=some L) (r:Rec s.heap x C T)
  (k: ∀ h',LeftF (env::outer) x C [T] s.heap h'->Q () {s with heap:=h'}):
  wpAny M A (noteFrame (.ref x) env) (fun _ s₂=>wpAny M A (setFlight (.ref x) none) Q E s₂) E s:=by
 have gone: ∀ b,b∈x::([T]++frs (env::outer))->(PySem.W.hideAll s.heap (x::([T]++frs (env::outer)))).get? b=none:=fun b hb=>PySem.W.hideAll_none _ hb
 obtain ⟨a0,tr⟩:=r.traced (G:=PySem.W.hideAll s.heap (x::([T]++frs (env::outer)))) (gone T (List.mem_cons_of_mem _ (by simp)))
 refine wpAny_noteFrame_onW hfr (di hl fun b hb=>gone b (List.mem_cons_of_mem _ (List.mem_append_right _ hb))) hf tr (fun _ _ e=>PySem.W.of_hideAll _ e) (gone x List.mem_cons_self) fun h2 N2=>?_
 obtain ⟨n1,n2,n3,n4⟩:=N2
 refine wpAny_setFlight_noneW (s:={s with heap:=h2}) n1 n2 n3 fun h3 m1 m2 m3 m4=>k h3 (.of hl ⟨m1,m2,?_,fun b o e nf=>?_⟩)
 ·obtain ⟨oe,vs,T2,oT,ts,he,⟨hc,_⟩,hd,h1,hn,hTe,hT,hdT,h3⟩:=m3
  exact ⟨oe,vs,T2,oT,ts,he,hc,hd,h1,hn,hTe,hT,hdT,h3⟩
 ·obtain ⟨sl,e2⟩:=n4 b o e nf
  exact ⟨sl,m4 b _ e2 nf⟩
theorem sk {Q:Unit->Shared->Prop} (hl:s.heap.FunFrames base (env::outer)) (r:Rec s.heap x C T) (k: ∀ h',LeftF (env::outer) x C [T] s.heap h'->Q () {s with heap:=h'}):
  wpAny M A (setFlight (.ref x) none) Q E s:=by
 have gone: ∀ b,b∈x::([T]++frs (env::outer))->(PySem.W.hideAll s.heap (x::([T]++frs (env::outer)))).get? b=none:=fun b hb=>PySem.W.hideAll_none _ hb
 obtain ⟨a0,tr⟩:=r.traced (G:=PySem.W.hideAll s.heap (x::([T]++frs (env::outer)))) (gone T (List.mem_cons_of_mem _ (by simp)))
 refine wpAny_setFlight_noneW (fun _ _ e=>PySem.W.of_hideAll _ e) (di hl fun b hb=>gone b (List.mem_cons_of_mem _ (List.mem_append_right _ hb))) tr fun h3 m1 m2 m3 m4=>k h3 (.of hl ⟨m1,m2,?_,fun b o e nf=>⟨o.slots,m4 b _ e nf⟩⟩)
 obtain ⟨oe,vs,T2,oT,ts,he,⟨hc,_⟩,hd,h1,hn,hTe,hT,hdT,h3⟩:=m3
 exact ⟨oe,vs,T2,oT,ts,he,hc,hd,h1,hn,hTe,hT,hdT,h3⟩
end
open PySem.W (findIn specialIn takesIn mroIn clsIn typeIn Looks)
noncomputable def Cx.marked (X:Cx) (e:Value):Cx:={X with A:=X.A.mark (some e),calm:=false,xe:=fun _ _=>False}
section
variable {X:Cx} {pins:List (Addr×Obj)} {σ:St} {H:Hp} {s:Shared} {e:Value}
theorem Inv.mark (I:Inv X pins σ H s) (e:Value):Inv (X.marked e) pins σ H s:=
 ⟨⟨I.ok.mod,I.ok.kind,I.ok.glob,I.ok.blt,I.ok.above,I.ok.inj,I.ok.has,I.ok.cab,fun h=>Bool.noConfusion (show false=true from h),I.ok.frames,I.ok.stk,I.ok.exf,I.ok.bs,I.ok.bsz,I.ok.noex,I.ok.exfs,I.ok.funs,I.ok.frf⟩,
  I.os,I.bare,I.base,I.loc,I.cell,I.free,I.freeC,I.pin,I.hok,I.len⟩
theorem Inv.unmark (ok:X.Ok) (I:Inv (X.marked e) pins σ H s):Inv X pins σ H s:=⟨ok,I.os,I.bare,I.base,I.loc,I.cell,I.free,I.freeC,I.pin,I.hok,I.len⟩
theorem qk {M:Model} {A:Around} {E:Value->Shared->Prop} {i:Nat} {n:Str} {pos:Pos} {Q:Unit->Shared->Prop} (I:Inv X pins σ H s) (hN:X.N.Nodup) (hi:X.N[i]? =some n) (hk:X.env.scope.names.lookup n=some .local)
  (h: ∀ s',Inv X pins (σ.set i none) H s'->Q () s'):wpAny M A (do bindName X.env n .none;unbindBehindTheSuite X.env n pos) Q E s:=by
 have hcls:(X.env.scope.kind== .class||(X.env.scope.kind== .module&&X.env.locals !=X.env.globals))=false:=by rw [I.ok.kind];rfl
 have hiσ:i<σ.length:=by rw [I.len];exact (List.getElem?_eq_some_iff.mp hi).1
 refine wpAny_bind (wpAny_bindName (cX I hN hi (.inl hk) (v:=.non) rfl (fun s1 I1=>?_) (.inr hk)))
 unfold unbindBehindTheSuite
 refine wpAny_onRaise ?_
 obtain ⟨m,hn,hl⟩:=id I1.loc
 obtain ⟨u,_,lk⟩:=hl i n .non hi (by rw [List.getElem?_set_self hiσ]) (.inl hk)
 have hv:m n=some u:=by
  rcases lk with ⟨_,z⟩ | ⟨z,_⟩
  ·exact z
  ·have z:X.env.scope.names.lookup n=some .cell\/X.env.scope.names.lookup n=some .free:=z
   rw [hk]at z
   rcases z with z | z <;> cases z
 refine wpAny_unbindName_local hk hn hv hcls fun h' u' hn' hs=>?_
 have ne: ∀ b o,X.s₀.heap.get? b=some o->b≠X.env.locals:=fun b o e=>Nat.ne_of_lt (Nat.lt_of_lt_of_le (Heap.lt_size e) I.ok.above)
 have cne:=I1.cne
 refine h _ ⟨I.ok,I1.os,I1.bare,⟨fun b o e n hb hx=>(hs.2 b (ne b o e)).trans (I1.base.keep b o e n hb hx),fun b o e n hb hx=>?_,I1.base.free,fun b o e hx=>?_,I1.base.tups,I1.base.frzs,I1.base.tbls⟩,
  ⟨_,hn',fun j y v' e1 e2 e3=>?_⟩,fun y c e=>?_,I1.free,I1.freeC,fun p hp=>?_,fun b o e=>?_,by simpa using I.len⟩
 ·obtain ⟨sl,e1⟩:=I1.base.slot b o e n hb hx
  exact ⟨sl,(hs.2 b (ne b o e)).trans e1⟩
 ·obtain ⟨o',e1⟩:=I1.base.there b o e hx
  exact ⟨o',(hs.2 b (ne b o e)).trans e1⟩
 ·by_cases hj:j=i
  ·subst hj
   rw [List.getElem?_set_self hiσ]at e2
   cases e2
  ·have e4:(σ.set i (some V.non))[j]? =some (some v'):=by
    rw [List.getElem?_set_ne (Ne.symm hj)]at e2 ⊢;exact e2
   obtain ⟨u',r',q⟩:=hl j y v' e1 e4 e3
   refine ⟨u',r',?_⟩
   rcases q with ⟨k,e⟩ | ⟨k,c,e,z⟩
   ·refine .inl ⟨k,?_⟩
    have:y≠n:=fun e=>hj (fB hN e1 (e▸hi))
    simp [this,e]
   ·exact .inr ⟨k,c,e,z.sameBut hs (cne y c e)⟩
 ·obtain ⟨w',z⟩:=I1.cell y c e
  exact ⟨w',z.sameBut hs (cne y c e)⟩
 ·obtain ⟨e,n,ne,nf,d⟩:=I1.pin p hp
  exact ⟨(hs.2 p.1 ne).trans e,n,ne,nf,d⟩
 ·refine (I1.hok b o e).stay (fun c w' hc q=>(hs.2 c ?_).trans q) (fun _ q=>q) fun _ _ q=>q
  rintro rfl
  have fr:=I1.free
  rcases hc with rfl | hc
  ·rw [fr]at e;cases e
  ·rw [fr]at hc;cases hc
end
structure CaC (K:PySem.W.Frag) (C CB:Addr):Prop where
 m1:mroIn K C (.ref CB)=some true
 m2:mroIn K CB (.type "BaseException")=some true
 ty:typeIn K (.ref CB)=some (.type "type")
 is:(clsIn K CB).isSome=true
section
variable {X:Cx}
theorem vp {pins:List (Addr×Obj)} {σ:St} {H H':Hp} {s s1:Shared} {C CB x T:Addr} {D:eR} {cb n:Str} {np hp:Pos} {b₀:Stmt} {suite:List Stmt} {rest:List ExceptHandler} {i:Nat} {ts:TS}
  (I:Inv X pins σ H s) (F:Fl X.prog X.w C X.stack H s.heap x T H' s1.heap) (os:s1.os=s.os) (bare:AllBare s1.gens) (hst:X.stack=X.env::X.outer) (hfr:X.env.frame=some X.env.locals)
  (hN:X.N.Nodup) (hi:X.N[i]? =some n) (hk:X.env.scope.names.lookup n=some .local) (hg:Gl X cb) (hm:X.mg cb=some (.ref CB)) (Z:CaC X.K C CB)
  (hs:PSs (X.marked (.ref x)) (b₀::suite) ts) (q:ts {nx:=fun σ' H3=>D.nx (σ'.set i none) H3,rt:=fun _ _=>False} (σ.set i (some (.ref x))) (upd H' x (ExO x C))) (hd:(cb==("__debug__":Str))=false:=by decide):
  wpAny (model X.prog X.w) X.A (noteFrame (.ref x) X.env) (fun _ s₂=>wpAny (model X.prog X.w) X.A (setFlight (.ref x) none) (fun _ s₃=>
   wpAny (model X.prog X.w) X.A (handleBy (.ref x) X.env (.ExceptHandler (some (.Name cb np)) (some n) (b₀::suite) hp::rest)) (SP X pins D) X.xe s₃) X.xe s₂) X.xe s1:=by
 have fr: ∀ b∈frs X.stack,H' b=none:=fun b hb=>by
  obtain ⟨_,o,e,_⟩:=I.stack.mem hb
  exact F.un.free b o e (I.stkFree b hb) (by simp)
 have nil: ∀ b∈([]:List Addr),(b∈X.ex\/X.s₀.heap.objs.size<=b)/\b≠X.env.locals/\(∀ x c,X.env.cells.lookup x=some c->c≠b)/\ ∀ p∈X.pn++pins,p.1≠b:=fun b z=>absurd z (by simp)
 have J1:Inv X pins σ H' s1:=I.call' (ch:=[]) os F.un F.hok bare nil
 have hff:=J1.ok.frames
 have hfs:=J1.stack
 rw [hst]at hff hfs
 refine qS (base:=X.base) hff hfs hfr F.rc fun h3 L3=>?_
 rw [<- hst]at L3
 obtain ⟨T3,F3⟩:=F.left fr L3
 have J3:Inv X pins σ H' {s1 with heap:=h3}:=I.call' (ch:=[]) os F3.un F3.hok bare nil
 have p3:ExAt x C h3:=by obtain ⟨oe,vs,oT,ts,he,hc,hd,_,_,_,_,_⟩:=F3.rc;exact ⟨oe,vs,he,hc,hd⟩
 refine wpAny_handleBy_cons (codeAny_handlers_test (eL (X:=X.marked (.ref x)) (J3.mark (.ref x)) hg hm ?_ hd)) (by intro q;cases q)
 refine rq J3.kIn p3 Z.m1 Z.m2 Z.ty Z.is (codeAny_handlers_suite_as ?_)
 have hfs3:=J3.stack
 rw [hst]at hfs3
 refine sk (base:=X.base) hfs3 F3.rc fun h4 L4=>?_
 rw [<- hst]at L4
 obtain ⟨T4,F4⟩:=F3.left fr L4
 obtain ⟨un4,hok4⟩:=F4.track
 have J4:Inv X pins σ (upd H' x (ExO x C)) {s1 with heap:=h4}:=I.call' (ch:=[]) os un4 hok4 bare nil
 refine cX (v:=.ref x) J4 hN hi (.inl hk) rfl (fun s5 J5=>?_) (.inr hk)
 refine wpAny_mono (hs pins s5 _ _ _ (J5.mark (.ref x)) q) (fun f s6 z=>?_) fun _ _ z=>False.elim z
 cases f with
 | next=>
  obtain ⟨σ6,H6,I6,q6⟩:=z
  exact qk (I6.unmark J5.ok) hN hi hk fun s7 I7=>⟨_,_,I7,q6⟩
 | ret v=>obtain ⟨_,_,_,_,_,z⟩:=z;exact False.elim z
 | brk=>obtain ⟨_,_,_,z⟩:=z;exact False.elim z
 | cont=>obtain ⟨_,_,_,z⟩:=z;exact False.elim z
noncomputable def yj (sp:Sp) (C:Addr) (t:TA) (j i:Nat) (ts:TS):TS:=fun D σ H=>t σ H fun vs H1=>sp vs H1 (fun v H2=>D.nx (σ.set j (some v)) H2) fun _ _ H2=> ∀ x,H2 x=none->
 ts {nx:=fun σ' H3=>D.nx (σ'.set i none) H3,rt:=fun _ _=>False} (σ.set i (some (.ref x))) (upd H2 x (ExO x C))
end
end L2
namespace HT
open PySem PyProof.Rows
open PySem.AutoSeq1 (wpAny_loadPart')
section
variable {prog:Program} {w:World} {A:Around} {s:Shared} {E:Value->Shared->Prop}
noncomputable def eO (it:Addr):Obj:={cls:=.type "enumerate",data:=.fields #[.none,.bool false,.ref it,rawInt 0,.none,.none]}
theorem rA (l:Addr) (o:Obj) (items:Array Value):Meets (Builtin.«enumerate.__new__» ⟨[.type "enumerate",.ref l],[]⟩)
  (fun _ R s=>s.heap.get? l=some o/\s.heap.IsTuple l items/\R (.ok (.ret (.ref (s.heap.push (tIt l)).objs.size))) {s with heap:=(s.heap.push (tIt l)).push (eO s.heap.objs.size)}):=
 .of_wp fun prog w A R s h=>by
  obtain ⟨hp,g,d,tk,os⟩:=s
  obtain ⟨hl,a1,h⟩:=h
  have hsub:=sub_enumerate
  have b1:Heap.IsTuple (Shared.heap ⟨hp,g,d,tk,os⟩) l items:=a1
  wp_walk using wpAny_loadPart' hl
  refine wpAny_stack_any fun st=>wpAny_pure ?_
  split
  ·rename_i c _ _ _ _ _
   cases (c==Value.type "enumerate") <;> (wp_walk using wpAny_loadPart' hl,wpAny_pyIter_tuple b1;exact ⟨_,rfl,h⟩)
  ·wp_walk using wpAny_loadPart' hl,wpAny_pyIter_tuple b1
   exact ⟨_,rfl,h⟩
theorem call_enumT {l:Addr} {items:Array Value} {Q:Value->Shared->Prop} (a1:s.heap.IsTuple l items)
  (q: ∀ h',IsEnum h' (s.heap.objs.size+1) s.heap.objs.size 0 .none->h'.IsTupleIter s.heap.objs.size l 0->(∀ b o,s.heap.get? b=some o->h'.get? b=some o)->Q (.ref (s.heap.objs.size+1)) {s with heap:=h'}):
  wpAny (model prog w) A (call (.type "enumerate") [.ref l]) Q E s:=by
 obtain ⟨o,ho,_⟩:=id a1
 refine callType_new PySem.F.called_enumerate (by decide) (PySem.F.typeCall_enumerate_1 _) (PySem.F.newCall_enumerate_1 _) (fun obj=>PySem.F.args_object_init_2 obj _) PySem.F.entry_enumerate_new (rA l o items) ⟨ho,a1,?_⟩
 have z1:(s.heap.push (tIt l)).objs.size=s.heap.objs.size+1:=Heap.size_push ..
 have g2:((s.heap.push (tIt l)).push (eO s.heap.objs.size)).get? (s.heap.push (tIt l)).objs.size=some (eO s.heap.objs.size):=Heap.get?_push_size _ rfl
 have g1:((s.heap.push (tIt l)).push (eO s.heap.objs.size)).get? s.heap.objs.size=some (tIt l):=Heap.get?_push_of_some _ (Heap.get?_push_size _ rfl)
 show _/\_
 rw [z1]at g2 ⊢
 exact ⟨⟨_,g2,rfl⟩,q _ g2 ⟨_,g1,rfl,rfl⟩ fun b o x=>Heap.get?_push_of_some _ (Heap.get?_push_of_some _ x)⟩
end
end HT
namespace L2
open PySem PySem.Spec PyProof.Rows
noncomputable def Ite (l:Addr):It:=
 ⟨fun i H=> ∃ xs x,H l=some (.tup xs)/\xs[i]? =some x,
  fun i H v H'=> ∃ T x,H T=none/\v=.ref T/\H'=upd H T (.tup [.int (i:Int),x])/\ ∀ xs,H l=some (.tup xs)->xs[i]? =some x,
  fun i H=> ∃ xs,H l=some (.tup xs)/\xs.length=i⟩
noncomputable def yM (e it l:Addr) (i:Nat) (h:Heap):Prop:=(∃ old,IsEnum h e it (i:Int) old)/\HT.SIter true h it l i
theorem fp2 {e it b:Addr} (h:b∈[e,it]):b=e\/b=it:=by simpa using h
theorem qo {P:Program} {w:World} {K:PySem.W.Frag} {es:List Expr} {kk:Nat} {tpos:Pos} (e it l:Addr) (nd:e≠it):nG P w K (.Tuple es kk tpos) (Ite l) [e,it] e (yM e it l):=by
 have ap: ∀ {X:Cx} {pins:List (Addr×Obj)} {H:Hp} {xs:List V},(∀ b∈[e,it],iN X pins H b)->H l=some (.tup xs)->e≠l/\l≠it:=by
  intro X pins H xs hf h1
  have a: ∀ b∈[e,it],b≠l:=fun b hb=>(ah h1 (hf b hb).1).symm
  exact ⟨a e (by simp),Ne.symm (a it (by simp))⟩
 refine ⟨by simp,fun i h st b hb=>?_,fun i h h' st k=>?_,?_,?_,fun _ _ _ _ _ st h=>wpAny_pyIter_enum st.1.choose_spec h⟩
 ·obtain ⟨⟨old,h1⟩,h2⟩:=st
  rcases fp2 hb with rfl | rfl
  ·exact ⟨_,h1,fun v e=>nomatch e⟩
  ·exact h2.obj
 ·obtain ⟨⟨old,h1⟩,h2⟩:=st
  exact ⟨⟨old,k e (by simp) _ h1⟩,h2.at fun o z=>k it (by simp) o z⟩
 ·intro X hP hw hK hc i pins s σ H E I hf st hg
  subst hP hw hK
  obtain ⟨xs,x,hx,ex⟩:=hg
  obtain ⟨its,r1,q1,_⟩:=I.seqS (c:=true) hx
  obtain ⟨u,hu,ru⟩:=r1.get ex
  obtain ⟨⟨old,z0⟩,s1⟩:=st
  obtain ⟨a1,a2⟩:=ap hf hx
  refine wpAny_pyNext_enum_itemD (HT.draws_seq (A:=X.A.in1) true (I.ok.hd hc) it l a2 its.toArray) z0 ⟨s1,q1⟩ (by rw [List.size_toArray];exact (List.getElem?_eq_some_iff.mp hu).1) nd
   (by simp only [List.mem_cons,List.not_mem_nil,or_false,not_or];exact ⟨nd,a1⟩) fun x' h' tk px z1 t1 pr _ kk=>?_
  have ex':x'=u:=by
   have p1:its[i]? =some x':=by simpa using px
   rw [hu]at p1;exact (Option.some.inj p1).symm
  subst ex'
  refine ⟨_,rfl,wpAny_letOwnedTupleGo_enum z1 fun h'' z2 sb=>?_⟩
  have lt: ∀ {b:Addr} {ob:Obj},s.heap.get? b=some ob->b≠s.heap.objs.size:=fun e=>Nat.ne_of_lt (Heap.lt_size e)
  have fT:H s.heap.objs.size=none:=I.hok.fresh (Nat.le_refl _)
  have keep: ∀ b ob,b∉[e,it]->s.heap.get? b=some ob->h''.get? b=some ob:=fun b ob hb z=>by
   simp only [List.mem_cons,List.not_mem_nil,or_false,not_or]at hb
   exact sb.extBut b ob hb.1 (kk b ob hb.1 hb.2 z)
  have trk: ∀ b uo,H b=some uo->b∉[e,it]:=fun b uo z hb=>by rw [(hf b hb).1]at z;cases z
  have ptT:=sb.extBut _ _ (Ne.symm (lt z0)) pr
  have I2:Inv X pins σ (upd H s.heap.objs.size (.tup [.int (i:Int),x])) {s with heap:=h'',toks:=tk+1}:=by
   refine I.step (g':=s.gens) (d':=s.drawn) (ch:=[e,it]) (fun b hb=>?_) (fun b ob _ _ hb z _=>keep b ob hb z) (fun b ob _ _ hb z _=>⟨ob.slots,keep b ob hb z⟩) (fun b ob hb z n=>by rw [al (lt z)];exact n)
    (fun b ob hb z=>⟨ob,keep b ob hb z⟩) (fun b zs z=>by rw [al (ah z fT)];exact z) (fun b ob uo z=>by rw [al (ah z fT)];exact z) (fun b ps z=>⟨#[],by rw [al (ah z fT),z];simp⟩) (fun m hm=>?_) (fun b uo z=>?_) I.bare
   ·obtain ⟨_,f1,_,f3,f4,f5⟩:=hf b hb
    exact ⟨f3,f1,f4,f5⟩
   ·obtain ⟨ob,es',ep,ho,r⟩:=hm
    exact ⟨ob,es',ep,keep _ ob (fun hb=>(hf _ hb).2.1 rfl) ho,r⟩
   ·by_cases hb:b=s.heap.objs.size
    ·subst hb
     rw [ac]at z
     cases z
     exact ⟨by show 2<=sizeLine;decide,[.int (i:Int) tk,x'],.cons ⟨tk,rfl⟩ (.cons ru .nil),_,ptT,rfl,_,rfl⟩
    ·rw [al hb]at z
     refine (I.hok b uo z).stay (fun c' v' hc' q=>keep c' v' ?_ q) (fun c' q=>by rw [al (ah q fT)];exact q) fun c' zs q=>by rw [al (ah q fT)];exact q
     rcases hc' with h | h
     ·rw [h];exact trk b uo z
     ·exact trk c' _ h
  refine ⟨.ref s.heap.objs.size,_,I2,rfl,⟨_,x,fT,rfl,rfl,fun xs' h1=>?_⟩,⟨⟨_,by rw [Int.natCast_add];exact z2⟩,t1.1.at fun o z=>sb.extBut _ o (Ne.symm nd) z⟩,fun b hb=>?_⟩
  ·rw [hx]at h1
   cases h1
   exact ex
  ·have hb': ∃ ob,s.heap.get? b=some ob:=by
    rcases fp2 hb with rfl | rfl
    ·exact ⟨_,z0⟩
    ·obtain ⟨ob,z,_⟩:=s1.obj;exact ⟨ob,z⟩
   obtain ⟨ob,z⟩:=hb'
   rw [al (lt z)]
   exact (hf b hb).1
 ·intro X hP hw hK hc i pins s σ H E I hf st hg
  subst hP hw hK
  obtain ⟨xs,hx,l'⟩:=hg
  obtain ⟨its,r1,q1,_⟩:=I.seqS (c:=true) hx
  obtain ⟨⟨old,z0⟩,s1⟩:=st
  obtain ⟨a1,a2⟩:=ap hf hx
  have hi:i=its.toArray.size:=by rw [List.size_toArray,<- l'];exact r1.length
  rw [hi]at s1
  refine wpAny_pyNext_enum_endD (HT.draws_seq (A:=X.A.in1) true (I.ok.hd hc) it l a2 its.toArray) z0 ⟨s1,q1⟩ fun h' eb=>⟨rfl,?_⟩
  exact I.turned (t':=s.toks) (it:=it) (fun b ob hb z=>eb b ob hb z) (hf it (by simp)).1 (hf it (by simp)).2.1 (hf it (by simp)).2.2.2.1 (hf it (by simp)).2.2.2.2.1 (hf it (by simp)).2.2.2.2.2
noncomputable def xS (ta:TA):TI:=fun σ H R=>ta σ H fun vs H1=> ∃ l xs,vs=[.ref l]/\H1 l=some (.tup xs)/\R (Ite l) H1
theorem uY {X:Cx} {es:List Expr} {kk:Nat} {tpos:Pos} {a:Expr} {ta:TA} {p pos:Pos} (hg:Gl X "enumerate") (hm:X.mg "enumerate"=none) (ha:PA X [a] ta) (hs:starEach [a] X.env=[(false,eval a X.env)]:=by rfl):
  PI X (.Tuple es kk tpos) (.Call (.Name "enumerate" p) [a] [] pos) (xS ta):=by
 intro pins s σ H R I h
 refine Call_ (dA I hg hm (show bootBuiltins "enumerate"=some (.type "enumerate") by decide +kernel) (PyProof.Rows.callWith_type1 (thn (ha pos pins s σ H _ I h) fun us s1 ⟨vs,H1,I1,r1,q1⟩=>?_) (by rw [hs];rfl) rfl))
 obtain ⟨l,xs,rfl,hx,q⟩:=q1
 obtain ⟨u,rfl,ru⟩:=iD r1
 cases (show u=Value.ref l from ru)
 obtain ⟨its,_,e1,_⟩:=I1.seqS (c:=true) hx
 refine HT.call_enumT e1 fun h' a1 a2 kp=>?_
 have I2:Inv X pins σ H1 {s1 with heap:=h'}:=I1.kept (t':=s1.toks) kp
 refine wpAny_pyIter_enum a1 ?_
 refine ⟨s1.heap.objs.size+1,[s1.heap.objs.size+1,s1.heap.objs.size],_,_,H1,rfl,I2,qo _ _ l (Nat.succ_ne_self _),⟨⟨_,a1⟩,a2⟩,fun b hb=>?_,q⟩
 have hb':s1.heap.objs.size<=b:=by rcases fp2 hb with rfl | rfl <;> lia
 exact I1.fpOk hb' (I1.hok.fresh hb')
section
variable {X:Cx} {x x2:Str} {px px2 tpos pos fpos:Pos} {kk:Nat} {iter elt:Expr} {scope sc0:Scope} {N0 ys:List Str} {fr:List Nat} {wi:TI} {te:TE}
theorem sP {i:Nat} {y:Str} {py spos:Pos} (hcalm:X.calm=true) (hnd:X.N.Nodup) (hiN:X.N[i]? =some y) (hy:Loc X.env.scope y) (hi:PI X (.Tuple [.Name x px,.Name x2 px2] kk tpos) iter wi) (hsc:X.env.scope=sc0) (hN:X.N=N0) (ok:l5 sc0 N0 scope x x2 ys fr)
  (hE: ∀ C s H ex,PE (cH X x x2 ys scope C s H ex) elt te) (hsw:swapsWith (.ListComp elt [⟨.Tuple [.Name x px,.Name x2 px2] kk tpos,iter,[],0⟩] scope pos) (some (.Name y py)) spos.line X.env=pure true:=by rfl)
  (hs: ∀ v,foldedSetIterable iter X.env v=pure v:=by intro _;rfl) (hf:X.fn y=true\/X.env.scope.names.lookup y=some .local:=by first | exact .inl rfl | exact .inr rfl | assumption):
  PS X (.Assign [.Name y py] (.ListComp elt [⟨.Tuple [.Name x px,.Name x2 px2] kk tpos,iter,[],0⟩] scope pos) spos) (ml (nR wi fr te) (eW i)):=by
 intro pins s σ H D I h
 rw [exec_Assign_Name_used _ _ _ _ hsw]
 refine wpAny_bind (wpAny_standAt (wpAny_bind ?_))
 show wpAny _ X.A (do let _ <- comprehension (.ListComp elt [⟨.Tuple [.Name x px,.Name x2 px2] kk tpos,iter,[],0⟩] scope pos) scope X.env _ (newList []) false (eval iter X.env) (some (assign (.Name y py) X.env))) _ _ s
 refine wpAny_bind (thn (jD (use:=some (assign (.Name y py) X.env)) (Qv:=fun _ s'=>SP X pins D .next s') (Q:=fun v H'=>D.nx (σ.set i (some v)) H') hcalm hi hsc hN ok hE I h hs fun p C H' s' m I' hn h0 h1 h2 h3 h4 q=>?_) fun _ s' hq=>wpAny_pure (wpAny_pure hq))
 show wpAny _ X.A (assign (.Name y py) X.env (.ref p)) _ _ s'
 refine wpAny_assign_Name (fE (v:=.ref p) I' hnd hiN hy rfl (fun s'' I'' ⟨a,sb,ha⟩=>?_) hf)
 have hCa:C≠a:=by
  rcases ha with e | e
  ·rw [e];exact h1
  ·exact (h3 y a e).symm
 refine ⟨m,hn.sameBut sb hCa,fun h' sb'=>⟨_,H',I''.turned (t':=s''.toks) (fun b o hb e=>sb'.extBut b o hb e) h0 h1 (.inr h2) h3 h4,q⟩⟩
inductive on (K:PySem.W.Frag) (x:V) (y:V) (H:Hp) (Q:VK):Prop
 | mk: ∀ a b xs ys,(x=.ref a)->(y=.ref b)->(SqT K H a xs)->(SqT K H b ys)->(xs.length+ys.length<=sizeLine)->((xs=[]->Q (.ref b) H))->((xs≠[]->ys=[]->Q (.ref a) H))->((xs≠[]->ys≠[]-> ∀ p,H p=none->Q (.ref p) (upd H p (.tup (xs++ys)))))->on K x y H Q
theorem mK:OpR X (binaryOp .Add) (on X.K):=by
 intro pins s σ H x y v u Q I rx ry h
 obtain ⟨a,b,xs,ys,e1,e2,h1,h2,h3,q1,q2,q3⟩:=h
 exact tq pins s σ H x y v u Q I rx ry ⟨a,b,xs,ys,e1,e2,h1,h2,h3,q1,q2,q3⟩
end
section
variable {X:Cx}
noncomputable def yo:R2:=fun x y H Q=> ∃ a b z v,x=.ref a/\y=.ref b/\H a=some (.tup [.str z,v])/\H b=some (.tup [.str z,v])/\((∃ c,v=.ref c)\/ ∃ c,v=.bl c)/\Q (.bl true) H
theorem wG (hu:X.A.units<cLine):OpR X (compareOp .Eq) yo:=by
 intro pins s σ H x y v u Q I rx ry h
 obtain ⟨a,b,z,w,rfl,rfl,ha,hb,hw,q⟩:=h
 cases rx
 cases ry
 obtain ⟨its,r,p,_⟩:=I.seqS (c:=true) ha
 obtain ⟨its2,r2,p2,_⟩:=I.seqS (c:=true) hb
 obtain ⟨u1,u2,rfl,r11,r12⟩:=eY r
 obtain ⟨w1,w2,rfl,r21,r22⟩:=eY r2
 obtain ⟨t1,rfl⟩:=(show ∃ t,u1=Value.str z t from r11)
 obtain ⟨t2,rfl⟩:=(show ∃ t,w1=Value.str z t from r21)
 have e:u2=w2:=by
  rcases hw with ⟨c,rfl⟩ | ⟨c,rfl⟩
  ·exact (show u2=Value.ref c from r12).trans (show w2=Value.ref c from r22).symm
  ·exact (show u2=Value.bool c from r12).trans (show w2=Value.bool c from r22).symm
 subst e
 refine SeqAt.RcAt.tuples (e:=fun _=>true) p p2 hu (fun j h1 h2=>?_) X.prog X.w X.xe _ ⟨.bl true,H,I,?_,q⟩
 ·match j,h1,h2 with
  | 0,_,_=>
   have:=SeqAt.EqAt.str_str (A:=X.A.in1) (s:=s) z t1 z t2
   simpa using this
  | 1,_,_=>exact SeqAt.EqAt.same u2
  | n+2,h1,_=>exact absurd h1 (by simp)
 ·rfl
end
section
variable {X:Cx}
theorem pd: ∀ {ws:List Str} {us:List Value},Vals (ws.map V.str) us-> ∃ l:List (Str×Tok),us=strValues l/\l.map (·.1)=ws
 | [],_,.nil=>⟨[],rfl,rfl⟩
 | w::ws,_,.cons r t=>by
  obtain ⟨tk,rfl⟩:=(show ∃ t,_=Value.str w t from r)
  obtain ⟨l,rfl,e⟩:=pd t
  exact ⟨(w,tk)::l,rfl,by rw [List.map_cons,e]⟩
inductive vP (K:PySem.W.Frag) (x:V) (vs:List V) (H:Hp) (Q:VK):Prop
 | mk: ∀ sep a ws,(x=.str sep)->(vs=[.ref a])->(SqL K H a (List.map V.str ws))->(Builtin.Str.tooLong (ws.toArray.foldl (· + ·.length+sep.length) 0)=false)->((Builtin.Str.glued sep ws).length<=sizeLine)->(Q (.str (Builtin.Str.glued sep ws)) H)->vP K x vs H Q
theorem pN:MtM X "str.join" (vP X.K):=by
 intro pins s σ H x vs v us Q I rx rv h
 obtain ⟨sep,a,ws,rfl,rfl,hs,hl,hz2,q⟩:=h
 obtain ⟨t,rfl⟩:=(show ∃ t,v=Value.str sep t from rx)
 obtain ⟨u,rfl,ru⟩:=rv.one
 cases (show u=Value.ref a from ru)
 obtain ⟨its,r,pl,hz⟩:=I.list hs
 obtain ⟨l,rfl,e⟩:=pd r
 refine call_meets F.slot_str_join (typeIs_str _ _ _) F.entry_str_join (F.args_str_join_2 _ _) (meets_str_join_list sep t a l (by rw [e];exact hl)) ⟨pl.isList,?_⟩
 have one: ∀ (p:Str×Tok),Builtin.Str.glued sep [p.1]=p.1:=fun p=>rfl
 have many:(joinMade sep l)=.str (Builtin.Str.glued sep (l.map (·.1)))\/ ∃ p,l=[p]:=by
  match l with
  | []=>exact .inl rfl
  | [p]=>exact .inr ⟨p,rfl⟩
  | _::_::_=>exact .inl rfl
 rcases many with m | ⟨p,rfl⟩
 ·rw [m,e]
  exact ⟨hz2,.str _,H,I.tok _,⟨_,rfl⟩,q⟩
 ·rw [<- e]at q
  exact ⟨.str _,H,I,⟨p.2,rfl⟩,q⟩
theorem jT: ∀ (l:List (Str×Tok)),Vals ((l.map (·.1)).map V.str) (strValues l)
 | []=>.nil
 | p::r=>.cons ⟨p.2,rfl⟩ (jT r)
inductive sK  (x:V) (vs:List V) (H:Hp) (Q:VK):Prop
 | mk: ∀ z y,(x=.str z)->(vs=[.str y])->((y.length==0)=false)->(z.length+2<=sizeLine)->((Txt.split z y).length<=sizeLine)->(∀ p,H p=none->Q (.ref p) (upd H p (.lst ((Txt.split z y).map V.str))))->sK x vs H Q
theorem tT:MtM X "str.split" sK:=by
 intro pins s σ H x vs v us Q I rx rv h
 obtain ⟨z,y,rfl,rfl,hy,hz,hz2,q⟩:=h
 obtain ⟨t,rfl⟩:=(show ∃ t,v=Value.str z t from rx)
 obtain ⟨u,rfl,ru⟩:=rv.one
 obtain ⟨t2,rfl⟩:=(show ∃ t,u=Value.str y t from ru)
 have fin: ∀ (l:List (Str×Tok)) (k:Nat),l.map (·.1)=Txt.split z y->EP X pins σ Q (.ref s.heap.objs.size) {s with heap:=s.heap.push {cls:=.type "list",data:=.seq (strValues l).toArray},toks:=k}:=fun l k e=>by
  refine ⟨.ref s.heap.objs.size,_,I.laid (t':=k) (o:=.lst ((Txt.split z y).map V.str)) (fun b ob q=>Heap.get?_push_of_some _ q) (Nat.le_refl _) ?_,rfl,q _ (I.hok.fresh (Nat.le_refl _))⟩
  exact ⟨by rw [List.length_map];exact hz2,_,0,by rw [<- e];exact jT l,Heap.get?_push_size _ rfl⟩
 have hn:(Builtin.Str.partsBetween z (Builtin.Str.occurrences z y 0 z.length (z.length+1)) y.length).length<=sizeLine:=by
  have e1:=StrLaws.occ_length_le z y 0 z.length (z.length+1)
  rw [length_partsBetween];lia
 cases h1:(decide (z.length<y.length)||decide (Builtin.Str.strKind z<Builtin.Str.strKind y))
 ·cases hf:(Builtin.Str.occurrences z y 0 z.length (z.length+1)).isEmpty
  ·refine call_meets F.slot_str_split (typeIs_str _ _ _) F.entry_str_split (F.args_str_split_2 _ _) (meets_str_split_sep z y t t2 h1 hy hf (by lia) hn) ?_
   rw [strsFrom_eq]
   exact fin (numbered s.toks _) _ ((numbered_texts _ _).trans ((if_neg (ne_true_of_eq_false h1)).trans (if_neg (ne_true_of_eq_false hf))).symm)
  ·exact call_meets F.slot_str_split (typeIs_str _ _ _) F.entry_str_split (F.args_str_split_2 _ _) (meets_str_split_not_found z y t t2 h1 hy hf) (fin [(z,t)] s.toks ((if_neg (ne_true_of_eq_false h1)).trans (if_pos hf)).symm)
 ·exact call_meets F.slot_str_split (typeIs_str _ _ _) F.entry_str_split (F.args_str_split_2 _ _) (meets_str_split_cannot_occur z y t t2 h1) (fin [(z,t)] s.toks (if_pos h1).symm)
end
theorem eX {α:Type} {t:Sem α} {Q Q':α->Shared->Prop} {M:Model} {A:Around} {E:Value->Shared->Prop} {s:Shared} (hk:0<s.toks) (h:wpAny M A t Q E s) (hQ: ∀ a s',0<s'.toks->Q a s'->Q' a s'):wpAny M A t Q' E s:=
 fun Γ p hΓ=>Sem.wp_mono M Γ t (fun a _ s' q=>hQ a s' q.1 q.2) (fun _ _ _ q=>q.2) p s (Sem.wp_toks M Γ 1 t _ _ p s hk (h Γ p hΓ))
noncomputable def PEt (X:Cx) (e:Expr) (t:TE):Prop:=
 ∀ (pins:List (Addr×Obj)) (s:Shared) (σ:St) (H:Hp) (Q:VK),0<s.toks->Inv X pins σ H s->t σ H Q->wpAny (model X.prog X.w) X.A (eval e X.env) (EP X pins σ Q) X.xe s
noncomputable def PTt (X:Cx) (e:Expr) (t:TT):Prop:=
 ∀ (pins:List (Addr×Obj)) (s:Shared) (σ:St) (H:Hp) (Q:Bool->Hp->Prop),0<s.toks->Inv X pins σ H s->t σ H Q->wpAny (model X.prog X.w) X.A (isTrue e X.env (eval e X.env)) (TP X pins σ Q) X.xe s
noncomputable def PAt (X:Cx) (es:List Expr) (t:TA):Prop:=
 ∀ (pos:Pos) (pins:List (Addr×Obj)) (s:Shared) (σ:St) (H:Hp) (Q:List V->Hp->Prop),0<s.toks->Inv X pins σ H s->t σ H Q->wpAny (model X.prog X.w) X.A (spliced (backTo pos (starEach es X.env))) (AP X pins σ Q) X.xe s
noncomputable def PSt (X:Cx) (st:Stmt) (t:TS):Prop:=
 ∀ (pins:List (Addr×Obj)) (s:Shared) (σ:St) (H:Hp) (D:eR),0<s.toks->Inv X pins σ H s->t D σ H->wpAny (model X.prog X.w) X.A (exec st X.env) (SP X pins D) X.xe s
noncomputable def PSst (X:Cx) (st:List Stmt) (t:TS):Prop:=
 ∀ (pins:List (Addr×Obj)) (s:Shared) (σ:St) (H:Hp) (D:eR),0<s.toks->Inv X pins σ H s->t D σ H->wpAny (model X.prog X.w) X.A (execs st X.env) (SP X pins D) X.xe s
structure eA (P:Program) (w:World) (K:PySem.W.Frag) (mg:Str->Option Value) (base:Heap) (CX:CXT) (k:Nat) (f:Addr) (fd:FuncData) (ps:List Str) (sp:Sp):Prop where
 len: ∀ vs H Q E,sp vs H Q E->vs.length=ps.length
 run: ∀ (A:Around) (outer:List Env) (s:Shared) (H:Hp) (args:Args) (us:List Value) (vs:List V) (Q:VK) (E:XK),0<s.toks->Room k A->uG P w K mg base A outer s H->BindsTo s fd args (ps.zip us)->Vals vs us->sp vs H Q E->
  codeAny (model P w) A (.call (.ref f) args) (CR CX outer P w H s Q E) s
theorem FnOk.tk {P:Program} {w:World} {K:PySem.W.Frag} {mg:Str->Option Value} {base:Heap} {CX:CXT} {k:Nat} {f:Addr} {fd:FuncData} {ps:List Str} {sp:Sp} (F:FnOk P w K mg base CX k f fd ps sp):eA P w K mg base CX k f fd ps sp:=
 ⟨F.len,fun A outer s H args us vs Q E _=>F.run A outer s H args us vs Q E⟩
section
variable {X:Cx} {CX:CXT} {k:Nat} {f:Addr} {fd:FuncData} {ps:List Str} {sp:Sp} {dvs:List V} {ds:List Value} {E:XK} {x m:Str} {p pos apos cpos:Pos} {a b e o:Expr} {es rest:List Expr} {ta tb te to:TE} {t:TA} {tA tB':TT}
theorem PE.tk (h:PE X e te):PEt X e te:=fun pins s σ H Q _=>h pins s σ H Q
theorem PA.tk (h:PA X es t):PAt X es t:=fun pos pins s σ H Q _=>h pos pins s σ H Q
theorem PS.tk {st:Stmt} {u:TS} (h:PS X st u):PSt X st u:=fun pins s σ H D _=>h pins s σ H D
theorem PSs.tk {st:List Stmt} {u:TS} (h:PSs X st u):PSst X st u:=fun pins s σ H D _=>h pins s σ H D
theorem mJ (ha:PEt X e te) (hr:PAt X es t) (hs:starEach (e::es) X.env=(false,eval e X.env)::starEach es X.env:=by rfl):PAt X (e::es) (mj te t):=by
 intro pos pins s σ H Q hk I h
 rw [hs]
 show wpAny _ _ (spliced ((false,eval e X.env)::backTo pos (starEach es X.env))) _ _ s
 refine Calls.spliced_cons (eX hk (ha pins s σ H _ hk I h) fun u s1 hk1 ⟨x,H1,I1,r1,q1⟩=>?_)
 exact thn (hr pos pins s1 σ H1 _ hk1 I1 q1) fun us s2 ⟨xs,H2,I2,r2,q2⟩=>⟨x::xs,H2,I2,.cons r1 r2,q2⟩
theorem uS {pins:List (Addr×Obj)} {σ:St} {H:Hp} {s:Shared} {Q:VK} {us:List Value} {vs:List V} (F:eA X.prog X.w X.K X.mg X.base CX k f fd ps sp) (hk:0<s.toks) (hr:Room k X.A) (hb:Binds X.K fd ps ds) (hd:Vals dvs ds) (hx:iB CX X E)
  (I:Inv X pins σ H s) (r:Vals vs us) (h:sp (vs++dvs) H Q E):wpAny (model X.prog X.w) X.A (call (.ref f) us) (EP X pins σ Q) X.xe s:=by
 have r2:Vals (vs++dvs) (us++ds):=r.append hd
 have hl:(us++ds).length=ps.length:=by rw [<- r2.length];exact F.len _ _ _ _ h
 refine wpAny_call (codeAny_mono (F.run X.A X.stack s H ⟨us,[]⟩ (us++ds) (vs++dvs) Q E hk hr I.env0 (hb s us I.kIn hl) r2 h) fun r s' hq=>?_)
 cases r with
 | error e=>exact hx pins σ H s e s' I hq
 | ok fl=>
  cases fl with
  | ret u=>exact I.after hq
  | next=>exact False.elim hq
  | brk=>exact False.elim hq
  | cont=>exact False.elim hq
theorem ef (F:eA X.prog X.w X.K X.mg X.base CX k f fd ps sp) (hr:Room k X.A) (hg:Gl X x) (hm:X.mg x=some (.ref f)) (hkp:PySem.W.keepIn X.K (.ref f)=true) (hb:Binds X.K fd ps ds) (hd:Vals dvs ds) (hx:iB CX X E)
  (ha:PAt X (e::es) t) (hdb:(x==("__debug__":Str))=false:=by decide) (he:starEach (e::es) X.env=(false,eval e X.env)::starEach es X.env:=by rfl) (hpl:(backTo pos (starEach es X.env)).any (·.1)=false:=by rfl):
  PEt X (.Call (.Name x p) (e::es) [] pos) (sd sp dvs E t):=by
 intro pins s σ H Q hk I h
 refine wpAny_Call_Name_kw (eL I hg hm ?_ hdb)
 refine PySem.W.callWith_K (h₀:=X.base) I.ok.mod.kin hkp (eX hk (ha pos pins s σ H _ hk I h) fun us s1 hk1 ⟨vs,H1,I1,r,q⟩=>⟨I1.kIn,?_⟩) he hpl
 exact uS F hk1 hr hb hd hx I1 r q
theorem uZ {op} (h:PEt X a ta):PEt X (.BoolOp op [a] pos) ta:=fun pins s σ H Q hk I hw=>BoolOp_one (h pins s σ H Q hk I hw)
theorem u0 (ha:PEt X a ta) (hb:PEt X (.BoolOp .And (b::rest) pos) tb):PEt X (.BoolOp .And (a::b::rest) pos) (vM ta tb):=by
 intro pins s σ H Q hk I h
 refine BoolOp_and (eX hk (ha pins s σ H _ hk I h) fun v s1 hk1 ⟨x,H1,I1,r1,q1⟩=>?_)
 obtain ⟨c,rfl,q1⟩:=q1
 cases r1
 refine wpAny_truthy_bool ?_
 cases c with
 | true=>exact hb pins s1 σ H1 Q hk1 I1 q1
 | false=>exact ⟨.bl false,H1,I1,rfl,q1⟩
theorem pD (ha:PTt X a tA):PTt X (.UnaryOp .Not a pos) (xp tA):=by
 intro pins s σ H Q hk I h
 exact isTrue_not (ha pins s σ H (fun c H1=>Q (!c) H1) hk I h)
theorem pC (h:PEt X e te) (he: ∀ whole,isTrue e X.env whole=(do let v <- whole;standAt e.pos;holding [v] (truthy v)):=by intro _;rfl):PTt X e (tB te):=by
 intro pins s σ H Q hk I hw
 refine isTrue_plain (thn (h pins s σ H _ hk I hw) fun v s1 ⟨x,H1,I1,r1,q1⟩=>?_) (he _)
 obtain ⟨d,rfl,q⟩:=q1
 cases r1
 exact wpAny_truthy_bool ⟨H1,I1,q⟩
theorem bJ {st:Stmt} {sts:List Stmt} {t u:TS} (h1:PSt X st t) (h2:PSst X sts u):PSst X (st::sts) (vY t u):=by
 intro pins s σ H D hk I h
 refine wpAny_execs_cons (eX hk (h1 pins s σ H {D with nx:=u D} hk I h) fun f s1 hk1 q=>?_)
 cases f with
 | next=>
  obtain ⟨σ',H',I',q⟩:=q
  exact h2 pins s1 σ' H' D hk1 I' q
 | ret v=>exact q
 | brk=>exact q
 | cont=>exact q
theorem je {st:Stmt} {t:TS} (h1:PSt X st t):PSst X [st] t:=by
 intro pins s σ H D hk I h
 refine wpAny_execs_cons (thn (h1 pins s σ H D hk I h) fun f s1 q=>?_)
 cases f with
 | next=>exact wpAny_execs_nil q
 | ret v=>exact q
 | brk=>exact q
 | cont=>exact q
theorem uX (he:PEt X e te):PSt X (.Return (some e) pos) (xk te):=by
 intro pins s σ H D hk I h
 exact wpAny_Return_some (thn (he pins s σ H _ hk I h) fun v s1 ⟨x,H1,I1,r1,q1⟩=>⟨x,σ,H1,I1,r1,q1⟩)
theorem pE {i:Nat} {x:Str} {e:Expr} {te:TE} {pos':Pos} (hN:X.N.Nodup) (hi:X.N[i]? =some x) (hx:Loc X.env.scope x) (he:PEt X e te) (hs:swapsWith e (some (.Name x pos')) pos.line X.env=pure false:=by rfl) (hf:X.fn x=true\/X.env.scope.names.lookup x=some .local:=by first | exact .inl rfl | exact .inr rfl | assumption):
  PSt X (.Assign [.Name x pos'] e pos) (ml te (eW i)):=by
 intro pins s σ H D hk I h
 refine wpAny_Assign_Name (thn (he pins s σ H _ hk I h) fun v s1 ⟨y,H1,I1,r1,q1⟩=>?_) hs
 exact cX I1 hN hi hx r1 (fun s2 I2=>⟨_,H1,I2,q1⟩) hf
theorem wE {T id:String} {r:V->List V->Hp->VK->Prop} {name:Str} (pa:PlainAttrs T) (slot:Slot T name id) (hty:typeOf (.builtin id)=pure (.type "method_descriptor")) (hm:MtM X id r) (ho:PEt X o to) (ha:PA X (e::es) t)
  (hbase:attributeBase o name X.env (eval o X.env)=eval o X.env:=by rfl)
  (hfew:((backTo cpos (starEach (e::es) X.env)).all (fun x=> !x.1)&&(backToKw cpos (keywordEach [] X.env)).all (fun x=>x.1.isSome)
   &&decide ((e::es).length+ ([]:List Keyword).length+ (if ([]:List Keyword).isEmpty then 0 else 1) <30))=true:=by rfl)
  (hline:(apos.endLine==cpos.line)=true:=by rfl) (hs:starEach (e::es) X.env=(false,eval e X.env)::starEach es X.env:=by rfl) (hplain:(backTo cpos (starEach es X.env)).any (·.1)=false:=by rfl):
  PEt X (.Call (.Attribute o name apos) (e::es) [] cpos) (tBM X.K T r to t):=by
 intro pins s σ H Q hk I h
 refine wpAny_Call_method_late hbase hfew hline rfl (thn (ho pins s σ H _ hk I h) fun v s1 ⟨x,H1,I1,r1,ty,q1⟩=>?_)
 obtain ⟨h1,h2⟩:=nK I1 r1 ty
 refine ⟨T,id,pa,slot,hty,h1,h2,?_⟩
 have hA:=ha cpos pins s1 σ H1 _ I1 q1
 rw [hs]at hA ⊢
 refine Calls.callWith_builtin (by show (false||(backTo cpos (starEach es X.env)).any (·.1))=false;rw [hplain] <;> rfl) (Calls.evalArgs_plain ?_)
 exact thn hA fun us s2 ⟨vs,H2,I2,r2,q2⟩=>hm pins s2 σ H2 x vs v us Q I2 r1 r2 q2
noncomputable def xm (y z:Str) (to:TE):TE:=fun σ H Q=>to σ H fun x H1=> ∃ w,x=.str w/\w.length<=1048576/\Q (.str (Txt.replace w y z)) H1
theorem jh {y z:Str} {j1 j2:Nat} {p1 p2:Pos} (hyz:(y==z)=false) (hz:z.length<=14) (ho:PEt X o to)
  (hbase:attributeBase o "replace" X.env (eval o X.env)=eval o X.env:=by rfl)
  (hline:(apos.endLine==cpos.line)=true:=by rfl):
  PEt X (.Call (.Attribute o "replace" apos) [.Constant (.str y) j1 p1,.Constant (.str z) j2 p2] [] cpos) (xm y z to):=by
 intro pins s σ H Q hk I h
 refine wpAny_Call_method_late hbase rfl hline rfl (eX hk (ho pins s σ H _ hk I h) fun v s1 hk1 ⟨x,H1,I1,r1,w,ew,hw,q1⟩=>?_)
 subst ew
 obtain ⟨tk,rfl⟩:=(show ∃ t,v=Value.str w t from r1)
 refine ⟨"str","str.replace",PySem.F.plainAttrs_str,PySem.F.slot_str_replace,rfl,typeIs_str s1 w tk,(fun _ e=>nomatch e),?_⟩
 refine Calls.callWith_builtin rfl (Calls.evalArgs_plain ?_)
 refine Calls.spliced_cons (Calls.Constant_str (k:=j1) (pos:=p1) ?_)
 refine Calls.spliced_cons (Calls.Constant_str (k:=j2) (pos:=p2) ?_)
 refine Calls.spliced_nil ?_
 refine SC.replaceW (Nat.ne_of_gt hk1) (by exact Nat.succ_ne_zero _) (by exact (Nat.succ_ne_self _).symm) hyz hw hz fun t' k=>?_
 exact ⟨.str _,H1,(I1.tok _).tok _,⟨t',rfl⟩,q1⟩
end
section
variable {P:Program} {w:World} {K:PySem.W.Frag} {mg:Str->Option Value} {base:Heap}
theorem PSst.nox {X:Cx} {st:List Stmt} {t:TS} (h:PSst X.nox st t):PSst X st t:=fun pins s σ H D hk I hw=>
 wpAny_mono (h pins s σ H D hk (I.wish _) hw) (fun _ _ z=>z.unwish) fun _ _ z=>z.elim
theorem Fun.okT {x qual:Str} {st:Stmt} {f:Addr} {fd:FuncData} {N ps:List Str} {k:Nat} {sp:Sp} (F:Fun K x qual st f fd) (S:aI N ps (aj st)) (len: ∀ vs H Q E,sp vs H Q E->vs.length=ps.length)
  (hbody: ∀ (cdv:Value) (A:Around) (outer:List Env) (s:Shared) (H:Hp) (vs:List V) (Q:VK) (E:XK),Room k (A.deeper (envOfC qual (aj st) s.heap.objs.size f cdv))->sp vs H Q E->
   ∃ t,PSst (cY CX0 P w K mg base N qual (aj st) f cdv A outer s H E).nox (cz st) t/\t {nx:=fun _ H'=>Q .non H',rt:=Q} (dG N vs) H):eA P w K mg base CX0 (k+1) f fd ps sp:=by
 obtain ⟨oc,od,kV,doc,pm,an,cdv,ct,osl,rfl,lk,hcd⟩:=F.ex
 refine ⟨len,fun A outer s H args us vs Q E hk hr e0 hb r hsp=>?_⟩
 have hl:=len _ _ _ _ hsp
 have KX:K.In s.heap:=e0.mod.kin.keeps fun b o e=>(e0.bs b o e).1
 have lim:s.heap.NoLimit:=e0.mod.nolimit.keeps fun b o e=>(e0.bs b o e).1
 have hkind: ∀ y∈ps.zip us,(aj st).names.lookup y.1=some .local\/((aj st).names.lookup y.1=some .cell/\((cellsFrom (s.heap.objs.size+1) (aj st).names []).lookup y.1).isSome=true):=fun ⟨n,v⟩ hy=>by
  rcases S.par n (List.of_mem_zip hy).1 with q | q
  ·exact .inl q
  ·exact .inr ⟨q,PySem.W.cellsFrom_some _ _ _ (.inl q)⟩
 refine codeAny_call_function hr.depth (KX _ _ lk) rfl S.co S.gen rfl (PySem.W.codeRec_of KX hcd) (hb _ _ _ _ ?_)
 refine eX hk (wpAny_newFunctionEnv_cells (Q:=fun env s1=>env=newEnv (aj st) s.heap.objs.size _ (cellsFrom (s.heap.objs.size+1) (aj st).names []) _ _ _ none _/\InCallC s env.locals (bindL env.kindOf (ps.zip us) fun _=>none) env.cells (bindC env.kindOf (ps.zip us) fun _=>none) s1) S.kind hkind fun env he s1 x=>⟨he,x⟩) fun env s1 hk1 ⟨he,x⟩=>?_
 subst he
 refine ⟨lim.keeps x.toInCall.keep,codeAny_func ?_⟩
 obtain ⟨t,ht0,hq⟩:=hbody cdv A outer s H vs Q E (hr.deeper _) hsp
 have ht:=ht0.nox
 have I:Inv (cY CX0 P w K mg base N qual (aj st) f cdv A outer s H E) [] (dG N vs) H s1:=iw S hr.hd e0 hl r x
 refine wpAny_mono (ht [] s1 (dG N vs) H _ hk1 I hq) (fun fl s' hs=>?_) fun e s' hs=>hs
 have fin: ∀ {σ':St} {H':Hp} {v:V} {u:Value},Inv (cY CX0 P w K mg base N qual (aj st) f cdv A outer s H E) [] σ' H' s'->RelV v u->Q v H'->CE outer P w H s Q u s':=
  fun {σ' H' v u} J rv q=>⟨v,H',J.os,J.bare,J.base,J.hok,rv,q⟩
 cases fl with
 | ret u=>
  obtain ⟨v,σ',H',J,rv,q⟩:=hs
  exact fin J rv q
 | next=>
  obtain ⟨σ',H',J,q⟩:=hs
  exact fin (v:=V.non) (u:=Value.none) J rfl q
 | brk=>
  obtain ⟨_,_,_,q⟩:=hs
  exact False.elim q
 | cont=>
  obtain ⟨_,_,_,q⟩:=hs
  exact False.elim q
end
end L2
namespace HT
open PySem PyProof.Rows
section
variable {prog:Program} {w:World} {A:Around} {s:Shared} {E:Value->Shared->Prop} {d j:Addr} {ks:List Value} {i ep:Nat}
noncomputable def VEs (h:Heap) (d:Addr) (ks:List Value) (ep:Nat):Prop:= ∃ o es,h.get? d=some o/\o.ExactDict/\o.data=.dict es ep/\es.toList.map (·.val)=ks
theorem VEs.type (m:VEs s.heap d ks ep):s.TypeIs (.ref d) "dict":=by
 obtain ⟨o,_,ho,hc,_⟩:=m
 exact ⟨o,ho,hc.1⟩
theorem VEs.keeps {h h':Heap} (m:VEs h d ks ep) (k: ∀ o,h.get? d=some o->h'.get? d=some o):VEs h' d ks ep:=by
 obtain ⟨o,es,ho,r⟩:=m
 exact ⟨o,es,k o ho,r⟩
theorem VEs.lt {h:Heap} (m:VEs h d ks ep):d<h.objs.size:=by
 obtain ⟨o,es,ho,_⟩:=m
 exact Heap.lt_size ho
theorem im {es:Array DictEntry} (e:es.toList.map (·.val)=ks):es.size=ks.length:=by
 rw [<- e,List.length_map,Array.length_toList]
theorem ud {r:Addr} {Q:Value->Shared->Prop} (hv:s.heap.IsValuesView r d) (m:VEs s.heap d ks ep)
  (q:Q (.ref s.heap.objs.size) {s with heap:=s.heap.push {cls:=.type "dict_valueiterator",data:=.fields #[.ref d,.int 0 0,.int ks.length 0,.int ep 0]}}):wpAny (model prog w) A (pyIter (.ref r)) Q E s:=by
 obtain ⟨ov,hov,hcv,hdv⟩:=(show ∃ o,s.heap.get? r=some o/\o.cls=.type "dict_values"/\o.data=.fields #[.ref d]from hv)
 obtain ⟨o,es,ho,hc,hdat,hk⟩:=m
 refine wpAny_pyIter_slot hv.typeIs PySem.F.slot_dict_values_iter (wpAny_call_entry PySem.F.slot_dict_values_iter hv.typeIs PySem.F.entry_dict_values_iter ?_ (PySem.F.args_dict_values_iter_1 _))
 unfold Builtin.«dict_values.__iter__» Builtin.Dict_items.dictOf Builtin.Dict_items.newIterator
 refine wpAny_bind (wpAny_pure (wpAny_bind (wpAny_bind (wpAny_field hov hdv (x:=.ref d) rfl (wpAny_pure (wpAny_bind (wpAny_bind (wpAny_dictEntries ho hdat (wpAny_bind (wpAny_dictEpoch ho hdat ?_))))))))))
 have own:Builtin.Dict_items.ownsTuple "dict_valueiterator"=false:=by decide
 simp only [own,Bool.false_eq_true,if_false]
 refine wpAny_newObj_type (wpAny_pure ⟨_,rfl,"dict_valueiterator",_,⟨_,Heap.get?_push_size _ rfl,rfl⟩,PySem.F.slot_dict_valueiterator_next.lookup,?_⟩)
 simpa [rawInt,im hk]using q
theorem call_ves {Q:Value->Shared->Prop} (lo:(d==sysModules)=false) (m:VEs s.heap d ks ep)
  (q:Q (.ref s.heap.objs.size) {s with heap:=s.heap.push {cls:=.type "dict_values",data:=.fields #[.ref d]}}):wpAny (model prog w) A (call (.builtin "dict.values") [.ref d]) Q E s:=by
 have ty:=m.type
 refine wpAny_call_entry PySem.F.slot_dict_values ty PySem.F.entry_dict_values ?_ (PySem.F.args_dict_values_1 _)
 refine wpAny_bind ?_
 unfold Builtin.Dict.noArgs
 refine wpAny_bind (wpAny_notOrdered_dict ty ?_)
 refine (show wpAny _ _ (pure d) _ _ s from wpAny_pure (show wpAny _ _ (Builtin.Dict.showsAll d >>= _) _ _ s from ?_))
 unfold Builtin.Dict.showsAll
 rw [if_neg (by rw [lo];exact Bool.false_ne_true)]
 exact wpAny_bind (wpAny_pure (wpAny_bind (wpAny_newObj_type (wpAny_pure ⟨_,rfl,q⟩))))
theorem tQ {x:Value} {Q:Option Value->Shared->Prop} (st:s.heap.IsValIter j d i ks.length ep) (m:VEs s.heap d ks ep) (hx:ks[i]? =some x)
  (q: ∀ h',h'.IsValIter j d (i+1) ks.length ep->Heap.SameBut j s.heap h'->Q (some x) {s with heap:=h'}):wpAny (model prog w) A (pyNext (.ref j)) Q E s:=by
 have ty:=st.typeIs
 obtain ⟨o,ho,hc,hd⟩:=id st
 obtain ⟨od,es,hod,hcd,hdd,hk⟩:=m
 have hz:=im hk
 have hlt:i<ks.length:=(List.getElem?_eq_some_iff.mp hx).1
 have hes:i<es.size:=by lia
 have hkey:es[i].val=x:=by
  have e1:(es.toList.map (·.val))[i]? =some x:=by rw [hk];exact hx
  rw [List.getElem?_map,Array.getElem?_toList,Array.getElem?_eq_getElem hes]at e1
  exact Option.some.inj e1
 unfold pyNext
 refine wpAny_bind (wpAny_attempt (wpAny_callSpecial?_slot (name:=Str.ofString "__next__") ty PySem.F.slot_dict_valueiterator_next (wpAny_call_entry PySem.F.slot_dict_valueiterator_next ty PySem.F.entry_dict_valueiterator_next ?_ (PySem.F.args_dict_valueiterator_next_1 _))))
 refine wpAny_bind (wpAny_pure (wpAny_bind (wpAny_bind ?_)))
 first | refine wpAny_bind (wpAny_typeNameOfWhole_valiter ty (wpAny_pure (wpAny_bind (wpAny_fieldsOf ho hd ?_)))) | refine wpAny_bind (wpAny_typeNameOf_valiter ty (wpAny_pure (wpAny_bind (wpAny_fieldsOf ho hd ?_))))
 have own:Builtin.Dict_items.ownsTuple "dict_valueiterator"=false:=by decide
 simp only [own,Bool.false_eq_true,if_false]
 refine (show wpAny _ _ (if (Value.ref d==Value.none)=true then _ else _) _ _ s from ?_)
 rw [if_neg fun b0:(Value.ref d==Value.none)=true=>Bool.false_ne_true b0]
 refine wpAny_bind (wpAny_pure (wpAny_bind (wpAny_dictEntries hod hdd ?_)))
 rw [if_neg (by rw [hz];simp)]
 refine wpAny_bind (wpAny_pure (wpAny_bind (wpAny_dictEpoch hod hdd ?_)))
 rw [if_neg (by simp)]
 refine wpAny_pure ?_
 simp only [show ¬ ((i:Int) <0)from by lia,if_false,Int.toNat_natCast,Array.getElem?_eq_getElem hes]
 refine wpAny_bind ?_
 first | refine wpAny_bind (wpAny_typeNameOfWhole_valiter ty (wpAny_pure (wpAny_bind (wpAny_isOneOf_valiter ty ?_)))) | refine wpAny_bind (wpAny_typeNameOf_valiter ty (wpAny_pure (wpAny_bind (wpAny_isOneOf_valiter ty ?_))))
 refine (show wpAny _ _ (setField (.ref j) 1 (rawInt ((i:Int) +1)) >>= _) _ _ s from ?_)
 refine wpAny_bind (wpAny_setField ho hd (by simp) ?_)
 have st':(s.heap.update j (Obj.mapFields (·.setIfInBounds 1 (rawInt ((i:Int) +1))))).IsValIter j d (i+1) ks.length ep:=by
  refine ⟨_,Heap.get?_update_self _ ho (Obj.isFreed_of_fields (Obj.data_mapFields hd _)),(Obj.cls_mapFields ..).trans hc,?_⟩
  rw [Obj.data_mapFields hd];simp [rawInt]
 refine wpAny_bind (wpAny_holding (wpAny_bind (wpAny_isOneOf_valiter (s:={s with heap:=s.heap.update j (Obj.mapFields (·.setIfInBounds 1 (rawInt ((i:Int) +1))))}) st'.typeIs (wpAny_bind (wpAny_isOneOf_valiter (s:={s with heap:=s.heap.update j (Obj.mapFields (·.setIfInBounds 1 (rawInt ((i:Int) +1))))}) st'.typeIs ?_)))))
 refine (show wpAny _ _ (pure es[i].val) _ _ _ from ?_)
 rw [hkey]
 exact wpAny_pure (wpAny_pure ⟨_,rfl,wpAny_pure (q _ st' (Heap.SameBut.update ..))⟩)
theorem vz {Q:Option Value->Shared->Prop} (hh:A.handled=none) (st:s.heap.IsValIter j d i ks.length ep) (m:VEs s.heap d ks ep) (hx:ks.length<=i)
  (q: ∀ h',Heap.ExtBut j s.heap h'->Q none {s with heap:=h'}):wpAny (model prog w) A (pyNext (.ref j)) Q E s:=by
 have ty:=st.typeIs
 obtain ⟨o,ho,hc,hd⟩:=id st
 obtain ⟨od,es,hod,hcd,hdd,hk⟩:=m
 have hz:=im hk
 unfold pyNext
 refine wpAny_bind (wpAny_attempt (wpAny_callSpecial?_slot (name:=Str.ofString "__next__") ty PySem.F.slot_dict_valueiterator_next (wpAny_call_entry PySem.F.slot_dict_valueiterator_next ty PySem.F.entry_dict_valueiterator_next ?_ (PySem.F.args_dict_valueiterator_next_1 _))))
 refine wpAny_bind (wpAny_pure (wpAny_bind (wpAny_bind ?_)))
 first | refine wpAny_bind (wpAny_typeNameOfWhole_valiter ty (wpAny_pure (wpAny_bind (wpAny_fieldsOf ho hd ?_)))) | refine wpAny_bind (wpAny_typeNameOf_valiter ty (wpAny_pure (wpAny_bind (wpAny_fieldsOf ho hd ?_))))
 have own:Builtin.Dict_items.ownsTuple "dict_valueiterator"=false:=by decide
 simp only [own,Bool.false_eq_true,if_false]
 refine (show wpAny _ _ (if (Value.ref d==Value.none)=true then _ else _) _ _ s from ?_)
 rw [if_neg fun b0:(Value.ref d==Value.none)=true=>Bool.false_ne_true b0]
 refine wpAny_bind (wpAny_pure (wpAny_bind (wpAny_dictEntries hod hdd ?_)))
 rw [if_neg (by rw [hz];simp)]
 refine wpAny_bind (wpAny_pure (wpAny_bind (wpAny_dictEpoch hod hdd ?_)))
 rw [if_neg (by simp)]
 refine wpAny_pure ?_
 have hge:es.size<=i:=by lia
 simp only [show ¬ ((i:Int) <0)from by lia,if_false,Int.toNat_natCast,Array.getElem?_eq_none hge]
 refine wpAny_bind ?_
 first | refine wpAny_bind (wpAny_typeNameOfWhole_valiter ty (wpAny_pure ?_)) | refine wpAny_bind (wpAny_typeNameOf_valiter ty (wpAny_pure ?_))
 refine (show wpAny _ _ (setField (.ref j) 0 .none >>= _) _ _ s from wpAny_bind (wpAny_setField ho hd (by simp) ?_))
 refine (show wpAny _ _ (newExc (.type "StopIteration") [] >>= _) _ _ _ from wpAny_bind ?_)
 simp only [newExc,newTuple]
 refine wpAny_bind (wpAny_newObj_type (wpAny_bind (m:=firstArgMember _ _) (wpAny_of_eq (a:=Value.none) (by first | rfl | (simp only [firstArgMember];rfl)) (wpAny_newObj_type ?_ (by size_fits)))) (by size_fits))
 simp only [raiseNew]
 refine wpAny_bind (wpAny_handled ?_)
 rw [show A.in1.handled=none from hh]
 refine (wpAny_bind (wpAny_pure (wpAny_throw (?_))))
 refine wpAny_bind (wpAny_isInstance (T:="StopIteration") (b:=true) ⟨_,Heap.get?_push_size _ rfl,rfl⟩ isSubtype_stop (wpAny_pure (q _ ?_)))
 exact ((Heap.SameBut.update ..).extBut.push _).push _
theorem qj (hh:A.handled=none) (hne:d≠j):Walks prog w A j [j,d] [j] ks.length (fun i v=>ks[i]? =some v) (fun i h=>h.IsValIter j d i ks.length ep/\VEs h d ks ep) where
 sub:=fun b hb=>by rw [List.mem_singleton.mp hb];exact List.mem_cons_self
 frame:=fun _ _ _ st k=>⟨st.1.at fun o e=>k j (by simp) o e,st.2.keeps fun o e=>k d (by simp) o e⟩
 item:=fun i s Q E hi st hQ=>by
  have hx:ks[i]? =some ks[i]:=List.getElem?_eq_getElem hi
  refine tQ st.1 st.2 hx fun h' st' sb=>?_
  exact hQ _ h' s.toks hx ⟨st',st.2.keeps fun o e=>sb.extBut d o hne e⟩ fun b o hb e=>sb.extBut b o (fun z=>hb (by rw [z];exact List.mem_cons_self)) e
 done:=fun s Q E st hQ=>vz hh st.1 st.2 (Nat.le_refl _) fun h' eb=>hQ h' s.toks fun b o hb e=>eb b o (fun z=>hb (by rw [z];exact List.mem_cons_self)) e
 self:=fun _ _ _ _ st hQ=>wpAny_pyIter_valiter st.1 hQ
theorem src_ves {r:Addr}:PySem.W.KdlSrc prog w "dict_values" r d ks.length (fun i v=>ks[i]? =some v) (fun h=>h.IsValuesView r d/\VEs h d ks ep) where
 type:=fun _ m=>m.1.typeIs
 there:=fun _ m=>⟨by obtain ⟨_,ho,_⟩:=m.1;exact Heap.lt_size ho,m.2.lt⟩
 keep:=fun _ _ m k=>⟨by obtain ⟨o,ho,x⟩:=m.1;exact ⟨o,k r (.inl rfl) o ho,x⟩,m.2.keeps fun o e=>k d (.inr rfl) o e⟩
 notList:=by decide
 notTuple:=by decide
 hint:=fun _ _ _ _ m q=>PySem.W.kdl_hint_values m.1.typeIs q
 iter:=fun _ _ hh m=>⟨_,_,fun _ _ q=>ud m.1 m.2 q,qj hh (Nat.ne_of_lt m.2.lt),⟨⟨_,Heap.get?_push_size _ rfl,rfl,rfl⟩,m.2.keeps fun o e=>Heap.get?_push_of_some _ e⟩⟩
end
end HT
namespace L2
open PySem PySem.Spec PyProof.Rows
section
variable {X:Cx} {o l:Expr} {to tl:TE} {p pos apos cpos:Pos}
theorem uM {H:Hp} {kvs:List (List Key×V)} {xs:List (List Key×Addr×Value)} (r:KT H kvs xs):Vals (kvs.map (·.2)) (xs.map fun q=>q.2.2):=by
 induction r with
 | nil=>exact .nil
 | cons h _ ih=>exact .cons h.2.2 ih
noncomputable def tLv (to:TE):TE:=fun σ H Q=>to σ H fun x H1=> ∃ a kvs,x=.ref a/\H1 a=some (.dT kvs)/\ ∀ p,H1 p=none->Q (.ref p) (upd H1 p (.lst (kvs.map (·.2))))
theorem mz (hc:X.calm=true) (hg:Gl X "list") (hm:X.mg "list"=none) (ho:PE X o to)
  (hbase:attributeBase o "values" X.env (eval o X.env)=eval o X.env:=by rfl) (hline:(apos.endLine==cpos.line)=true:=by rfl):
  PE X (.Call (.Name "list" p) [.Call (.Attribute o "values" apos) [] [] cpos] [] pos) (tLv to):=by
 intro pins s σ H Q I h
 refine Call_ (dA I hg hm (show bootBuiltins "list"=some (.type "list") by decide +kernel) (PyProof.Rows.callWith_type1 (Calls.spliced_cons ?_) rfl rfl))
 refine wpAny_Call_method0_late hbase hline (thn (ho pins s σ H _ I h) fun v s1 ⟨x,H1,I1,r1,a,kvs,ex,ha,q1⟩=>?_)
 subst ex
 cases r1
 obtain ⟨hz,lo,ys,kt,ob,es,ep,h1,h2,h3,h4,h5⟩:=(show ObjOk X.prog X.w H1 s1.heap a (.dT kvs)from I1.hok a _ ha)
 have hm:HT.VEs s1.heap a (ys.map fun q=>q.2.2) ep:=by
  refine ⟨ob,es,h1,h2,h3,?_⟩
  rw [h4,List.map_map]
  rfl
 have hl:ys.length=kvs.length:=(Paired.length kt).symm
 refine ⟨"dict","dict.values",PySem.F.plainAttrs_dict,PySem.F.slot_dict_values,PySem.F.type_dict_values,hm.type,(fun b e=>?_),Calls.callWith_builtin rfl (PySem.evalArgs_none (HT.call_ves lo hm ?_))⟩
 ·cases e
  exact ⟨ob,h1,h2.2.1⟩
 refine Calls.spliced_nil ?_
 have kp0: ∀ b o,s1.heap.get? b=some o->(s1.heap.push {cls:=.type "dict_values",data:=.fields #[.ref a]}).get? b=some o:=fun b o e=>Heap.get?_push_of_some _ e
 refine PySem.W.kdl_call (HT.src_ves (r:=s1.heap.objs.size) (d:=a)) (I.ok.hd hc) ⟨⟨_,Heap.get?_push_size _ rfl,rfl,rfl⟩,hm.keeps fun o e=>kp0 _ o e⟩ (by rw [List.length_map];lia) fun h' tk acc c' kp e hi=>?_
 obtain ⟨i1,i2⟩:=hi
 have hacc:acc.toList=ys.map fun q=>q.2.2:=by
  refine List.ext_getElem? fun i=>?_
  rw [Array.getElem?_toList]
  cases hv:acc[i]? with
  | some v=>exact (i2 i v hv).symm
  | none=>
   have:acc.size<=i:=Array.getElem?_eq_none_iff.mp hv
   exact (List.getElem?_eq_none (by rw [<- i1];exact this)).symm
 have hsz:s1.heap.objs.size<=(s1.heap.push {cls:=.type "dict_values",data:=.fields #[.ref a]}).objs.size:=by rw [Heap.size_push];exact Nat.le_succ _
 refine ⟨.ref (s1.heap.push {cls:=.type "dict_values",data:=.fields #[.ref a]}).objs.size,_,I1.laid (t':=tk) (o:=.lst (kvs.map (·.2))) (fun b o z=>kp b o (kp0 b o z)) hsz ?_,rfl,q1 _ (I1.hok.fresh hsz)⟩
 refine ⟨by rw [List.length_map];lia,_,c',uM kt,?_⟩
 rw [<- hacc,Array.toArray_toList]
 exact e
noncomputable def Itv (K:PySem.W.Frag) (a:Addr) (n:Nat):It:=
 ⟨fun i H=>i<n/\ ∃ xs,xs.length=n/\SqL K H a xs,fun i H x H'=>H'=H/\ ∀ xs,SqL K H a xs->xs[n-1-i]? =some x,fun i H=>i=n⟩
theorem rV {P:Program} {w:World} {K:PySem.W.Frag} {tg:Expr} (a it:Addr) (n:Nat):nG P w K tg (Itv K a n) [it] it (fun i h=>h.IsRevIter it a ((n:Int) -1- (i:Int))) where
 mem:=by simp
 obj:=fun i h st b hb=>by
  have e:b=it:=by simpa using hb
  subst e
  obtain ⟨o,e,c,d⟩:=st
  exact ⟨o,e,fun v z=>by rw [d]at z;cases z⟩
 keep:=fun i h h' st k=>st.at fun o e=>k it (by simp) o e
 item:=by
  intro X hP hw hK hc i pins s σ H E I hf st hg
  subst hP hw hK
  obtain ⟨hi,xs,hn,hq⟩:=hg
  obtain ⟨its,rv,p,hz⟩:=I.list hq
  have hl:=rv.length
  have hx:xs[n-1-i]? =some (xs[n-1-i]'(by lia)):=List.getElem?_eq_getElem (by lia)
  obtain ⟨u,hu,ru⟩:=rv.get hx
  obtain ⟨f0,f1,f2,f3,f4,f5⟩:=hf it (by simp)
  have st1:s.heap.IsRevIter it a ((n-1-i:Nat):Int):=by
   have e:(n:Int) -1- (i:Int)=((n-1-i:Nat):Int):=by lia
   rw [<- e];exact st
  refine wpAny_pyNext_rev_item st1 p.isList (x:=u) (by simpa using hu) fun h' st' sb=>?_
  have I1:Inv X pins σ H {s with heap:=h'}:=I.turned (t':=s.toks) (fun b o hb e=>(sb.2 b hb).trans e) f0 f1 f3 f4 f5
  have st2:h'.IsRevIter it a ((n:Int) -1- ((i+1:Nat):Int)):=by
   have e:(n:Int) -1- ((i+1:Nat):Int)=((n-1-i:Nat):Int) -1:=by lia
   rw [e];exact st'
  obtain ⟨o,e,c,d⟩:=id st'
  exact ⟨u,rfl,nw (s:={s with heap:=h'}) e c d (by decide) ⟨_,H,I1,ru,⟨rfl,fun ys hy=>by rw [I.list_inj hy hq];exact hx⟩,st2,fun b hb=>(hf b hb).1⟩⟩
 done:=by
  intro X hP hw hK hc i pins s σ H E I hf st hg
  subst hP hw hK
  have hi:i=n:=hg
  obtain ⟨f0,f1,f2,f3,f4,f5⟩:=hf it (by simp)
  have st1:s.heap.IsRevIter it a (-1):=by
   have e:(n:Int) -1- (i:Int)= -1:=by lia
   rw [<- e];exact st
  exact wpAny_pyNext_rev_end (I.ok.hd hc) st1 fun h' eb=>⟨rfl,I.turned (t':=s.toks) (fun b o hb e=>eb b o hb e) f0 f1 f3 f4 f5⟩
 self:=fun _ _ _ _ _ st h=>wpAny_pyIter_revIter st h
noncomputable def yt (K:PySem.W.Frag) (tl:TE):TI:=fun σ H R=>tl σ H fun x H1=> ∃ a xs,x=.ref a/\SqL K H1 a xs/\R (Itv K a xs.length) H1
theorem sS {tg:Expr} (hg:Gl X "reversed") (hm:X.mg "reversed"=none) (hl:PE X l tl) (hs:starEach [l] X.env=[(false,eval l X.env)]:=by rfl):PI X tg (.Call (.Name "reversed" p) [l] [] pos) (yt X.K tl):=by
 intro pins s σ H R I h
 refine Call_ (dA I hg hm (show bootBuiltins "reversed"=some (.type "reversed") by decide +kernel) (PyProof.Rows.callWith_type1 (by rw [hs];exact Calls.spliced_cons (thn (hl pins s σ H _ I h) fun v s1 ⟨x,H1,I1,r1,q1⟩=>Calls.spliced_nil (by
  obtain ⟨a,xs,ex,hq,q⟩:=q1
  subst ex
  cases r1
  obtain ⟨its,rv,pl,hz⟩:=I1.list hq
  refine call_reversed_list pl.isList ?_
  refine wpAny_pyIter_revIter (i:=(its.toArray.size:Int) -1) ⟨_,Heap.get?_push_size _ rfl,rfl,rfl⟩ ?_
  refine ⟨s1.heap.objs.size,[s1.heap.objs.size],_,_,H1,rfl,I1.kept (t':=s1.toks) fun b o e=>Heap.get?_push_of_some _ e,rV a _ xs.length,⟨_,Heap.get?_push_size _ rfl,rfl,?_⟩,fun b hb=>?_,q⟩
  ·have e:(its.toArray.size:Int) -1=(xs.length:Int) -1- ((0:Nat):Int):=by rw [List.size_toArray,rv.length];lia
   rw [<- e];rfl
  ·have e:b=s1.heap.objs.size:=by simpa using hb
   subst e
   exact I1.fpOk (Nat.le_refl _) (I1.hok.fresh (Nat.le_refl _))))) (by rw [hs];rfl) rfl))
theorem pW {K:PySem.W.Frag} {a:Addr} {xs:List V} {g:TG} {tb:TS} {D:eR} {σ:St} {H:Hp} (Pv:Nat->St->Hp->Prop) (h0:Pv 0 σ H) (hl: ∀ i σ H,i<=xs.length->Pv i σ H->SqL K H a xs)
  (step: ∀ i x σ H,i<xs.length->xs[xs.length-1-i]? =some x->Pv i σ H->g x σ H fun σ2 H2=>tb {D with nx:=Pv (i+1),ct:=Pv (i+1),bk:=D.nx} σ2 H2) (fin: ∀ σ H,Pv xs.length σ H->D.nx σ H):
  ∃ W:Nat->Nat->St->Hp->Prop,(∃ m,W 0 m σ H)/\ ∀ i m σ H,W i m σ H->
   ((Itv K a xs.length).stop i H/\D.nx σ H)\/((Itv K a xs.length).go i H/\ ∃ N:St->Hp->Prop,(∀ σ' H',N σ' H'-> ∃ m',m'<m/\W (i+1) m' σ' H')/\ ∀ x H',(Itv K a xs.length).yld i H x H'->g x σ H' fun σ2 H2=>tb {D with nx:=N,ct:=N,bk:=D.nx} σ2 H2):=by
 refine ⟨fun i m σ H=>m=xs.length-i/\i<=xs.length/\Pv i σ H,⟨xs.length,by simp,Nat.zero_le _,h0⟩,?_⟩
 rintro i m σ H ⟨rfl,hi,p⟩
 have q:=hl i σ H hi p
 by_cases hlt:i<xs.length
 ·refine .inr ⟨⟨hlt,xs,rfl,q⟩,Pv (i+1),fun σ' H' p'=>⟨xs.length- (i+1),by lia,rfl,hlt,p'⟩,fun x H' y=>?_⟩
  obtain ⟨e,y⟩:=y
  subst e
  exact step i x σ _ hlt (y xs q) p
 ·have e:i=xs.length:=by lia
  subst e
  exact .inl ⟨rfl,fin σ H p⟩
end
section
variable {P:Program} {w:World} {K:PySem.W.Frag} {mg:Str->Option Value} {base:Heap}
theorem Fun.okTG {CX:CXT} {x qual:Str} {st:Stmt} {f:Addr} {fd:FuncData} {N ps:List Str} {k:Nat} {sp:Sp} (F:Fun K x qual st f fd) (S:aI N ps (aj st)) (len: ∀ vs H Q E,sp vs H Q E->vs.length=ps.length)
  (hbody: ∀ (cdv:Value) (A:Around) (outer:List Env) (s:Shared) (H:Hp) (vs:List V) (Q:VK) (E:XK),Room k (A.deeper (envOfC qual (aj st) s.heap.objs.size f cdv))->sp vs H Q E->
   ∃ t,PSst (cY CX P w K mg base N qual (aj st) f cdv A outer s H E) (cz st) t/\t {nx:=fun _ H'=>Q .non H',rt:=Q} (dG N vs) H):eA P w K mg base CX (k+1) f fd ps sp:=by
 obtain ⟨oc,od,kV,doc,pm,an,cdv,ct,osl,rfl,lk,hcd⟩:=F.ex
 refine ⟨len,fun A outer s H args us vs Q E hk hr e0 hb r hsp=>?_⟩
 have hl:=len _ _ _ _ hsp
 have KX:K.In s.heap:=e0.mod.kin.keeps fun b o e=>(e0.bs b o e).1
 have lim:s.heap.NoLimit:=e0.mod.nolimit.keeps fun b o e=>(e0.bs b o e).1
 have hkind: ∀ y∈ps.zip us,(aj st).names.lookup y.1=some .local\/((aj st).names.lookup y.1=some .cell/\((cellsFrom (s.heap.objs.size+1) (aj st).names []).lookup y.1).isSome=true):=fun ⟨n,v⟩ hy=>by
  rcases S.par n (List.of_mem_zip hy).1 with q | q
  ·exact .inl q
  ·exact .inr ⟨q,PySem.W.cellsFrom_some _ _ _ (.inl q)⟩
 refine codeAny_call_function hr.depth (KX _ _ lk) rfl S.co S.gen rfl (PySem.W.codeRec_of KX hcd) (hb _ _ _ _ ?_)
 refine eX hk (wpAny_newFunctionEnv_cells (Q:=fun env s1=>env=newEnv (aj st) s.heap.objs.size _ (cellsFrom (s.heap.objs.size+1) (aj st).names []) _ _ _ none _/\InCallC s env.locals (bindL env.kindOf (ps.zip us) fun _=>none) env.cells (bindC env.kindOf (ps.zip us) fun _=>none) s1) S.kind hkind fun env he s1 x=>⟨he,x⟩) fun env s1 hk1 ⟨he,x⟩=>?_
 subst he
 refine ⟨lim.keeps x.toInCall.keep,codeAny_func ?_⟩
 obtain ⟨t,ht0,hq⟩:=hbody cdv A outer s H vs Q E (hr.deeper _) hsp
 have ht:=ht0
 have I:Inv (cY CX P w K mg base N qual (aj st) f cdv A outer s H E) [] (dG N vs) H s1:=iw S hr.hd e0 hl r x
 refine wpAny_mono (ht [] s1 (dG N vs) H _ hk1 I hq) (fun fl s' hs=>?_) fun e s' hs=>hs
 have fin: ∀ {σ':St} {H':Hp} {v:V} {u:Value},Inv (cY CX P w K mg base N qual (aj st) f cdv A outer s H E) [] σ' H' s'->RelV v u->Q v H'->CE outer P w H s Q u s':=
  fun {σ' H' v u} J rv q=>⟨v,H',J.os,J.bare,J.base,J.hok,rv,q⟩
 cases fl with
 | ret u=>
  obtain ⟨v,σ',H',J,rv,q⟩:=hs
  exact fin J rv q
 | next=>
  obtain ⟨σ',H',J,q⟩:=hs
  exact fin (v:=V.non) (u:=Value.none) J rfl q
 | brk=>
  obtain ⟨_,_,_,q⟩:=hs
  exact False.elim q
 | cont=>
  obtain ⟨_,_,_,q⟩:=hs
  exact False.elim q
end
section
variable {X:Cx}
theorem sN {C CB f:Addr} {fd:FuncData} {ps:List Str} {sp:Sp} {k i j:Nat} {fn y cb n:Str} {e:Expr} {es:List Expr} {t:TA} {ts:TS} {p py cp ap np hp tp:Pos} {b₀:Stmt} {suite:List Stmt} {rest:List ExceptHandler}
  (hxe: ∀ e s,X.xe e s->False) (hst:X.stack=X.env::X.outer) (hfr:X.env.frame=some X.env.locals) (hN:X.N.Nodup)
  (F:eA X.prog X.w X.K X.mg X.base (CX1 X.prog X.w C) k f fd ps sp) (hr:Room k X.A) (hgf:Gl X fn) (hmf:X.mg fn=some (.ref f)) (hkf:PySem.W.keepIn X.K (.ref f)=true) (hb:Binds X.K fd ps []) (ha:PA X (e::es) t)
  (hj:X.N[j]? =some y) (hy:Loc X.env.scope y) (hi:X.N[i]? =some n) (hk:X.env.scope.names.lookup n=some .local) (hg:Gl X cb) (hm:X.mg cb=some (.ref CB)) (Z:CaC X.K C CB)
  (hs: ∀ x,PSs (X.marked (.ref x)) (b₀::suite) ts) (hd:(cb==("__debug__":Str))=false:=by decide) (hdb:(fn==("__debug__":Str))=false:=by decide)
  (hsw:swapsWith (.Call (.Name fn p) (e::es) [] cp) (some (.Name y py)) ap.line X.env=pure false:=by rfl) (hf:X.fn y=true\/X.env.scope.names.lookup y=some .local:=by first | exact .inl rfl | exact .inr rfl | assumption)
  (he:starEach (e::es) X.env=(false,eval e X.env)::starEach es X.env:=by rfl) (hpl:(backTo cp (starEach es X.env)).any (·.1)=false:=by rfl):
  PSt X (.Try [.Assign [.Name y py] (.Call (.Name fn p) (e::es) [] cp) ap] (.ExceptHandler (some (.Name cb np)) (some n) (b₀::suite) hp::rest) [] [] tp) (yj sp C t j i ts):=by
 intro pins s σ H D hk0 I h
 refine wpAny_Try_except (wpAny_execs_cons (wpAny_Assign_Name ?_ hsw))
 refine wpAny_Call_Name_kw (eL I hgf hmf ?_ hdb)
 refine PySem.W.callWith_K (h₀:=X.base) I.ok.mod.kin hkf (wpAny_mono (eX hk0 (ha cp pins s σ H _ I h) fun us s1 hk1 q=>And.intro hk1 q) (fun us s1 ⟨hk1,vs,H1,I1,r,q⟩=>⟨I1.kIn,?_⟩) fun e s z=>(hxe e s z).elim) he hpl
 have hl:(us++[]).length=ps.length:=by rw [List.append_nil,<- r.length];exact F.len _ _ _ _ q
 have hb':=hb s1 us I1.kIn hl
 rw [List.append_nil]at hb'
 refine wpAny_call (codeAny_mono (F.run X.A X.stack s1 H1 ⟨us,[]⟩ us vs _ _ hk1 hr I1.env0 hb' r q) fun r2 s2 hq=>?_)
 cases r2 with
 | error e2=>
  obtain ⟨x,T,H2,rfl,os,bare,un,hok,rc,nx,nT,fx,fT,q2⟩:=hq
  exact vp I1 ⟨un,hok,rc,nx,nT,fx,fT⟩ os bare hst hfr hN hi hk hg hm Z (hs x) (q2 x fx) hd
 | ok fl=>
  cases fl with
  | ret u=>
   obtain ⟨v,H2,I2,r2,q2⟩:=I1.after hq
   exact cX I2 hN hj hy r2 (fun s3 I3=>wpAny_execs_nil (wpAny_execs_nil ⟨_,_,I3,q2⟩)) hf
  | next=>exact False.elim hq
  | brk=>exact False.elim hq
  | cont=>exact False.elim hq
theorem sQ {c:Expr} {a b:List Stmt} {tc:TT} {t u:TS} {pos:Pos} (hc:PTt X c tc) (ha:PSst X a t) (hb:PSst X b u):PSt X (.If c a b pos) (xt tc t u):=by
 intro pins s σ H D hk I h
 refine wpAny_If (eX hk (hc pins s σ H _ hk I h) fun d s1 hk1 ⟨H1,I1,q1⟩=>?_)
 cases d with
 | true=>exact ha pins s1 σ H1 D hk1 I1 q1
 | false=>exact hb pins s1 σ H1 D hk1 I1 q1
theorem pF {tg iter:Expr} {body:List Stmt} {wi:TI} {g:TG} {tb:TS} {pos:Pos} (hp:PassesOwn (model X.prog X.w) X.A X.env X.xe) (hc:X.calm=true) (hi:PI X tg iter wi) (hg:PG X tg g) (hb:PSst X body tb)
  (hs: ∀ x,foldedSetIterable iter X.env x=pure x:=by intro _;rfl):PSt X (.For tg iter body [] pos) (xu wi g tb):=by
 intro pins s σ H D hk I h
 refine wpAny_For (eX hk (hi pins s σ H _ I h) fun v s1 hk1 h1=>eX hk1 h1 fun itv s2 hk2 h2=>?_) hs
 obtain ⟨it,fp,tn,J,H2,e,I2,T,st2,f2,W,⟨m0,w0⟩,turn⟩:=h2
 subst e
 have stat: ∀ {H':Hp},(∀ b∈fp,H' b=none)-> ∀ b∈fp,iN X pins H' b:=fun hn b hb=>⟨hn b hb,(f2 b hb).2⟩
 refine codeAny_forLoop_any (fun n s'=>0<s'.toks/\ ∃ i σ' H',Inv X pins σ' H' s'/\tn i s'.heap/\(∀ b∈fp,H' b=none)/\W i n σ' H') ?_ m0 ⟨hk2,0,σ,H2,I2,st2,fun b hb=>(f2 b hb).1,w0⟩
 rintro n s3 ⟨hk3,i,σ3,H3,I3,st3,fr3,w3⟩
 rcases turn i n σ3 H3 w3 with ⟨stop,qn⟩ | ⟨go,N,hN,step⟩
 ·refine wpAny_passesOwn hp (thn (T.done X rfl rfl rfl hc i pins s3 σ3 H3 X.xe I3 (stat fr3) st3 stop) fun r s4 ⟨hr,I4⟩=>?_)
  subst hr
  exact wpAny_execs_nil ⟨σ3,H3,I4,qn⟩
 ·refine wpAny_passesOwn hp (eX hk3 (T.item X rfl rfl rfl hc i pins s3 σ3 H3 X.xe I3 (stat fr3) st3 go) fun r s4 hk4 ⟨u,hr,h4⟩=>?_)
  subst hr
  refine wpAny_passesOwn hp (eX hk4 h4 fun _ s5 hk5 ⟨x,H5,I5,r5,y5,st5,fr5⟩=>?_)
  have I5':=I5.pinned (stat fr5) (T.obj _ _ st5)
  refine wpAny_passesOwn hp (eX hk5 (hg _ s5 σ3 H5 x u _ I5' r5 (step x H5 y5)) fun _ s6 hk6 ⟨σ6,H6,I6,q6⟩=>?_)
  refine wpAny_passesOwn hp (eX hk6 (hb _ s6 σ6 H6 _ hk6 I6 q6) fun f s7 hk7 q7=>?_)
  have again: ∀ {σ7:St} {H7:Hp},Inv X (pins++jf fp s5.heap) σ7 H7 s7->N σ7 H7-> ∃ m,m<n/\0<s7.toks/\ ∃ i σ' H',Inv X pins σ' H' s7/\tn i s7.heap/\(∀ b∈fp,H' b=none)/\W i m σ' H':=fun {σ7 H7} I7 n7=>by
   obtain ⟨m',hm,w7⟩:=hN σ7 H7 n7
   refine ⟨m',hm,hk7,i+1,σ7,H7,I7.unpinned,T.keep _ _ _ st5 fun b hb o e=>(I7.pin (b,o) (List.mem_append_right _ (List.mem_append_right _ (br hb e)))).1,fun b hb=>?_,w7⟩
   obtain ⟨o,e,d⟩:=T.obj _ _ st5 b hb
   exact (I7.pin (b,o) (List.mem_append_right _ (List.mem_append_right _ (br hb e)))).2.1
  cases f with
  | next=>obtain ⟨σ7,H7,I7,n7⟩:=q7;exact again I7 n7
  | cont=>obtain ⟨σ7,H7,I7,n7⟩:=q7;exact again I7 n7
  | brk=>obtain ⟨σ7,H7,I7,q7⟩:=q7;exact ⟨σ7,H7,I7.unpinned,q7⟩
  | ret v=>obtain ⟨x7,σ7,H7,I7,r7,q7⟩:=q7;exact ⟨x7,σ7,H7,I7.unpinned,r7,q7⟩
theorem sM {CX:CXT} {k:Nat} {f:Addr} {fd:FuncData} {ps:List Str} {sp:Sp} {E:XK} {x y:Str} {p p1 pos py ap:Pos} {i:Nat} {j:Nat} {c:Int} {e:Expr} {es:List Expr} {te:TE} {t:TA} {sts:List Stmt} {u:TS}
  (hN:X.N.Nodup) (hi:X.N[i]? =some y) (hy:Loc X.env.scope y) (F:FnOk X.prog X.w X.K X.mg X.base CX k f fd ps sp) (hr:Room k X.A) (hg:Gl X x) (hm:X.mg x=some (.ref f)) (hkp:PySem.W.keepIn X.K (.ref f)=true) (hb:Binds X.K fd ps []) (hx:iB CX X E)
  (he:PE X e te) (ha:PA X es t) (h2:PSst X sts u) (hdb:(x==("__debug__":Str))=false:=by decide)
  (hst:starEach (e:: .Constant (.int c) j p1::es) X.env=(false,eval e X.env)::starEach (.Constant (.int c) j p1::es) X.env:=by rfl) (hst2:starEach (.Constant (.int c) j p1::es) X.env=(false,eval (.Constant (.int c) j p1) X.env)::starEach es X.env:=by rfl)
  (hpl:(backTo pos (starEach (.Constant (.int c) j p1::es) X.env)).any (·.1)=false:=by rfl)
  (hsw:swapsWith (.Call (.Name x p) (e:: .Constant (.int c) j p1::es) [] pos) (some (.Name y py)) ap.line X.env=pure false:=by rfl) (hf:X.fn y=true\/X.env.scope.names.lookup y=some .local:=by first | exact .inl rfl | exact .inr rfl | assumption):
  PSs X (.Assign [.Name y py] (.Call (.Name x p) (e:: .Constant (.int c) j p1::es) [] pos) ap::sts) (vY (ml (sd sp [] E (mj te (mj (tC (.int c)) t))) (eW i)) u):=by
 intro pins s σ H D I h
 refine wpAny_execs_cons (wpAny_Assign_Name ?_ hsw)
 refine wpAny_Call_Name_kw (eL I hg hm ?_ hdb)
 refine PySem.W.callWith_K (h₀:=X.base) I.ok.mod.kin hkp ?_ hst hpl
 rw [hst]
 refine Calls.spliced_cons (thn (he pins s σ H _ I h) fun v1 s1 ⟨x1,H1,I1,r1,q1⟩=>?_)
 rw [hst2]
 refine Calls.spliced_cons (wpAny_Constant_int (k:=j) (pos:=p1) ?_)
 have hk2:0< ({s1 with toks:=s1.toks+1}:Shared).toks:=Nat.succ_pos _
 refine eX hk2 (ha pos pins _ σ H1 _ (I1.tok _) q1) fun us s3 hk3 ⟨vs,H3,I3,r3,q3⟩=>⟨I3.kIn,?_⟩
 refine eX hk3 (sF F hr hb .nil hx I3 (.cons r1 (.cons (show RelV (.int c) (.int c _)from ⟨_,rfl⟩) r3)) q3) fun v s4 hk4 ⟨z,H4,I4,r4,q4⟩=>?_
 refine eX hk4 (cX (Q:=fun _ s5=> ∃ σ5 H5,Inv X pins σ5 H5 s5/\u D σ5 H5) I4 hN hi hy r4 (fun s5 I5=>⟨_,H4,I5,q4⟩) hf) fun _ s5 hk5 ⟨σ5,H5,I5,q5⟩=>?_
 exact h2 pins s5 σ5 H5 D hk5 I5 q5
end
end L2
namespace HT
open PySem PyProof.Rows
noncomputable abbrev de (h:Heap) (z TI TO T:Addr) (fl:Bool):Prop:=
 h.get? z=some {cls:=.type "zip",dict:=none,data:=.fields #[rawInt T,.bool fl,.bool false,.ref TI,.ref TO],slots:= #[]}
section
variable {prog:Program} {w:World} {A:Around} {s:Shared} {E:Value->Shared->Prop} {z TI TO T i1 i2:Addr} {fl:Bool} {f1 f2:List Addr} {n1 n2 k:Nat} {P1 P2:Nat->Value->Prop} {S1 S2:Nat->Heap->Prop} {a b:Value}
theorem l8 {Q:Bool->Shared->Prop} (hz:de s.heap z TI TO T fl) (hT: ∃ o,s.heap.get? T=some o) (q: ∀ h',de h' z TI TO T true->Heap.SameBut z s.heap h'->Q false {s with heap:=h'}):
  wpAny (model prog w) A (Builtin.SmallTypes.ownedTupleIsFree (.ref z)) Q E s:=by
 unfold Builtin.SmallTypes.ownedTupleIsFree
 refine wpAny_bind (wpAny_field hz rfl (x:=rawInt T) rfl ?_)
 obtain ⟨o,ho⟩:=hT
 show wpAny _ _ (loadIfAlive (Int.ofNat T).toNat >>= _) _ _ s
 refine wpAny_bind (PySem.W.kdx_alive (show s.heap.get? (Int.ofNat T).toNat=some o from ho) ?_)
 show wpAny _ _ (field (.ref z) 1 >>= _) _ _ s
 refine wpAny_bind (wpAny_field hz rfl (x:=.bool fl) rfl ?_)
 cases fl with
 | true=>exact wpAny_pure (q s.heap hz ⟨rfl,fun _ _=>rfl⟩)
 | false=>exact wpAny_bind (wpAny_setField_rec hz (by simp) fun g1 zz1 sb1=>wpAny_pure (q g1 zz1 sb1))
theorem qi {Q:Value->Shared->Prop} (D1:Draws prog w A i1 f1 n1 P1 S1) (D2:Draws prog w A i2 f2 n2 P2 S2) (D:ZAp z TI TO i1 i2 f1 f2)
  (hz:de s.heap z TI TO T fl) (hT: ∃ o,s.heap.get? T=some o) (hTI:IsPair s.heap TI (.ref i1) (.ref i2)) (st1:S1 k s.heap) (st2:S2 k s.heap) (k1:k<n1) (k2:k<n2)
  (q: ∀ x y h' tk,P1 k x->P2 k y->de h' z TI TO T true->S1 (k+1) h'->S2 (k+1) h'->IsPair h' s.heap.objs.size x y->
   (∀ c o,c≠z->c≠i1->c≠i2->s.heap.get? c=some o->h'.get? c=some o)->Q (.ref s.heap.objs.size) {s with heap:=h',toks:=tk}):
  wpAny (model prog w) A (Builtin.«zip.__next__» ⟨[.ref z],[]⟩) (fun fin s'=> ∃ v,fin=.done (.ret v)/\Q v s') E s:=by
 refine (show wpAny _ _ (field (.ref z) 2 >>= _) _ _ _ from wpAny_bind (wpAny_field hz rfl (x:=.bool false) rfl ?_))
 refine (show wpAny _ _ (field (.ref z) 3 >>= _) _ _ _ from wpAny_bind (wpAny_field hz rfl (x:=.ref TI) rfl (wpAny_bind (wpAny_seqItems hTI rfl ?_))))
 refine (show wpAny _ _ (Builtin.SmallTypes.ownedTupleIsFree (.ref z) >>= _) _ _ _ from wpAny_bind (l8 hz hT fun g1 zz1 sb1=>?_))
 simp only [Bool.false_eq_true,if_false]
 refine wpAny_bind ?_
 rw [<- Array.forIn_toList]
 simp only [List.forIn_cons,List.forIn_nil]
 refine wpAny_bind (wpAny_bind (wpAny_holding (show wpAny _ _ (Builtin.SmallTypes.nextOf (.ref i1) >>= _) _ _ _ from ?_)))
 refine wpAny_bind (D1.item k _ _ _ k1 (D1.frame k s.heap g1 st1 fun c hc o e=>sb1.extBut c o (fun x=>D.z1 (x▸hc)) e) fun x g2 tk2 hx s1' sb2=>wpAny_pure (wpAny_pure ?_))
 refine wpAny_bind (wpAny_bind (wpAny_holding (show wpAny _ _ (Builtin.SmallTypes.nextOf (.ref i2) >>= _) _ _ _ from ?_)))
 refine wpAny_bind (D2.item k _ _ _ k2 (D2.frame k s.heap g2 st2 fun c hc o e=>sb2.extBut c o (fun x=>D.q2 (x▸hc)) (sb1.extBut c o (fun x=>D.z2 (x▸hc)) e)) fun y g3 tk3 hy s2' sb3=>wpAny_pure (wpAny_pure (wpAny_pure ?_)))
 refine wpAny_bind (wpAny_newTuple ?_ (by show 2<=sizeLine;decide))
 have sz:g3.objs.size=s.heap.objs.size:=by rw [sb3.1,sb2.1,sb1.1]
 have zz3:de g3 z TI TO T true:=sb3.extBut _ _ D.a2z.symm (sb2.extBut _ _ D.a1z.symm zz1)
 refine wpAny_pure ⟨_,rfl,(show Q (.ref g3.objs.size) _ from ?_)⟩
 rw [sz]
 refine q x y _ _ hx hy (Heap.get?_push_of_some _ zz3) ?_ ?_ ?_ ?_
 ·exact D1.frame (k+1) g2 _ s1' fun c hc o e=>Heap.get?_push_of_some _ (sb3.extBut c o (fun x=>D.q1 (x▸hc)) e)
 ·exact D2.frame (k+1) g3 _ s2' fun c hc o e=>Heap.get?_push_of_some _ e
 ·rw [<- sz];exact Heap.get?_push_size _ rfl
 ·intro c o c1 c3 c4 e
  exact Heap.get?_push_of_some _ (sb3.extBut c o c4 (sb2.extBut c o c3 (sb1.extBut c o c1 e)))
theorem kJ {Q:Fin->Shared->Prop} (D1:Draws prog w A i1 f1 n1 P1 S1) (D:ZAp z TI TO i1 i2 f1 f2)
  (hz:de s.heap z TI TO T fl) (hT: ∃ o,s.heap.get? T=some o) (hTI:IsPair s.heap TI (.ref i1) (.ref i2)) (st1:S1 n1 s.heap)
  (q: ∀ h' e,(∀ c o,c≠z->c≠i1->s.heap.get? c=some o->h'.get? c=some o)->(∃ o,h'.get? e=some o/\o.cls=.type "StopIteration")->E (.ref e) {s with heap:=h'}):
  wpAny (model prog w) A (Builtin.«zip.__next__» ⟨[.ref z],[]⟩) Q E s:=by
 refine (show wpAny _ _ (field (.ref z) 2 >>= _) _ _ _ from wpAny_bind (wpAny_field hz rfl (x:=.bool false) rfl ?_))
 refine (show wpAny _ _ (field (.ref z) 3 >>= _) _ _ _ from wpAny_bind (wpAny_field hz rfl (x:=.ref TI) rfl (wpAny_bind (wpAny_seqItems hTI rfl ?_))))
 refine (show wpAny _ _ (Builtin.SmallTypes.ownedTupleIsFree (.ref z) >>= _) _ _ _ from wpAny_bind (l8 hz hT fun g1 zz1 sb1=>?_))
 simp only [Bool.false_eq_true,if_false]
 refine wpAny_bind ?_
 rw [<- Array.forIn_toList]
 simp only [List.forIn_cons,List.forIn_nil]
 refine wpAny_bind (wpAny_bind (wpAny_holding (show wpAny _ _ (Builtin.SmallTypes.nextOf (.ref i1) >>= _) _ _ _ from ?_)))
 exact wpAny_bind (D1.done _ _ _ (D1.frame n1 s.heap g1 st1 fun c hc o e=>sb1.extBut c o (fun x=>D.z1 (x▸hc)) e) fun g2 e eb2 he=>q g2 e (fun c o c1 c3 x=>eb2 c o c3 (sb1.extBut c o c1 x)) he)
theorem qU {Q:Option Value->Shared->Prop} (D1:Draws prog w A.in1 i1 f1 n1 P1 S1) (D2:Draws prog w A.in1 i2 f2 n2 P2 S2) (D:ZAp z TI TO i1 i2 f1 f2)
  (hz:de s.heap z TI TO T fl) (hT: ∃ o,s.heap.get? T=some o) (hTI:IsPair s.heap TI (.ref i1) (.ref i2)) (st1:S1 k s.heap) (st2:S2 k s.heap) (k1:k<n1) (k2:k<n2)
  (q: ∀ x y h' tk,P1 k x->P2 k y->de h' z TI TO T true->S1 (k+1) h'->S2 (k+1) h'->IsPair h' s.heap.objs.size x y->
   (∀ c o,c≠z->c≠i1->c≠i2->s.heap.get? c=some o->h'.get? c=some o)->Q (some (.ref s.heap.objs.size)) {s with heap:=h',toks:=tk}):
  wpAny (model prog w) A (pyNext (.ref z)) Q E s:=by
 have ty:s.TypeIs (.ref z) "zip":=⟨_,hz,rfl⟩
 unfold pyNext
 exact wpAny_bind (wpAny_attempt (wpAny_callSpecial?_slot (name:=Str.ofString "__next__") ty PySem.F.slot_zip_next (wpAny_call_entry PySem.F.slot_zip_next ty PySem.F.entry_zip_next
  (qi D1 D2 D hz hT hTI st1 st2 k1 k2 fun x y h' tk a0 b0 a1 a3 a4 a5 a6=>wpAny_pure (q x y h' tk a0 b0 a1 a3 a4 a5 a6)) (PySem.F.args_zip_next_1 _))))
theorem ul {Q:Option Value->Shared->Prop} (D1:Draws prog w A.in1 i1 f1 n1 P1 S1) (D:ZAp z TI TO i1 i2 f1 f2)
  (hz:de s.heap z TI TO T fl) (hT: ∃ o,s.heap.get? T=some o) (hTI:IsPair s.heap TI (.ref i1) (.ref i2)) (st1:S1 n1 s.heap)
  (q: ∀ h',(∀ c o,c≠z->c≠i1->s.heap.get? c=some o->h'.get? c=some o)->Q none {s with heap:=h'}):wpAny (model prog w) A (pyNext (.ref z)) Q E s:=by
 have ty:s.TypeIs (.ref z) "zip":=⟨_,hz,rfl⟩
 unfold pyNext
 refine wpAny_bind (wpAny_attempt (wpAny_callSpecial?_slot (name:=Str.ofString "__next__") ty PySem.F.slot_zip_next (wpAny_call_entry PySem.F.slot_zip_next ty PySem.F.entry_zip_next
  (kJ D1 D hz hT hTI st1 fun h' e kk he=>?_) (PySem.F.args_zip_next_1 _))))
 obtain ⟨o,ho,hc⟩:=he
 exact wpAny_bind (wpAny_isInstance (T:="StopIteration") (b:=true) ⟨o,ho,hc⟩ isSubtype_stop (wpAny_pure (q _ kk)))
end
theorem qT:typeLookup (.type "zip") "__len__"=pure none:=by rw [typeLookup_type,builtinLookup_eq_fast];kernel_rfl
theorem oI:typeLookup (.type "zip") "__length_hint__"=pure none:=by rw [typeLookup_type,builtinLookup_eq_fast];kernel_rfl
section
variable {prog:Program} {w:World} {A:Around} {s:Shared} {E:Value->Shared->Prop} {z TI TO i1 i2 l1 l2:Addr} {c:Bool} {xs ys:Array Value}
theorem uJ {Q:Bool->Shared->Prop} (hT:s.TypeIs (.ref z) "zip") (h:Q true s):wpAny (model prog w) A (Builtin.List.listLengthHint (.ref z)) Q E s:=by
 unfold Builtin.List.listLengthHint
 refine wpAny_bind (wpAny_specialOf hT (r:=none) qT ?_)
 refine wpAny_ite_split (fun hab=>absurd hab (by decide)) (fun _=>?_)
 refine wpAny_ite_split (fun hab=>absurd hab (by decide)) (fun _=>?_)
 refine wpAny_bind (wpAny_specialOf hT (r:=none) oI ?_)
 exact wpAny_pure h
noncomputable def ZSt (c:Bool) (z TI TO i1 i2 l1 l2:Addr) (xs ys:Array Value) (i:Nat) (h:Heap):Prop:=
 IsPair h TI (.ref i1) (.ref i2)/\(SIter c h i1 l1 i/\SSeq c h l1 xs)/\(SIter c h i2 l2 i/\SSeq c h l2 ys)/\
  ((IsZip h z TI TO .none/\ ∃ a b,IsPair h TO a b)\/ ∃ T fl,de h z TI TO T fl/\T∉[z,i1,i2]/\ ∃ o,h.get? T=some o)
theorem ZSt.live {i:Nat} {h:Heap} (st:ZSt c z TI TO i1 i2 l1 l2 xs ys i h):(∃ o,h.get? z=some o)/\(∃ o,h.get? i1=some o)/\ ∃ o,h.get? i2=some o:=by
 obtain ⟨_,⟨a1,_⟩,⟨a2,_⟩,zz⟩:=st
 refine ⟨?_,?_,?_⟩
 ·rcases zz with ⟨x,_⟩ | ⟨T,fl,x,_⟩
  ·exact ⟨_,x⟩
  ·exact ⟨_,x⟩
 ·obtain ⟨o,e,_⟩:=a1.obj;exact ⟨o,e⟩
 ·obtain ⟨o,e,_⟩:=a2.obj;exact ⟨o,e⟩
theorem ZSt.at {i:Nat} {h h':Heap} {S:Addr} (hS:S∉[z,TI,TO,i1,i2,l1,l2]) (st:ZSt c z TI TO i1 i2 l1 l2 xs ys i h) (hk: ∀ b o,b≠S->h.get? b=some o->h'.get? b=some o) (hSS: ∀ o,h.get? S=some o-> ∃ o',h'.get? S=some o'):ZSt c z TI TO i1 i2 l1 l2 xs ys i h':=by
 simp only [List.mem_cons,List.not_mem_nil,or_false,not_or]at hS
 obtain ⟨n1,n2,n3,n4,n5,n6,n7⟩:=hS
 obtain ⟨a0,⟨a1,a2⟩,⟨a3,a4⟩,zz⟩:=st
 refine ⟨hk _ _ (Ne.symm n2) a0,⟨a1.at fun o e=>hk _ o (Ne.symm n4) e,a2.at fun o e=>hk _ o (Ne.symm n6) e⟩,⟨a3.at fun o e=>hk _ o (Ne.symm n5) e,a4.at fun o e=>hk _ o (Ne.symm n7) e⟩,?_⟩
 rcases zz with ⟨x,a,b,y⟩ | ⟨T,fl,x,nT,o,y⟩
 ·exact .inl ⟨hk _ _ (Ne.symm n1) x,a,b,hk _ _ (Ne.symm n3) y⟩
 ·refine .inr ⟨T,fl,hk _ _ (Ne.symm n1) x,nT,?_⟩
  by_cases e:T=S
  ·subst e;exact hSS o y
  ·exact ⟨o,hk _ _ e y⟩
structure Its (S z i1 i2:Addr) (xs ys:Array Value) (acc:Array Value) (h:Heap):Prop where
 it: ∀ (j:Nat) (v:Value),acc[j]? =some v-> ∃ T x y,v=Value.ref T/\S<T/\T∉[S,z,i1,i2]/\xs[j]? =some x/\ys[j]? =some y/\IsPair h T x y
 nd: ∀ (j j':Nat) (v:Value),acc[j]? =some v->acc[j']? =some v->j=j'
theorem Its.nil {S z i1 i2:Addr} {xs ys:Array Value} {h:Heap}:Its S z i1 i2 xs ys #[] h:=⟨fun j v hv=>by simp at hv,fun j j' v hv=>by simp at hv⟩
theorem Its.keep {S z i1 i2:Addr} {xs ys acc:Array Value} {h h':Heap} (x:Its S z i1 i2 xs ys acc h) (kk: ∀ b o,b≠S->b≠z->b≠i1->b≠i2->h.get? b=some o->h'.get? b=some o):Its S z i1 i2 xs ys acc h':=by
 refine ⟨fun j v hv=>?_,x.nd⟩
 obtain ⟨T,a,b,e,lt,nT,ex,ey,p⟩:=x.it j v hv
 have nT2:=nT
 simp only [List.mem_cons,List.not_mem_nil,or_false,not_or]at nT2
 exact ⟨T,a,b,e,lt,nT,ex,ey,kk _ _ nT2.1 nT2.2.1 nT2.2.2.1 nT2.2.2.2 p⟩
theorem uH {R:Result->Shared->Prop} (hh:A.handled=none) (S:Addr) (D:ZAp z TI TO i1 i2 [i1,l1] [i2,l2]) (h1:l1≠i1) (h2:l2≠i2) (hS:S∉[z,TI,TO,i1,i2,l1,l2]) (hsz:xs.size=ys.size) (hle:xs.size<=sizeLine) (res:Value):
  ∀ (k i:Nat) (s:Shared) (acc:Array Value) (c0:Nat),xs.size-i=k->i<=xs.size->ZSt c z TI TO i1 i2 l1 l2 xs ys i s.heap->(i=0\/ ∃ T fl,de s.heap z TI TO T fl/\T∉[z,i1,i2]/\ ∃ o,s.heap.get? T=some o)->
   s.heap.get? S=some {cls:=.type "list",dict:=none,data:=.seq acc c0,slots:= #[]}->acc.size=i->Its S z i1 i2 xs ys acc s.heap->
   (∀ h' tk acc' c',(∀ b o,b∉[S,z,TO,i1,i2]->s.heap.get? b=some o->h'.get? b=some o)->h'.get? S=some {cls:=.type "list",dict:=none,data:=.seq acc' c',slots:= #[]}->acc'.size=xs.size->Its S z i1 i2 xs ys acc' h'->R (.ok (.ret res)) {s with heap:=h',toks:=tk})->
   codeAny (model prog w) A (.builtin "list.extend.loop" ⟨[.ref S,.ref z,res],[]⟩) R s:=by
 have D1:Draws prog w A.in1.in1 i1 [i1,l1] xs.size (fun i v=>xs[i]? =some v) (fun i h=>SIter c h i1 l1 i/\SSeq c h l1 xs):=draws_seq (A:=A.in1.in1) c hh i1 l1 h1 xs
 have D2:Draws prog w A.in1.in1 i2 [i2,l2] ys.size (fun i v=>ys[i]? =some v) (fun i h=>SIter c h i2 l2 i/\SSeq c h l2 ys):=draws_seq (A:=A.in1.in1) c hh i2 l2 h2 ys
 have hSn:=hS
 simp only [List.mem_cons,List.not_mem_nil,or_false,not_or]at hSn
 obtain ⟨n1,n2,n3,n4,n5,n6,n7⟩:=hSn
 intro k
 induction k with
 | zero=>
  intro i s acc c0 hk hi st hz0 gS hacc hits hR
  have hin:i=xs.size:=by lia
  subst hin
  refine codeAny_builtin F.entry_extend_loop ?_
  rw [Around.under_plainId F.plain_extend_loop _]
  show wpAny _ A.in1 (pyNext (.ref z) >>= _) _ _ s
  obtain ⟨a0,st1,st2,zz⟩:=st
  rcases zz with ⟨zz,a,b,pz⟩ | ⟨T,fl,zz,nT,hT⟩
  ·refine wpAny_bind (end_zip D1 D zz a0 pz st1 fun h' kk=>wpAny_pure ?_)
   have keep: ∀ b o,b∉[S,z,TO,i1,i2]->s.heap.get? b=some o->h'.get? b=some o:=fun b o hb e=>by
    simp only [List.mem_cons,List.not_mem_nil,or_false,not_or]at hb
    exact kk b o hb.2.1 hb.2.2.1 hb.2.2.2.1 hb.2.2.2.2 e
   refine hR h' s.toks acc c0 keep (kk S _ n1 n3 n4 n5 gS) hacc ?_
   have hi0:acc= #[]:=by
    rcases hz0 with e | ⟨T,fl,zz',_⟩
    ·exact Array.eq_empty_of_size_eq_zero (by lia)
    ·exact absurd (zz.symm.trans zz') (by intro q;injection q with q;injection q with _ _ q;injection q with q;simp [rawInt]at q)
   subst hi0
   exact Its.nil
  ·refine wpAny_bind (ul D1 D zz hT a0 st1 fun h' kk=>wpAny_pure ?_)
   have keep: ∀ b o,b∉[S,z,TO,i1,i2]->s.heap.get? b=some o->h'.get? b=some o:=fun b o hb e=>by
    simp only [List.mem_cons,List.not_mem_nil,or_false,not_or]at hb
    exact kk b o hb.2.1 hb.2.2.2.1 e
   exact hR h' s.toks acc c0 keep (kk S _ n1 n4 gS) hacc (hits.keep fun b o _ q1 q2 _ e=>kk b o q1 q2 e)
 | succ k ih=>
  intro i s acc c0 hk hi st hfirst gS hacc hits hR
  have hlt:i<xs.size:=by lia
  obtain ⟨⟨oz,lz⟩,⟨o1,li1⟩,⟨o2,li2⟩⟩:=st.live
  obtain ⟨a0,st1,st2,zz⟩:=st
  refine codeAny_builtin F.entry_extend_loop ?_
  rw [Around.under_plainId F.plain_extend_loop _]
  show wpAny _ A.in1 (pyNext (.ref z) >>= _) _ _ s
  have hnew:s.heap.objs.size∉[S,z,i1,i2]:=by
   simp only [List.mem_cons,List.not_mem_nil,or_false,not_or]
   exact ⟨Nat.ne_of_gt (Heap.lt_size gS),Nat.ne_of_gt (Heap.lt_size lz),Nat.ne_of_gt (Heap.lt_size li1),Nat.ne_of_gt (Heap.lt_size li2)⟩
  have go: ∀ x y h' tk T fl,xs[i]? =some x->ys[i]? =some y->de h' z TI TO T fl->T∉[z,i1,i2]->(∃ o,h'.get? T=some o)->(SIter c h' i1 l1 (i+1)/\SSeq c h' l1 xs)->(SIter c h' i2 l2 (i+1)/\SSeq c h' l2 ys)->IsPair h' s.heap.objs.size x y->
    (∀ b o,b≠z->b≠TO->b≠i1->b≠i2->s.heap.get? b=some o->h'.get? b=some o)->IsPair h' TI (.ref i1) (.ref i2)->h'.get? S=some {cls:=.type "list",dict:=none,data:=.seq acc c0,slots:= #[]}->Its S z i1 i2 xs ys acc h'->
    wpAny (model prog w) A.in1 (updateSeq S (·.push (.ref s.heap.objs.size)) >>= fun _=>pure (PySem.Fin.again (.builtin "list.extend.loop" ⟨[.ref S,.ref z,res],[]⟩)))
     (fun (fin:PySem.Fin) s'=>match fin with | PySem.Fin.done f=>R (.ok f) s' | PySem.Fin.again c'=>c'.quiet=true/\codeAny (model prog w) A c' R s') (fun e s'=>R (.error e) s') {s with heap:=h',toks:=tk}:=by
   intro x y h' tk T fl hx hy zB nT aT s1' s2' pn kk tI gS' hits'
   refine wpAny_bind ?_
   have gS2:=Heap.get?_update_self (Obj.mapSeq (·.push (Value.ref s.heap.objs.size))) gS' rfl
   have oth: ∀ b o,b≠S->h'.get? b=some o->(h'.update S (Obj.mapSeq (·.push (Value.ref s.heap.objs.size)))).get? b=some o:=fun b o hb e=>(Heap.get?_update_other _ _ (Ne.symm hb)).trans e
   refine wpAny_updateSeq (s:={s with heap:=h',toks:=tk}) gS' rfl (wpAny_pure ⟨plainId_quiet F.plain_extend_loop _,ih (i+1) _ (acc.push (.ref s.heap.objs.size)) _ (by lia) hlt (ZSt.at hS (h:=h') ⟨tI,s1',s2',.inr ⟨T,fl,zB,nT,aT⟩⟩ (fun b o hb e=>oth b o hb e) fun o _=>⟨_,gS2⟩) (.inr ⟨T,fl,oth _ _ (Ne.symm n1) zB,nT,?_⟩) gS2 (by rw [Array.size_push,hacc]) ?_ fun h'' tk'' acc' c' keep gS'' ha hit=>?_⟩) (by rw [hacc];lia) (by show (acc.push (Value.ref s.heap.objs.size)).size<=sizeLine+1;rw [Array.size_push,hacc];lia)
   ·obtain ⟨o,ho⟩:=aT
    by_cases e:T=S
    ·subst e;exact ⟨_,gS2⟩
    ·exact ⟨o,oth _ _ e ho⟩
   ·have low: ∀ (j:Nat) (v:Value),acc[j]? =some v->v≠Value.ref s.heap.objs.size:=by
     intro j v hv e
     obtain ⟨T',_,_,e',_,_,_,_,p'⟩:=hits.it j v hv
     rw [e']at e
     have:T'=s.heap.objs.size:=by injection e
     exact Nat.lt_irrefl _ (this▸Heap.lt_size p')
    refine ⟨fun j v hv=>?_,fun j j' v hv hv'=>?_⟩
    ·rw [Array.getElem?_push]at hv
     by_cases cj:j=acc.size
     ·rw [if_pos cj]at hv
      cases hv
      subst cj
      rw [hacc]
      exact ⟨_,x,y,rfl,Heap.lt_size gS,hnew,hx,hy,oth _ _ (fun e=>hnew (by rw [e];simp)) pn⟩
     ·rw [if_neg cj]at hv
      obtain ⟨T',x',y',e',lt',nT',ex',ey',p'⟩:=hits'.it j v hv
      exact ⟨T',x',y',e',lt',nT',ex',ey',oth _ _ (fun e=>nT' (by rw [e];simp)) p'⟩
    ·rw [Array.getElem?_push]at hv hv'
     by_cases cj:j=acc.size
     ·rw [if_pos cj]at hv
      by_cases cj':j'=acc.size
      ·lia
      ·rw [if_neg cj']at hv'
       exact absurd (Option.some.inj hv).symm (low j' v hv')
     ·rw [if_neg cj]at hv
      by_cases cj':j'=acc.size
      ·rw [if_pos cj']at hv'
       exact absurd (Option.some.inj hv').symm (low j v hv)
      ·rw [if_neg cj']at hv'
       exact hits.nd j j' v hv hv'
   ·refine hR h'' tk'' acc' c' (fun b o hb e=>?_) gS'' ha hit
    refine keep b o hb ?_
    simp only [List.mem_cons,List.not_mem_nil,or_false,not_or]at hb
    exact oth _ _ hb.1 (kk b o hb.2.1 hb.2.2.1 hb.2.2.2.1 hb.2.2.2.2 e)
  rcases zz with ⟨zz,a,b,pz⟩ | ⟨T,fl,zz,nT,hT⟩
  ·have hi0:acc= #[]:=by
    rcases hfirst with e | ⟨T,fl,zz',_⟩
    ·exact Array.eq_empty_of_size_eq_zero (by lia)
    ·exact absurd (zz.symm.trans zz') (by intro q;injection q with q;injection q with _ _ q;injection q with q;simp [rawInt]at q)
   refine wpAny_bind (next_zip D1 D2 D zz a0 pz st1 st2 hlt (by lia) fun x y h' tk hx hy z' p' s1' s2' pn kk=>?_)
   refine go x y h' tk s.heap.objs.size false hx hy z' (fun q=>hnew (List.mem_cons_of_mem _ q)) ⟨_,pn⟩ s1' s2' pn kk (kk _ _ D.tz D.to D.t1 D.t2 a0) (kk _ _ n1 n3 n4 n5 gS) ?_
   subst hi0
   exact Its.nil
  ·refine wpAny_bind (qU D1 D2 D zz hT a0 st1 st2 hlt (by lia) fun x y h' tk hx hy z' s1' s2' pn kk=>?_)
   obtain ⟨oT,hoT⟩:=hT
   have nT2:=nT
   simp only [List.mem_cons,List.not_mem_nil,or_false,not_or]at nT2
   refine go x y h' tk T true hx hy z' nT ⟨oT,kk _ _ nT2.1 nT2.2.1 nT2.2.2 hoT⟩ s1' s2' pn (fun b o q1 _ q3 q4 e=>kk b o q1 q3 q4 e) (kk _ _ D.tz D.t1 D.t2 a0) (kk _ _ n1 n4 n5 gS) ?_
   exact hits.keep fun b o _ q1 q2 q3 e=>kk b o q1 q2 q3 e
end
section
variable {prog:Program} {w:World} {A:Around} {s:Shared} {E:Value->Shared->Prop} {z TI TO i1 i2 l1 l2:Addr} {c:Bool} {xs ys:Array Value}
theorem qg {R:Result->Shared->Prop} (hh:A.handled=none) (S:Addr) (D:ZAp z TI TO i1 i2 [i1,l1] [i2,l2]) (h1:l1≠i1) (h2:l2≠i2) (hS:S∉[z,TI,TO,i1,i2,l1,l2]) (hsz:xs.size=ys.size) (hle:xs.size<=sizeLine) (res:Value) (c₀:Nat)
  (gS:s.heap.get? S=some {cls:=.type "list",data:=.seq #[] c₀}) (st:ZSt c z TI TO i1 i2 l1 l2 xs ys 0 s.heap) (hz:IsZip s.heap z TI TO .none)
  (hR: ∀ h' tk acc' c',(∀ b o,b∉[S,z,TO,i1,i2]->s.heap.get? b=some o->h'.get? b=some o)->h'.get? S=some {cls:=.type "list",dict:=none,data:=.seq acc' c',slots:= #[]}->acc'.size=xs.size->Its S z i1 i2 xs ys acc' h'->R (.ok (.ret res)) {s with heap:=h',toks:=tk}):
  wpAny (model prog w) A.in1 (Builtin.List.listExtendWith (.ref S) (.ref z) res)
   (fun (fin:PySem.Fin) s'=>match fin with | PySem.Fin.done f=>R (.ok f) s' | PySem.Fin.again c'=>c'.quiet=true/\codeAny (model prog w) A c' R s') (fun e s'=>R (.error e) s') s:=by
 have hSz:S≠z:=fun e=>hS (by rw [e];simp)
 have key: ∀ (h:Heap) (c₁ tk:Nat),ZSt c z TI TO i1 i2 l1 l2 xs ys 0 h->(∀ b o,b≠S->s.heap.get? b=some o->h.get? b=some o)->
   h.get? S=some {cls:=.type "list",data:=.seq #[] c₁}->codeAny (model prog w) A (.builtin "list.extend.loop" ⟨[.ref S,.ref z,res],[]⟩) R {s with heap:=h,toks:=tk}:=by
  intro h c₁ tk hst hk hS₁
  refine uH (c:=c) hh S D h1 h2 hS hsz hle res xs.size 0 {s with heap:=h,toks:=tk} #[] c₁ rfl (Nat.zero_le _) hst (.inl rfl) hS₁ rfl Its.nil fun h' tk' acc' c' keep gS' ha hit=>?_
  refine hR h' tk' acc' c' (fun b o hb e=>keep b o hb (hk b o (fun q=>hb (by rw [q];simp)) e)) gS' ha hit
 unfold Builtin.List.listExtendWith
 refine wpAny_bind (wpAny_typeOf (T:="zip") ⟨_,hz,rfl⟩ ?_)
 have e1:Builtin.List.listSameRef (.ref S) (.ref z)=false:=by simp [Builtin.List.listSameRef,hSz]
 have e2:(Value.type "zip"==Value.type "list")=false:=by decide
 have e3:(Value.type "zip"==Value.type "tuple")=false:=by decide
 simp only [e1,e2,e3,Bool.or_false,Bool.false_eq_true,if_false]
 refine wpAny_bind (wpAny_pyIter_zip hz ?_)
 refine wpAny_bind (wpAny_holding (uJ ⟨_,hz,rfl⟩ ?_))
 refine wpAny_ite_split (fun _=>?_) (fun _=>wpAny_pure ⟨plainId_quiet PySem.F.plain_extend_loop _,key _ c₀ _ st (fun b o _ e=>e) gS⟩)
 refine wpAny_bind (wpAny_rule ?_)
 refine wpAny_bind ?_
 show wpAny _ _ (updateSeq S (·.push .none) >>= fun _=>updateSeq S (·.pop)) _ _ _
 refine wpAny_bind (wpAny_updateSeq gS rfl ?_)
 have hS₂:=Heap.get?_update_self (Obj.mapSeq (·.push Value.none)) gS rfl
 refine wpAny_updateSeq (hz:=by seq_fits) hS₂ rfl ?_
 have hS₃:=Heap.get?_update_self (Obj.mapSeq (·.pop)) hS₂ rfl
 have oth: ∀ b o,b≠S->s.heap.get? b=some o->((s.heap.update S (Obj.mapSeq (·.push Value.none))).update S (Obj.mapSeq (·.pop))).get? b=some o:=fun b o hb e=>
  (Heap.get?_update_other _ _ (Ne.symm hb)).trans ((Heap.get?_update_other _ _ (Ne.symm hb)).trans e)
 exact wpAny_pure ⟨plainId_quiet PySem.F.plain_extend_loop _,key _ _ _ (st.at hS oth fun o _=>⟨_,hS₃⟩) oth hS₃⟩
theorem uI {R:Result->Shared->Prop} (hh:A.handled=none) (S:Addr) (D:ZAp z TI TO i1 i2 [i1,l1] [i2,l2]) (h1:l1≠i1) (h2:l2≠i2) (hS:S∉[z,TI,TO,i1,i2,l1,l2]) (hsz:xs.size=ys.size) (hle:xs.size<=sizeLine)
  (gS:s.heap.get? S=some {cls:=.type "list",data:=.seq #[]}) (st:ZSt c z TI TO i1 i2 l1 l2 xs ys 0 s.heap) (hz:IsZip s.heap z TI TO .none)
  (hR: ∀ h' tk acc' c',(∀ b o,b∉[S,z,TO,i1,i2]->s.heap.get? b=some o->h'.get? b=some o)->h'.get? S=some {cls:=.type "list",dict:=none,data:=.seq acc' c',slots:= #[]}->acc'.size=xs.size->Its S z i1 i2 xs ys acc' h'->R (.ok (.ret .none)) {s with heap:=h',toks:=tk}):
  wpAny (model prog w) A.in1 (Builtin.«list.__init__» ⟨[.ref S,.ref z],[]⟩)
   (fun (fin:PySem.Fin) s'=>match fin with | PySem.Fin.done f=>R (.ok f) s' | PySem.Fin.again c'=>c'.quiet=true/\codeAny (model prog w) A c' R s') (fun e s'=>R (.error e) s') s:=by
 show wpAny _ _ (do let old <- Builtin.List.listItems (.ref S);Builtin.List.listUpdate (.ref S) (fun _=> #[]);letGo old.toList.reverse;Builtin.List.listExtendWith (.ref S) (.ref z) .none) _ _ s
 refine wpAny_bind ?_
 unfold Builtin.List.listItems
 refine wpAny_bind (wpAny_seqItems gS rfl (wpAny_pure ?_))
 show wpAny _ _ (updateSeq S (fun _=> #[]) >>= fun _=>letGo (#[]:Array Value).toList.reverse >>= fun _=>Builtin.List.listExtendWith (.ref S) (.ref z) .none) _ _ s
 refine wpAny_bind (wpAny_updateSeq gS rfl ?_)
 have hS₂:=Heap.get?_update_self (Obj.mapSeq (fun _=>(#[]:Array Value))) gS rfl
 have oth: ∀ b o,b≠S->s.heap.get? b=some o->(s.heap.update S (Obj.mapSeq (fun _=>(#[]:Array Value)))).get? b=some o:=
  fun b o hb e=>(Heap.get?_update_other _ _ (Ne.symm hb)).trans e
 refine wpAny_bind (wpAny_letGo ?_)
 refine qg (c:=c) hh S D h1 h2 hS hsz hle .none _ hS₂ (st.at hS oth fun o _=>⟨_,hS₂⟩) (oth _ _ (fun e=>hS (by rw [e];simp)) hz) fun h' tk acc' c' keep gS' ha hit=>?_
 exact hR h' tk acc' c' (fun b o hb e=>keep b o hb (oth b o (fun q=>hb (by rw [q];simp)) e)) gS' ha hit
theorem zl_call {Q:Value->Shared->Prop} (hh:A.handled=none) (D:ZAp z TI TO i1 i2 [i1,l1] [i2,l2]) (h1:l1≠i1) (h2:l2≠i2) (hsz:xs.size=ys.size) (hle:xs.size<=sizeLine)
  (hlt: ∀ b∈[z,TI,TO,i1,i2,l1,l2],b<s.heap.objs.size) (st:ZSt c z TI TO i1 i2 l1 l2 xs ys 0 s.heap) (hz:IsZip s.heap z TI TO .none)
  (hQ: ∀ h' tk acc' c',(∀ b o,b∉[z,TO,i1,i2]->s.heap.get? b=some o->h'.get? b=some o)->h'.get? s.heap.objs.size=some {cls:=.type "list",dict:=none,data:=.seq acc' c',slots:= #[]}->acc'.size=xs.size->Its s.heap.objs.size z i1 i2 xs ys acc' h'->Q (.ref s.heap.objs.size) {s with heap:=h',toks:=tk}):
  wpAny (model prog w) A (call (.type "list") [.ref z]) Q E s:=by
 refine callType_codes (Q₁:=fun obj s₁=>obj=.ref s.heap.objs.size/\s₁={s with heap:=s.heap.push {cls:=.type "list",data:=.seq #[]}}) PySem.F.called_list (PySem.F.typeCall_list_1 _) PySem.F.entry_list_init
  (code_list_new _ ⟨rfl,rfl⟩) fun obj s₁ h₁=>?_
 obtain ⟨rfl,rfl⟩:=h₁
 have hS:(s.heap.push {cls:=.type "list",data:=.seq #[]}).get? s.heap.objs.size=some {cls:=.type "list",data:=.seq #[]}:=Heap.get?_push_size _ rfl
 have hSn:s.heap.objs.size∉[z,TI,TO,i1,i2,l1,l2]:=fun q=>Nat.lt_irrefl _ (hlt _ q)
 refine ⟨⟨_,hS,rfl⟩,PySem.F.args_list_init_2 _ _,uI (A:=A.in1) (c:=c) hh s.heap.objs.size D h1 h2 hSn hsz hle hS (st.at hSn (fun b o _ e=>Heap.get?_push_of_some _ e) fun o e=>absurd (Heap.lt_size e) (Nat.lt_irrefl _)) (Heap.get?_push_of_some _ hz) fun h' tk acc' c' keep gS' ha hit=>?_⟩
 exact ⟨rfl,hQ h' tk acc' c' (fun b o hb e=>keep b o (fun q=>by rcases List.mem_cons.mp q with q | q;exact absurd (Heap.lt_size e) (by rw [q];exact Nat.lt_irrefl _);exact hb q) (Heap.get?_push_of_some _ e)) gS' ha hit⟩
end
end HT
namespace L2
open PySem PySem.Spec PyProof.Rows
section
variable {X:Cx} {pins:List (Addr×Obj)} {σ:St} {H H':Hp} {s:Shared} {h':Heap}
theorem Inv.many {t':Nat} (I:Inv X pins σ H s) (k: ∀ b u,s.heap.get? b=some u->h'.get? b=some u) (hs: ∀ b,b<s.heap.objs.size->H' b=H b) (new: ∀ b o,s.heap.objs.size<=b->H' b=some o->ObjOk X.prog X.w H' h' b o):
  Inv X pins σ H' {s with heap:=h',toks:=t'}:=by
 have lt: ∀ b o,H b=some o->b<s.heap.objs.size:=fun b o e=>I.hok.lt e
 have eq: ∀ b o,H b=some o->H' b=some o:=fun b o e=>(hs b (lt b o e)).trans e
 refine I.un ⟨fun b u q _ _ _=>k b u q,fun b u q _ _ _=>⟨u.slots,k b u q⟩,fun b u q n _=>(hs b (Heap.lt_size q)).trans n,fun b u q _=>⟨u,k b u q⟩,fun b xs q=>eq b _ q,fun b u xs q=>eq b _ q,fun b ps q=>⟨#[],by rw [eq b _ q];simp⟩⟩ ?_
 intro b o e
 by_cases hb:b<s.heap.objs.size
 ·rw [hs b hb]at e
  exact (I.hok b o e).stay (fun c v _ q=>k c v q) (fun c q=>eq c _ q) fun c xs q=>eq c _ q
 ·exact new b o (Nat.not_lt.mp hb) e
end
noncomputable def rY (ta:TA):TE:=fun σ H Q=>ta σ H fun vs H1=> ∃ c l1 l2 xs ys,vs=[.ref l1,.ref l2]/\H1 l1=some (dP c xs)/\H1 l2=some (dP c ys)/\xs.length=ys.length/\
 ∀ p zs H2,H1 p=none->Same H1 H2->H2 p=some (.lst zs)->Paired (fun (q:V×V) (z:V)=> ∃ T,z=.ref T/\H2 T=some (.tup [q.1,q.2])) (xs.zip ys) zs->Q (.ref p) H2
theorem fJ {α β:Type} {F:α->β->Prop}: ∀ {l:List α} {r:List β},l.length=r.length->(∀ (i:Nat) a b,l[i]? =some a->r[i]? =some b->F a b)->Paired F l r
 | [],[],_,_=>.nil
 | a::l,b::r,h,f=>.cons (f 0 a b rfl rfl) (fJ (by simpa using h) fun i x y hx hy=>f (i+1) x y hx hy)
 | [],_::_,h,_=>by simp at h
 | _::_,[],h,_=>by simp at h
theorem ip {α β:Type} {F:α->β->Prop}: ∀ {l:List α} {r:List β} {i:Nat} {b:β},Paired F l r->r[i]? =some b-> ∃ a,l[i]? =some a/\F a b
 | _,_,i,b,.nil,e=>by cases i <;> cases e
 | _,_,0,b,.cons h _,e=>⟨_,rfl,by cases e;exact h⟩
 | _,_,i+1,b,.cons _ t,e=>ip (i:=i) t e
theorem ow {X:Cx} {a b:Expr} {ta:TA} {p p2 pos pos2:Pos} (hcalm:X.calm=true) (hgl:Gl X "list") (hml:X.mg "list"=none) (hgz:Gl X "zip") (hmz:X.mg "zip"=none) (ha:PA X [a,b] ta)
  (hs:starEach [a,b] X.env=[(false,eval a X.env),(false,eval b X.env)]:=by rfl) (hs2:starEach [b] X.env=[(false,eval b X.env)]:=by rfl)
  (hs1:starEach [.Call (.Name "zip" p2) [a,b] [] pos2] X.env=[(false,eval (.Call (.Name "zip" p2) [a,b] [] pos2) X.env)]:=by rfl):
  PE X (.Call (.Name "list" p) [.Call (.Name "zip" p2) [a,b] [] pos2] [] pos) (rY ta):=by
 intro pins s σ H Q I h
 refine wpAny_Call_Name_kw (dA I hgl hml (show bootBuiltins "list"=some (.type "list") by decide +kernel) ?_)
 refine PyProof.Rows.callWith_type1 ?_ (by rw [hs1];rfl) rfl
 rw [hs1]
 show wpAny _ _ (spliced ((false,eval (.Call (.Name "zip" p2) [a,b] [] pos2) X.env)::[])) _ _ s
 refine Calls.spliced_cons ?_
 refine wpAny_Call_Name_kw (dA I hgz hmz (show bootBuiltins "zip"=some (.type "zip") by decide +kernel) (PyProof.Rows.callWith_type1 (thn (ha pos2 pins s σ H _ I h) fun us s1 ⟨vs,H1,I1,r1,q1⟩=>?_) (by rw [hs,hs2]) (by rw [hs2];rfl)))
 obtain ⟨c,l1,l2,xs,ys,rfl,hx,hy,hlen,q⟩:=q1
 obtain ⟨u,v,rfl,ru,rv⟩:=eY r1
 cases (show u=Value.ref l1 from ru)
 cases (show v=Value.ref l2 from rv)
 obtain ⟨its1,v1,e1,z1⟩:=I1.seqS hx
 obtain ⟨its2,v2,e2,z2⟩:=I1.seqS hy
 have lx:=v1.length
 have ly:=v2.length
 have ll1:l1<s1.heap.objs.size:=I1.hok.lt hx
 have ll2:l2<s1.heap.objs.size:=I1.hok.lt hy
 refine HT.call_zipS e1 e2 fun h' a1 a2 a3 a4 a5 kp=>?_
 refine Calls.spliced_nil ?_
 have D:HT.ZAp (s1.heap.objs.size+4) (s1.heap.objs.size+2) (s1.heap.objs.size+3) s1.heap.objs.size (s1.heap.objs.size+1) [s1.heap.objs.size,l1] [s1.heap.objs.size+1,l2]:=by
  have q1: @LT.lt Nat _ l1 s1.heap.objs.size:=ll1
  have q2: @LT.lt Nat _ l2 s1.heap.objs.size:=ll2
  constructor <;> (try simp only [List.mem_cons,List.not_mem_nil,or_false,not_or]) <;>
   first | exact fun e=>absurd (show @Eq Nat _ _ from e) (by lia) | exact ⟨fun e=>absurd (show @Eq Nat _ _ from e) (by lia),fun e=>absurd (show @Eq Nat _ _ from e) (by lia)⟩
 have b4:s1.heap.objs.size<h'.objs.size:=by obtain ⟨o,e,_⟩:=a4.obj;exact Heap.lt_size e
 have b5:s1.heap.objs.size+1<h'.objs.size:=by obtain ⟨o,e,_⟩:=a5.obj;exact Heap.lt_size e
 have b1:s1.heap.objs.size+4<h'.objs.size:=Heap.lt_size a1
 refine HT.zl_call (s:={s1 with heap:=h'}) (c:=c) (xs:=its1.toArray) (ys:=its2.toArray) (I.ok.hd hcalm) D (Nat.ne_of_lt ll1) (Nat.ne_of_lt (Nat.lt_succ_of_lt ll2)) (by rw [List.size_toArray,List.size_toArray];lia) (by rw [List.size_toArray];lia) (fun b hb=>?_)
  ⟨a2,⟨a4,e1.at fun o e=>kp _ _ e⟩,⟨a5,e2.at fun o e=>kp _ _ e⟩,.inl ⟨a1,_,_,a3⟩⟩ a1 fun h'' tk acc' c' keep gS hsz hit=>?_
 ·show b<h'.objs.size
  simp only [List.mem_cons,List.not_mem_nil,or_false]at hb
  have q1: @LT.lt Nat _ l1 s1.heap.objs.size:=ll1
  have q2: @LT.lt Nat _ l2 s1.heap.objs.size:=ll2
  rcases hb with h | h | h | h | h | h | h <;> rw [h] <;> (show @LT.lt Nat _ _ _;lia)
 classical
 have hacc:acc'.size=xs.length:=by rw [hsz,List.size_toArray];lia
 have kk: ∀ b u,s1.heap.get? b=some u->h''.get? b=some u:=fun b u e=>by
  have lb:=Heap.lt_size e
  refine keep b u ?_ (kp b u e)
  simp only [List.mem_cons,List.not_mem_nil,or_false,not_or]
  refine ⟨?_,?_,?_,?_⟩ <;> (intro e;rw [e]at lb;exact absurd (show @LT.lt Nat _ _ _ from lb) (by lia))
 have hS0:s1.heap.objs.size<=h'.objs.size:=by lia
 let zs:List V:=acc'.toList.map fun v=>match v with | .ref T=>V.ref T | _=>V.non
 let H2:Hp:=fun b=>if b<s1.heap.objs.size then H1 b else if b=h'.objs.size then some (.lst zs)else if w: ∃ j:Nat,acc'[j]? =some (Value.ref b)then some (.tup [xs.getD w.choose .non,ys.getD w.choose .non])else none
 have hlow: ∀ b,b<s1.heap.objs.size->H2 b=H1 b:=fun b hb=>if_pos hb
 have hlst:H2 h'.objs.size=some (.lst zs):=by
  show (if h'.objs.size<s1.heap.objs.size then _ else _)=_
  rw [if_neg (by lia),if_pos rfl]
 have hlz:zs.length=xs.length:=by show (acc'.toList.map _).length=_;rw [List.length_map,Array.length_toList,hacc]
 have htup: ∀ (j:Nat) (T:Addr),acc'[j]? =some (Value.ref T)-> ∃ x y xv yv,xs[j]? =some x/\ys[j]? =some y/\RelV x xv/\RelV y yv/\PySem.IsPair h'' T xv yv/\H2 T=some (.tup [x,y]):=by
  intro j T hj
  obtain ⟨T',xv,yv,e',lt',nT',ex',ey',p'⟩:=hit.it j _ hj
  obtain rfl:T=T':=by injection e'
  rw [List.getElem?_toArray]at ex' ey'
  obtain ⟨x,hx',rx⟩:=ip v1 ex'
  obtain ⟨y,hy',ry⟩:=ip v2 ey'
  refine ⟨x,y,xv,yv,hx',hy',rx,ry,p',?_⟩
  have lt2:h'.objs.size<T:=lt'
  have w: ∃ j:Nat,acc'[j]? =some (Value.ref T):=⟨j,hj⟩
  have ej:w.choose=j:=hit.nd _ _ _ w.choose_spec hj
  show (if T<s1.heap.objs.size then _ else if T=h'.objs.size then _ else if w: ∃ j:Nat,acc'[j]? =some (Value.ref T)then _ else none)=_
  rw [if_neg (Nat.not_lt.mpr (Nat.le_trans hS0 (Nat.le_of_lt lt2))),if_neg (Nat.ne_of_gt lt2),dif_pos w,ej,List.getD_eq_getElem?_getD,List.getD_eq_getElem?_getD,hx',hy']
  rfl
 have hzs: ∀ (i:Nat) (z:V),zs[i]? =some z-> ∃ T,z=.ref T/\acc'[i]? =some (Value.ref T):=by
  intro i z hz
  have hz:(acc'.toList.map fun v=>match v with | .ref T=>V.ref T | _=>V.non)[i]? =some z:=hz
  rw [List.getElem?_map,Array.getElem?_toList]at hz
  cases e:acc'[i]? with
  | none=>rw [e]at hz;cases hz
  | some v=>
   rw [e]at hz
   obtain ⟨T,_,_,rfl,_⟩:=hit.it i v e
   exact ⟨T,(Option.some.inj hz).symm,rfl⟩
 have IF:Inv X pins σ H2 {s1 with heap:=h'',toks:=tk}:=by
  refine I1.many kk hlow fun b o hb e=>?_
  have e:(if b<s1.heap.objs.size then H1 b else if b=h'.objs.size then some (.lst zs)else if w: ∃ j:Nat,acc'[j]? =some (Value.ref b)then some (.tup [xs.getD w.choose .non,ys.getD w.choose .non])else none)=some o:=e
  rw [if_neg (Nat.not_lt.mpr hb)]at e
  by_cases eS:b=h'.objs.size
  ·rw [if_pos eS]at e
   cases e
   subst eS
   refine ⟨by rw [hlz];lia,acc'.toList,c',fJ (hlz.trans (hacc.symm.trans Array.length_toList.symm)) fun i z v hz hv=>?_,by rw [Array.toArray_toList];exact gS⟩
   obtain ⟨T,rfl,eT⟩:=hzs i z hz
   rw [Array.getElem?_toList,eT]at hv
   cases hv
   exact rfl
  ·rw [if_neg eS]at e
   by_cases w: ∃ j:Nat,acc'[j]? =some (Value.ref b)
   ·obtain ⟨j,hj⟩:=w
    obtain ⟨x,y,xv,yv,_,_,rx,ry,p',hT⟩:=htup j b hj
    have e2:H2 b=some o:=by
     show (if b<s1.heap.objs.size then H1 b else if b=h'.objs.size then some (.lst zs)else if w: ∃ j:Nat,acc'[j]? =some (Value.ref b)then some (.tup [xs.getD w.choose .non,ys.getD w.choose .non])else none)=some o
     rw [if_neg (Nat.not_lt.mpr hb),if_neg eS]
     exact e
    rw [hT]at e2
    cases e2
    exact ⟨by show 2<=sizeLine;decide,[xv,yv],.cons rx (.cons ry .nil),_,p',rfl,_,rfl⟩
   ·rw [dif_neg w]at e
    cases e
 refine ⟨.ref h'.objs.size,H2,IF,rfl,q h'.objs.size zs H2 (I1.hok.fresh hS0) (fun b o e=>(hlow b (I1.hok.lt e)).trans e) hlst ?_⟩
 refine fJ (by rw [List.length_zip,hlz];lia) fun i qq z hq hz=>?_
 obtain ⟨T,rfl,eT⟩:=hzs i z hz
 obtain ⟨x,y,_,_,hx',hy',_,_,_,hT⟩:=htup i T eT
 rw [List.getElem?_zip_eq_some]at hq
 obtain ⟨h1,h2⟩:=hq
 rw [hx']at h1
 rw [hy']at h2
 refine ⟨T,rfl,?_⟩
 rw [<- Option.some.inj h1,<- Option.some.inj h2]
 exact hT
end L2
namespace My
open PySem L2
variable {P:Program} {w:World} {K:PySem.W.Frag} {mg:Str->Option Value} {base:Heap} {C CB D0 D1 D10 D11 D12 D13 D14 D15 D16 D2 D3 D4 D5 D6 D7 D8 D9 aR f f2 f3 f4 f5 f6 f7 g:Addr} {fd fd2 fd3 fd4 fd5 fd6 fd7 gd:FuncData}
noncomputable def cE (c:Nat):Bool:=decide (97<=c/\c<=122)
noncomputable def bj (x:Str):Bool:=decide (1<=x.length)&&decide (x.length<=8)&&x.cps.toList.all cE
noncomputable def ops:List Str:=["plus","less","times","least","most"]
inductive Fm where
 | num (n:Int)
 | own (x:Str)
 | part (k:Int) (x:Str)
 | bin (op:Str) (a b:Fm)
 | whn (a b c:Fm)
noncomputable def Fm.size:Fm->Nat
 | .num _=>1
 | .own _=>1
 | .part _ _=>1
 | .bin _ a b=>a.size+b.size+1
 | .whn a b c=>a.size+b.size+c.size+1
noncomputable def Rep (H:Hp):Fm->V->Prop
 | .num n,v=> ∃ a,v=.ref a/\H a=some (.tup [.str "num",.int n])
 | .own x,v=> ∃ a,v=.ref a/\H a=some (.tup [.str "own",.str x])
 | .part k x,v=> ∃ a,v=.ref a/\H a=some (.tup [.str "part",.int k,.str x])
 | .bin op A B,v=> ∃ a u w,v=.ref a/\H a=some (.tup [.str op,u,w])/\Rep H A u/\Rep H B w
 | .whn A B C,v=> ∃ a u w z,v=.ref a/\H a=some (.tup [.str "when",u,w,z])/\Rep H A u/\Rep H B w/\Rep H C z
noncomputable def TK (H H':Hp):Prop:= ∀ a xs,H a=some (.tup xs)->H' a=some (.tup xs)
theorem TK.trans {H H1 H2:Hp} (a:TK H H1) (b:TK H1 H2):TK H H2:=fun c o h=>b c o (a c o h)
theorem TK.upd {H:Hp} {p:Addr} {o:HO} (h: ∀ xs,H p≠some (.tup xs)):TK H (upd H p o):=fun a xs e=>by
 by_cases q:a=p
 ·subst q
  exact absurd e (h xs)
 ·rw [al q]
  exact e
theorem TK.lst {H:Hp} {p:Addr} {o:HO} {ys:List V} (h:H p=some (.lst ys)):TK H (L2.upd H p o):=TK.upd fun xs e=>by rw [h]at e;cases e
theorem TK.new {H:Hp} {p:Addr} {o:HO} (h:H p=none):TK H (L2.upd H p o):=TK.upd fun xs e=>by rw [h]at e;cases e
theorem Rep.mono {H H':Hp} (t:TK H H'): ∀ {f:Fm} {v:V},Rep H f v->Rep H' f v
 | .num _,_,⟨a,e,h⟩=>⟨a,e,t _ _ h⟩
 | .own _,_,⟨a,e,h⟩=>⟨a,e,t _ _ h⟩
 | .part _ _,_,⟨a,e,h⟩=>⟨a,e,t _ _ h⟩
 | .bin _ _ _,_,⟨a,u,w,e,h,r1,r2⟩=>⟨a,u,w,e,t _ _ h,Rep.mono t r1,Rep.mono t r2⟩
 | .whn _ _ _,_,⟨a,u,w,z,e,h,r1,r2,r3⟩=>⟨a,u,w,z,e,t _ _ h,Rep.mono t r1,Rep.mono t r2,Rep.mono t r3⟩
noncomputable def isV (T:String) (H:Hp) (v:V):Bool:=match v with
 | .bl _=>T=="bool"||T=="int"
 | .int _=>T=="int"
 | .str _=>T=="str"
 | .ref a=>(match H a with | some (.lst _)=>T=="list" | some (.tup _)=>T=="tuple" | some (.dK _)=>T=="dict" | _=>false)
 | _=>false
noncomputable def Sh (H:Hp):V->Prop
 | .non=>True
 | .bl _=>True
 | .int _=>True
 | .str x=>x.length<=2000
 | .ref a=>(∃ xs,H a=some (.lst xs))\/(∃ xs,H a=some (.tup xs))\/ ∃ kvs,H a=some (.dK kvs)
 | _=>False
section
variable {X:Cx}
theorem vh (K:PySem.W.Frag) (t T:String) (ht:t∈["NoneType","bool","int","str","list","tuple","dict"]) (hT:T∈["bool","int","str","list","tuple","dict"]):
  PySem.W.kitOne K (.type t) (.type T)=some (t==T||(t=="bool"&&T=="int")):=by
 simp only [List.mem_cons,List.not_mem_nil,or_false]at ht hT
 rcases ht with rfl | rfl | rfl | rfl | rfl | rfl | rfl <;> rcases hT with rfl | rfl | rfl | rfl | rfl | rfl <;> first | rfl | (with_unfolding_all rfl) | (with_unfolding_all decide)
theorem ck:dE X (.builtin "isinstance") (fun xs H Q=> ∃ x T,xs=[x,.ty T]/\Sh H x/\T∈["bool","int","str","list","tuple","dict"]/\Q (.bl (isV T H x)) H):=by
 intro pins s σ H xs us Q I r h
 obtain ⟨x,T,rfl,hs,hT,q⟩:=h
 have go: ∀ t,ib X.K H x (.type t)->t∈["NoneType","bool","int","str","list","tuple","dict"]->isV T H x=(t==T||(t=="bool"&&T=="int"))->wpAny (model X.prog X.w) X.A (call (.builtin "isinstance") us) (EP X pins σ Q) X.xe s:=by
  intro t ty ht e
  refine uy pins s σ H _ us Q I r ⟨x,T,.type t,_,rfl,ty,vh X.K t T ht hT,?_⟩
  rw [<- e]
  exact q
 have hTT:=hT
 simp only [List.mem_cons,List.not_mem_nil,or_false]at hTT
 cases x with
 | non=>exact go _ .non (by simp) (by rcases hTT with rfl | rfl | rfl | rfl | rfl | rfl <;> rfl)
 | bl b=>exact go _ (.bl b) (by simp) (by rcases hTT with rfl | rfl | rfl | rfl | rfl | rfl <;> rfl)
 | int i=>exact go _ (.int i) (by simp) (by rcases hTT with rfl | rfl | rfl | rfl | rfl | rfl <;> rfl)
 | str z=>exact go _ (.str z) (by simp) (by rcases hTT with rfl | rfl | rfl | rfl | rfl | rfl <;> rfl)
 | ref a=>
  rcases hs with ⟨ys,e⟩ | ⟨ys,e⟩ | ⟨ys,e⟩
  ·exact go _ (.lst e) (by simp) (by simp only [isV,e];rcases hTT with rfl | rfl | rfl | rfl | rfl | rfl <;> rfl)
  ·exact go _ (.tup e) (by simp) (by simp only [isV,e];rcases hTT with rfl | rfl | rfl | rfl | rfl | rfl <;> rfl)
  ·exact go _ (.dK e) (by simp) (by simp only [isV,e];rcases hTT with rfl | rfl | rfl | rfl | rfl | rfl <;> rfl)
 | byt _=>exact hs.elim
 | flt _=>exact hs.elim
 | ty _=>exact hs.elim
end
noncomputable def top (i:Nat):Stmt:=PySem.Challenge.pw_boughworth_k19_texts_of_no_tree.main.body.getD i (.Pass ⟨0,0,0,0⟩)
noncomputable abbrev i9:Stmt:=top 21
noncomputable abbrev fj:Stmt:=top 22
noncomputable abbrev i7:Stmt:=top 23
noncomputable abbrev lC:Stmt:=top 26
noncomputable abbrev lD:Stmt:=top 27
noncomputable abbrev gK:Stmt:=top 28
noncomputable abbrev pj:Stmt:=top 30
noncomputable abbrev sA:Stmt:=top 31
noncomputable abbrev fk:Stmt:=top 32
noncomputable abbrev sC:Stmt:=top 34
noncomputable abbrev sy:Stmt:=top 35
noncomputable abbrev oh:Stmt:=top 36
noncomputable abbrev fq:Stmt:=top 37
noncomputable abbrev ls:Stmt:=top 38
noncomputable abbrev sB:Stmt:=top 39
noncomputable abbrev ee:Stmt:=top 40
noncomputable abbrev oa:Stmt:=top 41
noncomputable abbrev fi:Stmt:=top 42
noncomputable abbrev du:Stmt:=top 43
noncomputable abbrev og:Stmt:=top 44
noncomputable abbrev eV:Stmt:=top 45
noncomputable abbrev i8:Stmt:=top 46
noncomputable abbrev i6:Stmt:=top 47
noncomputable abbrev lA:Stmt:=top 48
noncomputable abbrev mw:Stmt:=top 49
noncomputable abbrev lG:Stmt:=top 50
noncomputable abbrev lE:Stmt:=top 51
noncomputable abbrev fh:Stmt:=top 52
noncomputable abbrev sD:Stmt:=top 53
noncomputable abbrev gJ:Stmt:=top 54
noncomputable abbrev sw:Stmt:=top 55
noncomputable abbrev lB:Stmt:=top 56
noncomputable abbrev lu:Stmt:=top 57
structure Gb (mg:Str->Option Value):Prop where
 isi:mg "isinstance"=none
 int:mg "int"=none
 bool:mg "bool"=none
 str:mg "str"=none
 tuple:mg "tuple"=none
 len:mg "len"=none
 all:mg "all"=none
 range:mg "range"=none
 max:mg "max"=none
 min:mg "min"=none
noncomputable def nJ:V->Bool
 | .int _=>true
 | _=>false
theorem vi {H:Hp} {v:V} (h:Sh H v):(if isV "int" H v=true then !isV "bool" H v else false)=nJ v:=by
 cases v with
 | ref a=>rcases h with ⟨ys,e⟩ | ⟨ys,e⟩ | ⟨ys,e⟩ <;> (simp only [isV,e];rfl)
 | _=>rfl
theorem qb {Q:VK} {b b':Bool} {H:Hp} (q:Q (.bl b) H) (e:b=b'):Q (.bl b') H:=e▸q
theorem ag {H:Hp} {p:Addr} (h:H p=none) (o:HO):Same H (upd H p o):=fun b u q=>by rw [al (ah q h)];exact q
noncomputable def kY:Sp:=fun vs H Q _=> ∃ v,vs=[v]/\Sh H v/\Q (.bl (nJ v)) H
theorem cT {α:Type} {x:α} {r:List α}:atI (x::r) 0=some x:=ay (j:=0) rfl
theorem yI {α:Type} {x y:α} {r:List α}:atI (x::y::r) 1=some y:=ay (j:=1) rfl
theorem yH {α:Type} {x y z:α} {r:List α}:atI (x::y::z::r) 2=some z:=ay (j:=2) rfl
theorem nI {x:Str} (h:bj x=true):x.length<=1000:=by
 unfold bj at h
 simp only [Bool.and_eq_true,decide_eq_true_eq]at h
 lia
noncomputable def Kp (tp:Addr) (H H':Hp):Prop:= ∀ b o,H b=some o->b≠tp->H' b=some o
theorem Kp.refl {tp:Addr} {H:Hp}:Kp tp H H:=fun _ _ h _=>h
theorem Kp.trans {tp:Addr} {H H1 H2:Hp} (a:Kp tp H H1) (b:Kp tp H1 H2):Kp tp H H2:=fun c o h n=>b c o (a c o h n) n
theorem Kp.same {tp:Addr} {H H1 H2:Hp} (a:Kp tp H H1) (b:Same H1 H2):Kp tp H H2:=fun c o h n=>b c o (a c o h n)
theorem Kp.tape {tp:Addr} {H:Hp} {o:HO}:Kp tp H (upd H tp o):=fun b u h n=>by rw [al n];exact h
theorem Kp.new {tp p:Addr} {H H1:Hp} {o:HO} (a:Kp tp H H1) (h:H1 p=none):Kp tp H (upd H1 p o):=a.same (ag h _)
noncomputable def Tp (H:Hp) (tp:Addr):Prop:= ∃ t:Int,H tp=some (.lst [.int t])
theorem Kp.tk {tp:Addr} {H H':Hp} (a:Kp tp H H') (t:Tp H tp):TK H H':=fun b xs h=>a b _ h fun e=>by
 obtain ⟨t,ht⟩:=t
 subst e
 rw [ht]at h
 cases h
theorem Tp.new {H:Hp} {tp p:Addr} {o:HO} (t:Tp H tp) (h:H p=none):Tp (upd H p o) tp:=by
 obtain ⟨t,ht⟩:=t
 exact ⟨t,by rw [al (ah ht h)];exact ht⟩
inductive iZ (K:PySem.W.Frag) (vs:List V) (H:Hp) (Q:VK) (E_:XK):Prop
 | mk: ∀ (a:Addr) (ns:List Int) (k:Int),(vs=[.ref a,.int k])->(SqL K H a (ns.map V.int))->(ns.length<=63)->(0<=k)->(∀ c:Int,Q (.int c) H)->iZ K vs H Q E_
inductive ig (K:PySem.W.Frag) (vs:List V) (H:Hp) (Q:VK) (E_:XK):Prop
 | mk: ∀ (a:Addr) (ns:List Int) (k:Int),(vs=[.ref a,.int k])->(SqL K H a (ns.map V.int))->(ns.length<=63)->(0<=k)->(k<1000)->(∀ p t,H p=none->Q (.ref p) (upd H p (.lst [.int t])))->ig K vs H Q E_
inductive cc  (vs:List V) (H:Hp) (Q:VK) (E_:XK):Prop
 | mk: ∀ (tp:Addr) (m:Int),(vs=[.ref tp,.int m])->(Tp H tp)->(0<m)->(m<1073741824)->(∀ d t:Int,0<=d->d<m->Q (.int d) (upd H tp (.lst [.int t])))->cc vs H Q E_
inductive gF  (vs:List V) (H:Hp) (Q:VK) (E_:XK):Prop
 | mk: ∀ tp,(vs=[.ref tp])->(Tp H tp)->(∀ (n:Int) H',-999999<=n->n<=999999->Kp tp H H'->Tp H' tp->Q (.int n) H')->gF vs H Q E_
theorem wt:aI ["script","k"] ["script","k"] (aj sC):=fsc
theorem u9 (F:Fun K "_law_cell_at" "_law_cell_at" sC f fd) (G:Gb mg):FnOk P w K mg base CX0 1 f fd ["script","k"] (iZ K):=by
 refine F.ok wt (fun vs H Q E h=>?_) (fun cdv A outer s H vs Q E hr h=>?_)
 ·obtain ⟨a,ns,k,rfl,_⟩:=h
  rfl
 obtain ⟨a,ns,k,rfl,hS,hl,hk,q⟩:=h
 refine ⟨_,af (a7 (aA gX (pv 1) (ao (r:=cA K) aw rfl G.len PySem.boot_len (aa (pv 0) ad)) (aE _)) (ak (aF (au (r:=cD K) aW (pv 0) (pv 1) (fun _ _=>rfl)))) aH) (ak (aF ae)),?_⟩
 refine ⟨_,rfl,_,rfl,a,_,rfl,.inl hS,_,_,rfl,rfl,_,rfl,?_⟩
 refine bE (fun c=>?_) (fun c=>?_)
 ·have c':k< (((ns.map V.int).length:Nat):Int):=of_decide_eq_true c
  rw [List.length_map]at c'
  have hk':k.toNat<ns.length:=by lia
  have e:atI (ns.map V.int) k=some (V.int ns[k.toNat]):=by
   have ek:k=((k.toNat:Nat):Int):=by lia
   have q:atI (ns.map V.int) ((k.toNat:Nat):Int)=some (V.int ns[k.toNat]):=ay (by rw [List.getElem?_map,List.getElem?_eq_getElem hk'] <;> rfl)
   rw [<- ek]at q
   exact q
  exact ⟨_,rfl,_,rfl,a,_,k,_,rfl,rfl,hS,e,q _⟩
 ·exact q 0
theorem scTape:aI ["script","k","cell","p","one","two","three","four"] ["script","k"] (aj sy):=fsc
theorem u6 (F:Fun K "_law_tape" "_law_tape" sy f fd) (GC:FnOk P w K mg base CX0 1 g gd ["script","k"] (iZ K)) (bC:Binds K gd ["script","k"] []) (kC:PySem.W.keepIn K (.ref g)=true) (mC:mg "_law_cell_at"=some (.ref g)):
  FnOk P w K mg base CX0 2 f fd ["script","k"] (ig K):=by
 refine F.ok scTape (fun vs H Q E h=>?_) (fun cdv A outer s H vs Q E hr h=>?_)
 ·obtain ⟨a,ns,k,rfl,_⟩:=h
  rfl
 obtain ⟨a,ns,k,rfl,hS,hl,hk,hk2,q⟩:=h
 refine ⟨_,af (aq (i:=2) scTape.nd rfl (Or.inl rfl) (am GC hr rfl mC kC bC .nil aD (aa (pv 0) (aa (pv 1) ad))))
  (af (a7 (aA bV (ar cv (pv 2) ae) ae (aE _)) (ak (aF (bh (aa (ar gY (pv 2) ae) ad)))) aH)
  (af (aq (i:=3) scTape.nd rfl (Or.inl rfl) ae)
  (af (aq (i:=4) scTape.nd rfl (Or.inl rfl) (ar cv (ar aU (ar aU (ar db (ar cv (pv 2) (pv 3)) ae) (ar db ae (pv 1))) ae) (pv 3)))
  (af (aq (i:=5) scTape.nd rfl (Or.inl rfl) (ar cv (ar aU (ar aU (ar db (pv 4) (pv 4)) (ar db ae (pv 1))) (pv 4)) (pv 3)))
  (af (aq (i:=6) scTape.nd rfl (Or.inl rfl) (ar cv (ar aU (ar db (pv 5) (pv 5)) (pv 4)) (pv 3)))
  (af (aq (i:=7) scTape.nd rfl (Or.inl rfl) (ar cv (ar aU (ar db (pv 6) (pv 6)) (pv 5)) (pv 3)))
  (ak (aF (bh (aa (ar aU (ar db (ar aU (ar db (ar aU (ar db (pv 4) (pv 3)) (pv 5)) (pv 3)) (pv 6)) (pv 3)) (pv 7)) ad)))))))))),?_⟩
 refine ⟨_,rfl,_,rfl,a,ns,k,rfl,hS,hl,hk,fun c=>?_⟩
 refine ⟨_,rfl,_,_,rfl,rfl,(by show (0:Int) <2;decide),rfl,_,rfl,?_⟩
 refine bE (fun _=>?_) (fun _=>?_)
 ·exact ⟨_,rfl,_,_,rfl,rfl,⟨by decide,by decide⟩,(by show 1<=sizeLine;decide),fun p hp=>q p _ hp⟩
 have hp0:(0:Int) <2305843009213693951:=by decide
 have mm: ∀ x:Int,-(2^64) <x%2305843009213693951/\x%2305843009213693951<2^64:=fun x=>by
  have h1:=Int.emod_nonneg x (show (2305843009213693951:Int)≠0 by decide)
  have h2:=Int.emod_lt_of_pos x hp0
  lia
 have hkk: -(2^64) <k/\k<2^64:=by lia
 have hpp:(-(2^64):Int) <2305843009213693951/\(2305843009213693951:Int) <2^64:=by decide
 refine ⟨_,rfl,_,rfl,_,_,rfl,rfl,hp0,_,_,rfl,rfl,.inl (mm _),_,rfl,_,_,rfl,rfl,.inr hkk,_,_,rfl,rfl,_,_,rfl,rfl,_,rfl,_,_,rfl,rfl,hp0,?_⟩
 refine ⟨_,rfl,_,rfl,_,_,rfl,rfl,.inl (mm _),_,rfl,_,_,rfl,rfl,.inr hkk,_,_,rfl,rfl,_,rfl,_,_,rfl,rfl,_,rfl,_,_,rfl,rfl,hp0,?_⟩
 refine ⟨_,rfl,_,rfl,_,_,rfl,rfl,.inl (mm _),_,rfl,_,_,rfl,rfl,_,rfl,_,_,rfl,rfl,hp0,?_⟩
 refine ⟨_,rfl,_,rfl,_,_,rfl,rfl,.inl (mm _),_,rfl,_,_,rfl,rfl,_,rfl,_,_,rfl,rfl,hp0,?_⟩
 refine ⟨_,rfl,_,rfl,_,_,rfl,rfl,.inr hpp,_,rfl,_,_,rfl,rfl,_,rfl,_,_,rfl,rfl,.inr hpp,_,rfl,_,_,rfl,rfl,_,rfl,_,_,rfl,rfl,.inr hpp,_,rfl,_,_,rfl,rfl,(by show 1<=sizeLine;decide),fun p hp=>q p _ hp⟩
theorem scDigit:aI ["tape","many","found"] ["tape","many"] (aj oh):=fsc
theorem tN (F:Fun K "_law_digit" "_law_digit" oh f fd):FnOk P w K mg base CX0 1 f fd ["tape","many"] cc:=by
 refine F.ok scDigit (fun vs H Q E h=>?_) (fun cdv A outer s H vs Q E hr h=>?_)
 ·obtain ⟨tp,m,rfl,_⟩:=h
  rfl
 obtain ⟨tp,m,rfl,⟨t,ht⟩,hm,hm2,q⟩:=h
 refine ⟨_,af (aq (i:=2) scDigit.nd rfl (Or.inl rfl) (ar cv (au (r:=cD K) aW (pv 0) ae (fun _ _=>rfl)) (pv 1)))
  (af (wz (ar gY (au (r:=cD K) aW (pv 0) ae (fun _ _=>rfl)) (pv 1)) (wB (pv 0) ae sj))
  (ak (aF (pv 2)))),?_⟩
 refine ⟨_,rfl,tp,_,0,_,rfl,rfl,SqL.of ht,cT,_,rfl,_,_,rfl,rfl,hm,?_⟩
 refine ⟨_,rfl,tp,_,0,_,rfl,rfl,SqL.of ht,cT,_,rfl,_,_,rfl,rfl,⟨hm,hm2⟩,?_⟩
 refine ⟨_,rfl,tp,_,0,0,rfl,rfl,ht,rfl,?_⟩
 exact ⟨_,rfl,q (t%m) (t/m) (Int.emod_nonneg _ (by lia)) (Int.emod_lt_of_pos _ hm)⟩
theorem scNumber:aI ["tape","way"] ["tape"] (aj ls):=fsc
theorem qK (F:Fun K "_law_number" "_law_number" ls f fd) (GD:FnOk P w K mg base CX0 1 g gd ["tape","many"] cc) (bD:Binds K gd ["tape","many"] []) (kD:PySem.W.keepIn K (.ref g)=true) (mD:mg "_law_digit"=some (.ref g)):
  FnOk P w K mg base CX0 2 f fd ["tape"] gF:=by
 refine F.ok scNumber (fun vs H Q E h=>?_) (fun cdv A outer s H vs Q E hr h=>?_)
 ·obtain ⟨tp,rfl,_⟩:=h
  rfl
 obtain ⟨tp,rfl,hT,q⟩:=h
 refine ⟨_,af (aq (i:=1) scNumber.nd rfl (Or.inl rfl) (am GD hr rfl mD kD bD .nil aD (aa (pv 0) (aa ae ad))))
  (af (a7 (aA gX (pv 1) ae (aE _)) (ak (aF (pv 1))) aH)
  (ak (aF (au (r:=cD K) aW (bh (aa (pH kM ae) (aa (ar dz (am GD hr rfl mD kD bD .nil aD (aa (pv 0) (aa ae ad))) ae)
   (aa (ar dz (am GD hr rfl mD kD bD .nil aD (aa (pv 0) (aa ae ad))) ae) ad)))) (ar dz (pv 1) ae) (fun _ _=>rfl))))),?_⟩
 refine ⟨_,rfl,tp,6,rfl,hT,by decide,by decide,fun d t h0 h1=>?_⟩
 refine ⟨_,rfl,_,_,rfl,rfl,_,rfl,?_⟩
 refine bE (fun c=>?_) (fun c=>?_)
 ·exact ⟨_,rfl,q d _ (by lia) (by lia) Kp.tape ⟨t,ac⟩⟩
 have c':3<=d:=by
  rcases Int.lt_or_le d 3 with z | z
  ·exact absurd (decide_eq_true z) c
  ·exact z
 refine ⟨_,rfl,_,rfl,tp,1001,rfl,⟨t,ac⟩,by decide,by decide,fun d2 t2 h20 h21=>?_⟩
 refine ⟨_,_,rfl,rfl,_,rfl,tp,1999999,rfl,⟨t2,ac⟩,by decide,by decide,fun d3 t3 h30 h31=>?_⟩
 refine ⟨_,_,rfl,rfl,(by show 3<=sizeLine;decide),fun p hp=>?_⟩
 rw [cM,cM]at hp ⊢
 have hd:d=3\/d=4\/d=5:=by lia
 have fin: ∀ n:Int,-999999<=n->n<=999999->Q (.int n) (upd (upd H tp (.lst [.int t3])) p (.lst [.int (-1),.int (d2-500),.int (d3-999999)])):=fun n h1 h2=>
  q n _ h1 h2 (Kp.tape.new hp) (Tp.new ⟨t3,ac⟩ hp)
 rcases hd with rfl | rfl | rfl
 ·exact ⟨_,rfl,_,_,rfl,rfl,p,_,0,_,rfl,rfl,SqL.of ac,cT,fin _ (by lia) (by lia)⟩
 ·exact ⟨_,rfl,_,_,rfl,rfl,p,_,1,_,rfl,rfl,SqL.of ac,yI,fin _ (by lia) (by lia)⟩
 ·exact ⟨_,rfl,_,_,rfl,rfl,p,_,2,_,rfl,rfl,SqL.of ac,yH,fin _ (by lia) (by lia)⟩
theorem eQ {α:Type} {xs:List α} {d:Int} (h0:0<=d) (h1:d<xs.length): ∃ x,atI xs d=some x/\xs[d.toNat]? =some x:=by
 have hk:d.toNat<xs.length:=by lia
 have ek:d=((d.toNat:Nat):Int):=by lia
 have q:atI xs ((d.toNat:Nat):Int)=some xs[d.toNat]:=ay (List.getElem?_eq_getElem hk)
 rw [<- ek]at q
 exact ⟨_,q,List.getElem?_eq_getElem hk⟩
theorem fD (xs:List V) {j:Int} (h0:0<=j) (h1:j<=xs.length):gn xs none (some j)=xs.take j.toNat:=by
 have ej:j=((j.toNat:Nat):Int):=by lia
 have e:HT.sIx xs.length xs.length (some j)=j.toNat:=by
  rw [ej,HT.sIx_nat]
  lia
 unfold gn
 rw [e,HT.sIx_none,List.drop_zero,Nat.sub_zero]
theorem jB (xs:List V) {j:Int} (h0:0<=j) (h1:j<=xs.length):gn xs (some j) none=xs.drop j.toNat:=by
 have ej:j=((j.toNat:Nat):Int):=by lia
 have e:HT.sIx xs.length 0 (some j)=j.toNat:=by
  rw [ej,HT.sIx_nat]
  lia
 unfold gn
 rw [e,HT.sIx_none]
 apply List.take_of_length_le
 rw [List.length_drop]
 lia
theorem wm {xs:List V} {j:Nat} (h:j+2<=xs.length): ∃ a x y b,xs=a++x::y::b/\a.length=j/\xs.take j=a/\xs.drop (j+2)=b:=by
 refine ⟨xs.take j,xs[j],xs[j+1],xs.drop (j+2),?_,by rw [List.length_take];lia,rfl,rfl⟩
 rw [<- List.drop_eq_getElem_cons (by lia),<- List.drop_eq_getElem_cons (by lia),List.take_append_drop]
theorem wk {xs:List V} {j:Nat} (h:j+3<=xs.length): ∃ a x y z b,xs=a++x::y::z::b/\a.length=j/\xs.take j=a/\xs.drop (j+3)=b:=by
 refine ⟨xs.take j,xs[j],xs[j+1],xs[j+2],xs.drop (j+3),?_,by rw [List.length_take];lia,rfl,rfl⟩
 rw [<- List.drop_eq_getElem_cons (by lia),<- List.drop_eq_getElem_cons (by lia),<- List.drop_eq_getElem_cons (by lia),List.take_append_drop]
theorem jL {a b:List V} {x:V} {d:Int} (h:d=(a.length:Int)):atI (a++x::b) d=some x:=by
 subst h
 exact ay (by rw [List.getElem?_append_right (Nat.le_refl _),Nat.sub_self];rfl)
theorem xh {A B R:Prop} {c1 c2:Bool} (hr:(if c2=true then A else B)->R) (h1:c1=true->c2=true->A) (h2: ¬ (c1=true/\c2=true)->B):if c1=true then R else (if false=true then A else B):=by
 cases c1 with
 | true=>
  rw [if_pos rfl]
  apply hr
  cases c2 with
  | true=>rw [if_pos rfl];exact h1 rfl rfl
  | false=>exact cy (h2 fun z=>Bool.false_ne_true z.2)
 | false=>exact cy (cy (h2 fun z=>Bool.false_ne_true z.1))
theorem jZ (z:Str) {j:Int} (h0:0<=j) (h1:j<=z.length):((Txt.slice z none (some j)).length:Int)=j:=by
 rcases PyProof.Rows.slice_ns_cases z j h0 with ⟨_,h⟩ | ⟨h,_⟩
 ·exact h
 ·lia
noncomputable def letters:Str:="abcdefghijklmnopqrstuvwxyz"
theorem ng:letters.cps.toList.all cE=true:=by decide +kernel
theorem iI:letters.length=26:=by decide +kernel
theorem qX {d:Int} (h0:0<=d) (h1:d<26): ∃ c,atI letters.cps.toList d=some c/\cE c=true:=by
 have hl:letters.cps.toList.length=26:=by decide +kernel
 obtain ⟨c,e,e2⟩:=eQ (xs:=letters.cps.toList) h0 (by rw [hl];lia)
 exact ⟨c,e,List.all_eq_true.mp ng c (List.mem_of_getElem? e2)⟩
theorem bx (x y:Str):(x++y).length=x.length+y.length:=by
 show (x.cps++y.cps).size=_
 rw [Array.size_append]
 rfl
noncomputable def names13:List Str:=["own","up","down","min","max","of","top","form","sort","wheel","book","tree","ok"]
theorem aneq:(Txt.slice "aneqoubi" none (some 7)).length=7/\(Txt.slice "aneqoubi" none (some 7)).cps.toList.all cE=true:=by decide +kernel
theorem pX:("eyzmopq":Str).length=7:=by decide +kernel
theorem Tp.same {H H':Hp} {tp:Addr} (t:Tp H tp) (s:Same H H'):Tp H' tp:=by
 obtain ⟨t0,e⟩:=t
 exact ⟨t0,s _ _ e⟩
noncomputable def Fm.wfp (ρ:Fm->Prop):Fm->Prop
 | .num n=> -999999<=n/\n<=999999
 | .own x=>bj x=true/\ρ (.own x)
 | .part k x=>((0<=k/\k<=2)/\bj x=true)/\ρ (.part k x)
 | .bin op a b=>op∈ops/\a.wfp ρ/\b.wfp ρ
 | .whn a b c=>a.wfp ρ/\b.wfp ρ/\c.wfp ρ
inductive FsP (ρ:Fm->Prop) (H:Hp):List V->Nat->Prop where
 | nil:FsP ρ H [] 0
 | cons {v:V} {f:Fm} {vs:List V} {n:Nat}:Rep H f v->f.wfp ρ->FsP ρ H vs n->FsP ρ H (v::vs) (f.size+n)
theorem FsP.append {ρ:Fm->Prop} {H:Hp} {xs ys:List V} {m n:Nat} (a:FsP ρ H xs m) (b:FsP ρ H ys n):FsP ρ H (xs++ys) (m+n):=by
 induction a with
 | nil=>rw [Nat.zero_add];exact b
 | cons r w _ ih=>rw [Nat.add_assoc];exact .cons r w ih
theorem FsP.split {ρ:Fm->Prop} {H:Hp}: ∀ {xs ys:List V} {n:Nat},FsP ρ H (xs++ys) n-> ∃ a b,FsP ρ H xs a/\FsP ρ H ys b/\n=a+b
 | [],ys,n,h=>⟨0,n,.nil,h,by lia⟩
 | x::r,ys,n,h=>by
  cases h with
  | cons rp wf t=>
   obtain ⟨a,b,h1,h2,e⟩:=FsP.split t
   exact ⟨_,b,.cons rp wf h1,h2,by lia⟩
theorem FsP.mono {ρ:Fm->Prop} {H H':Hp} (t:TK H H') {xs:List V} {n:Nat} (h:FsP ρ H xs n):FsP ρ H' xs n:=by
 induction h with
 | nil=>exact .nil
 | cons r w _ ih=>exact .cons (r.mono t) w ih
noncomputable def LvsP (ρ:Fm->Prop) (H:Hp) (rs:List V):Prop:= ∀ v∈rs,∃ f,Rep H f v/\f.wfp ρ/\f.size=1
theorem LvsP.mono {ρ:Fm->Prop} {H H':Hp} (t:TK H H') {rs:List V} (h:LvsP ρ H rs):LvsP ρ H' rs:=fun v hv=>by
 obtain ⟨f,r,w,s⟩:=h v hv
 exact ⟨f,r.mono t,w,s⟩
inductive lg (ρ:Fm->Prop) (vs:List V) (H:Hp) (Q:VK) (E_:XK):Prop
 | mk: ∀ tp rl rs,(vs=[.ref tp,.ref rl])->(Tp H tp)->(rl≠tp)->(H rl=some (.lst rs))->(rs.length<=1000)->(LvsP ρ H rs)->(∀ v f H',Rep H' f v->f.wfp ρ->f.size=1->Kp tp H H'->Tp H' tp->Q v H')->lg ρ vs H Q E_
inductive eF (ρ:Fm->Prop) (vs:List V) (H:Hp) (Q:VK) (E_:XK):Prop
 | mk: ∀ tp rl rs,(vs=[.ref tp,.ref rl])->(Tp H tp)->(rl≠tp)->(H rl=some (.lst rs))->(rs.length<=1000)->(LvsP ρ H rs)->(∀ v f H',Rep H' f v->f.wfp ρ->f.size<=15->Kp tp H H'->Tp H' tp->Q v H')->eF ρ vs H Q E_
theorem uR:aI ["tape","readings"] ["tape","readings"] (aj sB):=fsc
theorem tK {ρ:Fm->Prop} (F:Fun K "_law_leaf" "_law_leaf" sB f fd) (G:Gb mg) (GD:FnOk P w K mg base CX0 1 g gd ["tape","many"] cc) (bD:Binds K gd ["tape","many"] []) (kD:PySem.W.keepIn K (.ref g)=true) (mD:mg "_law_digit"=some (.ref g))
  (GN:FnOk P w K mg base CX0 2 f2 fd2 ["tape"] gF) (bN:Binds K fd2 ["tape"] []) (kN:PySem.W.keepIn K (.ref f2)=true) (mN:mg "_law_number"=some (.ref f2)):
  FnOk P w K mg base CX0 3 f fd ["tape","readings"] (lg ρ):=by
 refine F.ok uR (fun vs H Q E h=>?_) (fun cdv A outer s H vs Q E hr h=>?_)
 ·obtain ⟨tp,rl,rs,rfl,_⟩:=h
  rfl
 obtain ⟨tp,rl,rs,rfl,hT,hne,hrl,hlen,hL,q⟩:=h
 have hr1:=hr.mono (show 1<=2 by decide)
 refine ⟨_,af (a7 (PW.pt (ge (aA kd (ao (r:=cA K) aw rfl G.len PySem.boot_len (aa (pv 1) ad)) ae (aE _))
   (eG (aA gX (am GD hr1 rfl mD kD bD .nil aD (aa (pv 0) (aa ae ad))) ae (aE _)))))
   (ak (aF (au (r:=cD K) aW (pv 1) (am GD hr1 rfl mD kD bD .nil aD (aa (pv 0) (aa (ao (r:=cA K) aw rfl G.len PySem.boot_len (aa (pv 1) ad)) ad))) (fun _ _=>rfl)))) aH)
  (ak (aF (aZ (aa aN (aa (am GN hr rfl mN kN bN .nil aD (aa (pv 0) ad)) ad))))),?_⟩
 have num: ∀ H1,Kp tp H H1->Tp H1 tp->(qp 0 ([some (V.ref tp),some (.ref rl)]:St) H1 fun v H1=>gF [v] H1 (fun x H2=>[V.str "num",x].length<=sizeLine/\ ∀ p,H2 p=none->Q (.ref p) (upd H2 p (.tup [V.str "num",x]))) E0):=fun H1 k1 t1=>by
  refine ⟨_,rfl,tp,rfl,t1,fun n H2 h1 h2 k2 t2=>⟨(by show 2<=sizeLine;decide),fun p hp=>?_⟩⟩
  exact q _ (.num n) _ ⟨p,rfl,ac⟩ ⟨h1,h2⟩ rfl ((k1.trans k2).new hp) (t2.new hp)
 refine ⟨_,rfl,rl,rs,rfl,.inl (SqL.of hrl),_,_,rfl,rfl,_,rfl,?_⟩
 refine bE (fun c=>?_) (fun c=>?_)
 ·have c':0<rs.length:=by have:=of_decide_eq_true c;lia
  refine ⟨_,rfl,tp,4,rfl,hT,by decide,by decide,fun d t h0 h1=>?_⟩
  refine ⟨_,_,rfl,rfl,_,rfl,?_⟩
  refine bE (fun c2=>?_) (fun c2=>?_)
  ·have h2:(upd H tp (.lst [.int t])) rl=some (.lst rs):=by rw [al hne];exact hrl
   refine ⟨_,rfl,_,rfl,_,rfl,rl,rs,rfl,.inl (SqL.of h2),tp,_,rfl,⟨t,ac⟩,by lia,by lia,fun d2 t2 h20 h21=>?_⟩
   rw [cM]
   have h3:(upd H tp (.lst [.int t2])) rl=some (.lst rs):=by rw [al hne];exact hrl
   obtain ⟨x,ex,ex2⟩:=eQ (xs:=rs) h20 h21
   obtain ⟨fm,r,wf,sz⟩:=hL x (List.mem_of_getElem? ex2)
   have k2:Kp tp H (upd H tp (.lst [.int t2])):=Kp.tape
   exact ⟨rl,rs,d2,x,rfl,rfl,SqL.of h3,ex,q x fm _ (r.mono (k2.tk hT)) wf sz k2 ⟨t2,ac⟩⟩
  ·exact num _ Kp.tape ⟨t,ac⟩
 ·exact num _ Kp.refl hT
theorem vt {H:Hp} {a b:List V} {x y:V} {n:Nat} (h:FsP ρ H (a++x::y::b) n): ∃ A B,Rep H A x/\Rep H B y/\A.wfp ρ/\B.wfp ρ/\ ∃ m1 m2,FsP ρ H a m1/\FsP ρ H b m2/\n=m1+ (A.size+ (B.size+m2)):=by
 obtain ⟨m1,r,h1,h2,e⟩:=h.split
 cases h2 with
 | cons ra wa h3=>
  cases h3 with
  | cons rb wb h4=>exact ⟨_,_,ra,rb,wa,wb,m1,_,h1,h4,e⟩
theorem vq {H:Hp} {a b:List V} {x y z:V} {n:Nat} (h:FsP ρ H (a++x::y::z::b) n): ∃ A B C,Rep H A x/\Rep H B y/\Rep H C z/\A.wfp ρ/\B.wfp ρ/\C.wfp ρ/\ ∃ m1 m2,FsP ρ H a m1/\FsP ρ H b m2/\n=m1+ (A.size+ (B.size+ (C.size+m2))):=by
 obtain ⟨m1,r,h1,h2,e⟩:=h.split
 cases h2 with
 | cons ra wa h3=>
  cases h3 with
  | cons rb wb h4=>
   cases h4 with
   | cons rc wc h5=>exact ⟨_,_,_,ra,rb,rc,wa,wb,wc,m1,_,h1,h5,e⟩
theorem scFormulaP:aI ["tape","readings","many","j","stack","way","sign"] ["tape","readings"] (aj ee):=fsc
theorem mX (F:Fun K "_law_formula" "_law_formula" ee f fd) (G:Gb mg) (GD:FnOk P w K mg base CX0 1 g gd ["tape","many"] cc) (bD:Binds K gd ["tape","many"] []) (kD:PySem.W.keepIn K (.ref g)=true) (mD:mg "_law_digit"=some (.ref g))
  (GL:FnOk P w K mg base CX0 3 f2 fd2 ["tape","readings"] (lg ρ)) (bL:Binds K fd2 ["tape","readings"] []) (kL:PySem.W.keepIn K (.ref f2)=true) (mL:mg "_law_leaf"=some (.ref f2)):
  FnOk P w K mg base CX0 4 f fd ["tape","readings"] (eF ρ):=by
 refine F.ok scFormulaP (fun vs H Q E h=>?_) (fun cdv A outer s H vs Q E hr h=>?_)
 ·obtain ⟨tp,rl,rs,rfl,_⟩:=h
  rfl
 obtain ⟨tp,rl,rs,rfl,hT,hne,hrl,hlen,hL,q⟩:=h
 have hr1:=hr.mono (show 1<=3 by decide)
 obtain ⟨t,ht,hread⟩: ∃ t,PSs (cY CX0 P w K mg base ["tape","readings","many","j","stack","way","sign"] "_law_formula" (aj ee) f cdv A outer s H E).nox ((cz ee).drop 2) t/\
   ∀ (m:Int) (H2:Hp),1<=m->m<=8->Kp tp H H2->Tp H2 tp->t {nx:=fun _ H'=>Q .non H',rt:=Q} [some (.ref tp),some (.ref rl),some (.int m),none,none,none,none] H2:=by
  refine ⟨_,af (eI (i:=4) (sc0:=aj ee) (N0:=["tape","readings","many","j","stack","way","sign"]) (ys:=["tape","readings"]) (fr:=[0,1]) rfl scFormulaP.nd rfl (Or.inl rfl) (bp rfl G.range (aa (pv 2) ad)) rfl rfl
    cok
    (fun C s H ex=>am GL hr rfl mL kL bL .nil aD (aa (pv 1) (aa (pv 2) ad))))
   (af (gN PassesOwn.never (aA kd (ao (r:=cA K) aw rfl G.len PySem.boot_len (aa (pv 4) ad)) ae (aE _))
    (af (aq (i:=5) scFormulaP.nd rfl (Or.inl rfl) (am GD hr1 rfl mD kD bD .nil aD (aa (pv 0) (aa ae ad))))
    (ak (a7 (PW.pt (ge (aA bV (pv 5) ae (aE _)) (eG (aA kd (ao (r:=cA K) aw rfl G.len PySem.boot_len (aa (pv 4) ad)) ae (aE _)))))
     (af (aq (i:=3) scFormulaP.nd rfl (Or.inl rfl) (am GD hr1 rfl mD kD bD .nil aD (aa (pv 0) (aa (ar dz (ao (r:=cA K) aw rfl G.len PySem.boot_len (aa (pv 4) ad)) ae) ad))))
     (ak (aq (i:=4) scFormulaP.nd rfl (Or.inl rfl) (ar jn (ar jn (aP df (pv 4) a9 (aQ (pv 3)))
      (bh (aa (aZ (aa aN (aa (au (r:=cD K) aW (pv 4) (pv 3) (fun _ _=>rfl)) (aa (au (r:=cD K) aW (pv 4) (ar aU (pv 3) ae) (fun _ _=>rfl)) (aa (au (r:=cD K) aW (pv 4) (ar aU (pv 3) ae) (fun _ _=>rfl)) ad))))) ad)))
      (aP df (pv 4) (aQ (ar aU (pv 3) ae)) a9)))))
     (af (aq (i:=3) scFormulaP.nd rfl (Or.inl rfl) (am GD hr1 rfl mD kD bD .nil aD (aa (pv 0) (aa (ar dz (ao (r:=cA K) aw rfl G.len PySem.boot_len (aa (pv 4) ad)) ae) ad))))
     (af (aq (i:=6) scFormulaP.nd rfl (Or.inl rfl) (au (r:=cD K) aW (bh (aa aN (aa aN (aa aN (aa aN (aa aN ad)))))) (ar cv (pv 5) ae) (fun _ _=>rfl)))
     (ak (aq (i:=4) scFormulaP.nd rfl (Or.inl rfl) (ar jn (ar jn (aP df (pv 4) a9 (aQ (pv 3)))
      (bh (aa (aZ (aa (pv 6) (aa (au (r:=cD K) aW (pv 4) (pv 3) (fun _ _=>rfl)) (aa (au (r:=cD K) aW (pv 4) (ar aU (pv 3) ae) (fun _ _=>rfl)) ad)))) ad)))
      (aP df (pv 4) (aQ (ar aU (pv 3) ae)) a9))))))))))
   (ak (aF (au (r:=cD K) aW (pv 4) ae (fun _ _=>rfl))))),fun m H2 hm1 hm8 k2 tt2=>?_⟩
  have tpn: ∀ {p:Addr} {Hx:Hp},Tp Hx tp->Hx p=none->p≠tp:=fun t hp e=>by
   obtain ⟨t0,e0⟩:=t
   subst e
   rw [e0]at hp
   cases hp
  refine ⟨_,rfl,m,rfl,by lia,by lia,?_⟩
  refine fM (n:=m.toNat) (R:=fun i v=>v=.int (0+i)) (by lia) jv fC iS
   (fun p i zs H'=>Kp tp H H'/\Tp H' tp/\H' p=some (.lst zs)/\p≠tp/\zs.length=i/\FsP ρ H' zs i) ?_ ?_ ?_ ?_
  ·intro p hp
   exact ⟨k2.new hp,tt2.new hp,ac,tpn tt2 hp,rfl,.nil⟩
  ·rintro p i zs H' ⟨_,_,h,_,e,_⟩
   exact ⟨h,e⟩
  ·rintro p i zs H' v k hp hi rfl ⟨k3,t3,hz,hpn,hzl,hf⟩ hk
   have hrl':H' rl=some (.lst rs):=k3 _ _ hrl hne
   refine ⟨_,rfl,_,rfl,tp,rl,rs,rfl,t3,hne,hrl',hlen,hL.mono (k3.tk hT),fun v f H3 rp wf sz k4 t4=>?_⟩
   refine hk v H3 (k4 _ _ hz hpn) ⟨?_,?_,ac,hpn,by rw [List.length_append,hzl];rfl,?_⟩
   ·intro b o hb hne'
    have hbp:b≠p:=fun e=>by
     subst e
     have:=k2 b o hb hne'
     rw [hp]at this
     cases this
    rw [al hbp]
    exact k4 _ _ (k3 _ _ hb hne') hne'
   ·obtain ⟨t0,e0⟩:=t4
    exact ⟨t0,by rw [al (Ne.symm hpn)];exact e0⟩
   ·have tk:TK H3 (upd H3 p (.lst (zs++[v]))):=TK.lst (k4 _ _ hz hpn)
    have e1:FsP ρ H3 zs i:=hf.mono (k4.tk t3)
    have e2:=e1.append (FsP.cons rp wf .nil)
    rw [sz]at e2
    exact e2.mono tk
  ·rintro p zs H' hp ⟨k3,t3,hz,hpn,hzl,hf⟩
   refine l9 (fun σ H'=> ∃ (sl:Addr) (ws:List V) (n:Nat) (j wy sg:Option V),σ=[some (.ref tp),some (.ref rl),some (.int m),j,some (.ref sl),wy,sg]/\H' sl=some (.lst ws)/\sl≠tp/\1<=ws.length/\ws.length<=8/\
     FsP ρ H' ws n/\n+ws.length<=16/\Kp tp H H'/\Tp H' tp)
    (fun σ H'=>match σ with | [_,_,_,_,some (.ref sl),_,_]=>(match H' sl with | some (.lst ws)=>ws.length | _=>0) | _=>0)
    ⟨p,zs,m.toNat,none,none,none,rfl,hz,hpn,by lia,by lia,hf,by lia,k3,t3⟩ ?_ ?_
   ·rintro σ H3 ⟨sl,ws,n,j,wy,sg,rfl,hsl,hsn,hw1,hw8,hfs,hsz,k4,t4⟩
    refine ⟨_,rfl,sl,ws,rfl,.inl (SqL.of hsl),_,_,rfl,rfl,_,rfl,?_⟩
    refine bE (fun c=>?_) (fun c=>?_)
    ·have c':1<ws.length:=by have:=of_decide_eq_true c;lia
     refine ⟨_,rfl,tp,6,rfl,t4,by decide,by decide,fun wy t5 hw0 hw6=>?_⟩
     have k5:Kp tp H3 (upd H3 tp (.lst [.int t5])):=Kp.tape
     have tt5:Tp (upd H3 tp (.lst [.int t5])) tp:=⟨t5,ac⟩
     have hsl5:=k5 _ _ hsl hsn
     have hfs5:=hfs.mono (k5.tk t4)
     have k5':=k4.trans k5
     generalize upd H3 tp (.lst [.int t5])=H5 at k5 tt5 hsl5 hfs5 k5' ⊢
     refine ⟨_,rfl,rfl,_,rfl,?_⟩
     refine xh (c2:=decide (2< (ws.length:Int))) (fun h=>⟨_,rfl,sl,ws,rfl,.inl (SqL.of hsl5),_,_,rfl,rfl,_,rfl,h⟩) (fun _ cw=>?_) (fun _=>?_)
     ·-- when
      have cw':2<ws.length:=by have:=of_decide_eq_true cw;lia
      refine ⟨_,rfl,_,rfl,sl,ws,rfl,.inl (SqL.of hsl5),_,_,rfl,rfl,tp,_,rfl,tt5,by lia,by lia,fun jj t6 hj0 hj1=>?_⟩
      have k6:Kp tp H5 (upd H5 tp (.lst [.int t6])):=Kp.tape
      have tt6:Tp (upd H5 tp (.lst [.int t6])) tp:=⟨t6,ac⟩
      have hsl6:=k6 _ _ hsl5 hsn
      have hfs6:=hfs5.mono (k6.tk tt5)
      have k6':=k5'.trans k6
      generalize upd H5 tp (.lst [.int t6])=H6 at k6 tt6 hsl6 hfs6 k6' ⊢
      obtain ⟨a,x,y,z,b,ew,ea,etk,edr⟩:=wk (xs:=ws) (j:=jj.toNat) (by lia)
      have ej:jj=(a.length:Int):=by lia
      obtain ⟨A,B,C,ra,rb,rc,wa,wb,wc,m1,m2,f1,f2,en⟩:=vq (ew▸hfs6)
      have hlw:ws.length=a.length+3+b.length:=by rw [ew];simp;lia
      refine ⟨_,rfl,_,rfl,jj,rfl,sl,ws,rfl,SqL.of hsl6,fun p1 hp1=>?_⟩
      rw [fD ws hj0 (by lia),etk]
      have s1:Same H6 (upd H6 p1 (.lst a)):=ag hp1 _
      have g1:(upd H6 p1 (.lst a)) p1=some (.lst a):=ac
      generalize upd H6 p1 (.lst a)=H7 at s1 g1 ⊢
      have hsl7:=s1 _ _ hsl6
      refine ⟨_,rfl,_,rfl,sl,ws,jj,x,rfl,rfl,SqL.of hsl7,ew▸jL ej,_,rfl,_,rfl,_,_,rfl,rfl,sl,ws,jj+1,y,rfl,rfl,SqL.of hsl7,?_,_,rfl,_,rfl,_,_,rfl,rfl,sl,ws,jj+2,z,rfl,rfl,SqL.of hsl7,?_,(by show 4<=sizeLine;decide),fun p2 hp2=>?_⟩
      ·rw [ew,show a++x::y::z::b=(a++[x])++y::z::b by simp]
       exact jL (by simp;lia)
      ·rw [ew,show a++x::y::z::b=(a++[x,y])++z::b by simp]
       exact jL (by simp;lia)
      have s2:Same H7 (upd H7 p2 (.tup [.str "when",x,y,z])):=ag hp2 _
      have g2:(upd H7 p2 (.tup [.str "when",x,y,z])) p2=some (.tup [.str "when",x,y,z]):=ac
      generalize upd H7 p2 (.tup [.str "when",x,y,z])=H8 at s2 g2 ⊢
      refine ⟨(by show 1<=sizeLine;decide),fun p3 hp3=>?_⟩
      have s3:Same H8 (upd H8 p3 (.lst [.ref p2])):=ag hp3 _
      have g3:(upd H8 p3 (.lst [.ref p2])) p3=some (.lst [.ref p2]):=ac
      generalize upd H8 p3 (.lst [.ref p2])=H9 at s3 g3 ⊢
      refine ⟨p1,p3,a,_,rfl,rfl,s3 _ _ (s2 _ _ g1),g3,Nat.le_of_lt (av (by simp;lia)),fun p4 hp4=>?_⟩
      have s4:Same H9 (upd H9 p4 (.lst (a++[.ref p2]))):=ag hp4 _
      have g4:(upd H9 p4 (.lst (a++[.ref p2]))) p4=some (.lst (a++[.ref p2])):=ac
      generalize upd H9 p4 (.lst (a++[.ref p2]))=H10 at s4 g4 ⊢
      have s7:Same H7 H10:=s2.trans (s3.trans s4)
      refine ⟨_,rfl,_,rfl,_,_,rfl,rfl,jj+3,rfl,sl,ws,rfl,SqL.of (s7 _ _ hsl7),fun p5 hp5=>?_⟩
      rw [jB ws (by lia) (by lia),show (jj+3).toNat=jj.toNat+3 by lia,edr]
      have s5:Same H10 (upd H10 p5 (.lst b)):=ag hp5 _
      have g5:(upd H10 p5 (.lst b)) p5=some (.lst b):=ac
      generalize upd H10 p5 (.lst b)=H11 at s5 g5 ⊢
      refine ⟨p4,p5,_,b,rfl,rfl,s5 _ _ g4,g5,Nat.le_of_lt (av (by simp;lia)),fun p6 hp6=>?_⟩
      have s6:Same H6 H11:=s1.trans (s7.trans s5)
      have st:Same H6 (upd H11 p6 (.lst (a++[.ref p2]++b))):=s6.trans (ag hp6 _)
      have tk:TK H6 (upd H11 p6 (.lst (a++[.ref p2]++b))):=fun c xs h=>st _ _ h
      have g2':(upd H11 p6 (.lst (a++[.ref p2]++b))) p2=some (.tup [.str "when",x,y,z]):=(ag hp6 _) _ _ (s5 _ _ (s4 _ _ (s3 _ _ g2)))
      have tt7:Tp (upd H11 p6 (.lst (a++[.ref p2]++b))) tp:=by obtain ⟨t0,e0⟩:=tt6;exact ⟨t0,st _ _ e0⟩
      refine ⟨⟨p6,_,m1+ ((Fm.whn A B C).size+0) +m2,_,_,_,rfl,ac,?_,by simp;lia,by simp;lia,?_,?_,k6'.same st,tt7⟩,?_⟩
      ·intro e
       obtain ⟨t0,e0⟩:=tt6
       have:=s6 _ _ e0
       rw [<- e,hp6]at this
       cases this
      ·exact ((f1.mono tk).append (FsP.cons (f:=.whn A B C) ⟨p2,x,y,z,rfl,g2',ra.mono tk,rb.mono tk,rc.mono tk⟩ ⟨wa,wb,wc⟩ .nil)).append (f2.mono tk)
      ·show m1+ ((A.size+B.size+C.size+1) +0) +m2+ (a++[V.ref p2]++b).length<=16
       simp
       lia
      ·show (match (upd H11 p6 (.lst (a++[.ref p2]++b))) p6 with | some (.lst ws)=>ws.length | _=>0) < (match H3 sl with | some (.lst ws)=>ws.length | _=>0)
       rw [ac,hsl]
       simp
       lia
     ·-- one of the five signs
      refine ⟨_,rfl,_,rfl,sl,ws,rfl,.inl (SqL.of hsl5),_,_,rfl,rfl,tp,_,rfl,tt5,by lia,by lia,fun jj t6 hj0 hj1=>?_⟩
      have k6:Kp tp H5 (upd H5 tp (.lst [.int t6])):=Kp.tape
      have tt6:Tp (upd H5 tp (.lst [.int t6])) tp:=⟨t6,ac⟩
      have hsl6:=k6 _ _ hsl5 hsn
      have hfs6:=hfs5.mono (k6.tk tt5)
      have k6':=k5'.trans k6
      generalize upd H5 tp (.lst [.int t6])=H6 at k6 tt6 hsl6 hfs6 k6' ⊢
      refine ⟨(by show 5<=sizeLine;decide),fun p0 hp0=>?_⟩
      have s0:Same H6 (upd H6 p0 (.lst [.str "plus",.str "less",.str "times",.str "least",.str "most"])):=ag hp0 _
      have g0:(upd H6 p0 (.lst [.str "plus",.str "less",.str "times",.str "least",.str "most"])) p0=some (.lst [.str "plus",.str "less",.str "times",.str "least",.str "most"]):=ac
      generalize upd H6 p0 (.lst [.str "plus",.str "less",.str "times",.str "least",.str "most"])=H6b at s0 g0 ⊢
      obtain ⟨op,hop,hopm⟩: ∃ op,atI [V.str "plus",.str "less",.str "times",.str "least",.str "most"] (wy%5)=some (.str op)/\op∈ops:=by
       have h1:=Int.emod_nonneg wy (show (5:Int)≠0 by decide)
       have h2:=Int.emod_lt_of_pos wy (show (0:Int) <5 by decide)
       have h5:wy%5=0\/wy%5=1\/wy%5=2\/wy%5=3\/wy%5=4:=by lia
       rcases h5 with h | h | h | h | h <;> rw [h]
       ·exact ⟨"plus",rfl,by simp [ops]⟩
       ·exact ⟨"less",rfl,by simp [ops]⟩
       ·exact ⟨"times",rfl,by simp [ops]⟩
       ·exact ⟨"least",rfl,by simp [ops]⟩
       ·exact ⟨"most",rfl,by simp [ops]⟩
      refine ⟨_,rfl,_,_,rfl,rfl,(by show (0:Int) <5;decide),p0,_,_,_,rfl,rfl,SqL.of g0,hop,?_⟩
      obtain ⟨a,x,y,b,ew,ea,etk,edr⟩:=wm (xs:=ws) (j:=jj.toNat) (by lia)
      have ej:jj=(a.length:Int):=by lia
      obtain ⟨A,B,ra,rb,wa,wb,m1,m2,f1,f2,en⟩:=vt (ew▸hfs6)
      have hlw:ws.length=a.length+2+b.length:=by rw [ew];simp;lia
      have hsl6b:=s0 _ _ hsl6
      refine ⟨_,rfl,_,rfl,jj,rfl,sl,ws,rfl,SqL.of hsl6b,fun p1 hp1=>?_⟩
      rw [fD ws hj0 (by lia),etk]
      have s1:Same H6b (upd H6b p1 (.lst a)):=ag hp1 _
      have g1:(upd H6b p1 (.lst a)) p1=some (.lst a):=ac
      generalize upd H6b p1 (.lst a)=H7 at s1 g1 ⊢
      have hsl7:=s1 _ _ hsl6b
      refine ⟨_,rfl,_,rfl,_,rfl,sl,ws,jj,x,rfl,rfl,SqL.of hsl7,ew▸jL ej,_,rfl,_,rfl,_,_,rfl,rfl,sl,ws,jj+1,y,rfl,rfl,SqL.of hsl7,?_,(by show 3<=sizeLine;decide),fun p2 hp2=>?_⟩
      ·rw [ew,show a++x::y::b=(a++[x])++y::b by simp]
       exact jL (by simp;lia)
      have s2:Same H7 (upd H7 p2 (.tup [.str op,x,y])):=ag hp2 _
      have g2:(upd H7 p2 (.tup [.str op,x,y])) p2=some (.tup [.str op,x,y]):=ac
      generalize upd H7 p2 (.tup [.str op,x,y])=H8 at s2 g2 ⊢
      refine ⟨(by show 1<=sizeLine;decide),fun p3 hp3=>?_⟩
      have s3:Same H8 (upd H8 p3 (.lst [.ref p2])):=ag hp3 _
      have g3:(upd H8 p3 (.lst [.ref p2])) p3=some (.lst [.ref p2]):=ac
      generalize upd H8 p3 (.lst [.ref p2])=H9 at s3 g3 ⊢
      refine ⟨p1,p3,a,_,rfl,rfl,s3 _ _ (s2 _ _ g1),g3,Nat.le_of_lt (av (by simp;lia)),fun p4 hp4=>?_⟩
      have s4:Same H9 (upd H9 p4 (.lst (a++[.ref p2]))):=ag hp4 _
      have g4:(upd H9 p4 (.lst (a++[.ref p2]))) p4=some (.lst (a++[.ref p2])):=ac
      generalize upd H9 p4 (.lst (a++[.ref p2]))=H10 at s4 g4 ⊢
      have s7:Same H7 H10:=s2.trans (s3.trans s4)
      refine ⟨_,rfl,_,rfl,_,_,rfl,rfl,jj+2,rfl,sl,ws,rfl,SqL.of (s7 _ _ hsl7),fun p5 hp5=>?_⟩
      rw [jB ws (by lia) (by lia),show (jj+2).toNat=jj.toNat+2 by lia,edr]
      have s5:Same H10 (upd H10 p5 (.lst b)):=ag hp5 _
      have g5:(upd H10 p5 (.lst b)) p5=some (.lst b):=ac
      generalize upd H10 p5 (.lst b)=H11 at s5 g5 ⊢
      refine ⟨p4,p5,_,b,rfl,rfl,s5 _ _ g4,g5,Nat.le_of_lt (av (by simp;lia)),fun p6 hp6=>?_⟩
      have s6:Same H6 H11:=s0.trans (s1.trans (s7.trans s5))
      have st:Same H6 (upd H11 p6 (.lst (a++[.ref p2]++b))):=s6.trans (ag hp6 _)
      have tk:TK H6 (upd H11 p6 (.lst (a++[.ref p2]++b))):=fun c xs h=>st _ _ h
      have g2':(upd H11 p6 (.lst (a++[.ref p2]++b))) p2=some (.tup [.str op,x,y]):=(ag hp6 _) _ _ (s5 _ _ (s4 _ _ (s3 _ _ g2)))
      have tt7:Tp (upd H11 p6 (.lst (a++[.ref p2]++b))) tp:=by obtain ⟨t0,e0⟩:=tt6;exact ⟨t0,st _ _ e0⟩
      refine ⟨⟨p6,_,m1+ ((Fm.bin op A B).size+0) +m2,_,_,_,rfl,ac,?_,by simp;lia,by simp;lia,?_,?_,k6'.same st,tt7⟩,?_⟩
      ·intro e
       obtain ⟨t0,e0⟩:=tt6
       have:=s6 _ _ e0
       rw [<- e,hp6]at this
       cases this
      ·exact ((f1.mono tk).append (FsP.cons (f:=.bin op A B) ⟨p2,x,y,rfl,g2',ra.mono tk,rb.mono tk⟩ ⟨hopm,wa,wb⟩ .nil)).append (f2.mono tk)
      ·show m1+ ((A.size+B.size+1) +0) +m2+ (a++[V.ref p2]++b).length<=16
       simp
       lia
      ·show (match (upd H11 p6 (.lst (a++[.ref p2]++b))) p6 with | some (.lst ws)=>ws.length | _=>0) < (match H3 sl with | some (.lst ws)=>ws.length | _=>0)
       rw [ac,hsl]
       simp
       lia
    ·have c':ws.length=1:=by
      have: ¬ (1:Int) < (ws.length:Int):=fun z=>c (decide_eq_true z)
      lia
     obtain ⟨x,ex⟩:=List.length_eq_one_iff.mp c'
     subst ex
     cases hfs with
     | cons rp wf f2=>
      cases f2
      refine ⟨_,rfl,sl,_,0,x,rfl,rfl,SqL.of hsl,cT,q x _ H3 rp wf (by simp at hsz;lia) k4 t4⟩
   ·rintro σ H3 Q1 Q2 hq ⟨y,e1,p,ys,e2,h2,i,j,e3,e4,k,e5,h⟩
    exact ⟨y,e1,p,ys,e2,h2,i,j,e3,e4,k,e5,hq _ _ h⟩
 refine ⟨_,af (aq (i:=2) scFormulaP.nd rfl (Or.inl rfl) (ar aU ae (am GD hr1 rfl mD kD bD .nil aD (aa (pv 0) (aa ae ad)))))
  (af (a7 (aA bV (am GD hr1 rfl mD kD bD .nil aD (aa (pv 0) (aa ae ad))) ae (aE _)) (ak (aq (i:=2) scFormulaP.nd rfl (Or.inl rfl) ae)) aH) ht),?_⟩
 refine ⟨_,rfl,tp,4,rfl,hT,by decide,by decide,fun d1 t1 h10 h11=>?_⟩
 refine ⟨1,_,rfl,rfl,?_⟩
 refine ⟨_,rfl,tp,16,rfl,⟨t1,ac⟩,by decide,by decide,fun d2 t2 h20 h21=>?_⟩
 rw [cM]
 refine ⟨rfl,_,rfl,?_⟩
 refine bE (fun c9=>?_) (fun c9=>?_)
 ·exact hread 8 _ (by decide) (by decide) Kp.tape ⟨t2,ac⟩
 ·exact hread (1+d1) _ (by lia) (by lia) Kp.tape ⟨t2,ac⟩
noncomputable def nh (d:Int):Nat:=(atI letters.cps.toList d).getD 0
noncomputable def eD (tu:Int):Str:=(⟨#[nh tu]⟩:Str)++Txt.slice "aneqoubi" none (some 7)
noncomputable def nm0 (tu:Int) (i:Nat):Str:=if (0+ (i:Int)) <8 then Txt.slice (eD tu) none (some (0+ (i:Int) +1))else (⟨#[nh ((tu+1) %26)]⟩:Str)++Txt.slice (eD tu) none (some (0+ (i:Int) -8))
noncomputable def nm1 (tu:Int) (i:Nat):Str:=((names13)[((tu+ (0+ (i:Int))) %13).toNat]?).getD ""
noncomputable def nm2 (tu:Int) (i:Nat):Str:=(⟨#[nh ((tu+ (0+ (i:Int))) %26)]⟩:Str)++Txt.slice "eyzmopq" none (some ((tu+3* (0+ (i:Int))) %8))
noncomputable def jQ (way:Nat) (tu:Int) (i:Nat):Str:=if way=0 then nm0 tu i else if way=1 then nm1 tu i else nm2 tu i
noncomputable def NamesAre (m:Nat) (ws:List Str):Prop:= ∃ (way tu:Nat) (back:Bool),way<3/\tu<26/\ws=(if back=true then ((List.range m).map (jQ way tu)).reverse else (List.range m).map (jQ way tu))
inductive gG  (vs:List V) (H:Hp) (Q:VK) (E_:XK):Prop
 | mk: ∀ tp m,(vs=[.ref tp,.int m])->(Tp H tp)->(0<=m)->(m<=13)->(∀ l (ws:List Str) H',H' l=some (.lst (ws.map V.str))->(ws.length:Int)=m->NamesAre m.toNat ws->l≠tp->Kp tp H H'->Tp H' tp->Q (.ref l) H')->gG vs H Q E_
theorem lP {d:Int} (h0:0<=d) (h1:d<26):atI letters.cps.toList d=some (nh d):=by
 obtain ⟨c,e,_⟩:=qX h0 h1
 unfold nh
 rw [e]
 rfl
theorem se (tu:Int):(eD tu).length=8:=by unfold eD;rw [bx,aneq.1];rfl
theorem scNamesX:aI ["tape","many","letters","way","turn","back","stem","names","words"] ["tape","many"] (aj fq):=fsc
theorem qL (F:Fun K "_law_names" "_law_names" fq f fd) (G:Gb mg) (GD:FnOk P w K mg base CX0 1 g gd ["tape","many"] cc) (bD:Binds K gd ["tape","many"] []) (kD:PySem.W.keepIn K (.ref g)=true) (mD:mg "_law_digit"=some (.ref g)):
  FnOk P w K mg base CX0 2 f fd ["tape","many"] gG:=by
 refine F.ok scNamesX (fun vs H Q E h=>?_) (fun cdv A outer s H vs Q E hr h=>?_)
 ·obtain ⟨tp,m,rfl,_⟩:=h
  rfl
 obtain ⟨tp,m,rfl,hT,hm0,hm1,q⟩:=h
 obtain ⟨t,ht,hread⟩: ∃ t,PSs (cY CX0 P w K mg base ["tape","many","letters","way","turn","back","stem","names","words"] "_law_names" (aj fq) f cdv A outer s H E).nox ((cz fq).drop 5) t/\
   ∀ (b:Int) (l:Addr) (way tu:Nat) (H2:Hp) (o2 o3 o4 o6 o8:Option V),(b=1\/b= -1)->way<3->tu<26->H2 l=some (.lst (((List.range m.toNat).map (jQ way tu)).map V.str))->Kp tp H H2->Tp H2 tp->
    t {nx:=fun _ H'=>Q .non H',rt:=Q} [some (.ref tp),some (.int m),o2,o3,o4,some (.int b),o6,some (.ref l),o8] H2:=by
  refine ⟨_,ak (aF (pI (pv 7) (pv 5))),fun b l way tu H2 o2 o3 o4 o6 o8 hb hw1 hw2 hl k2 t2=>?_⟩
  have hlen:(((List.range m.toNat).map (jQ way tu)).length:Int)=m:=by rw [List.length_map,List.length_range];lia
  refine ⟨_,rfl,_,rfl,l,_,b,rfl,rfl,SqL.of hl,by lia,fun p hp=>?_⟩
  have hpt:p≠tp:=fun e=>by
   obtain ⟨t0,e0⟩:=t2
   subst e
   rw [e0]at hp
   cases hp
  rcases hb with rfl | rfl
  ·rw [qr]
   exact q p _ _ ac hlen ⟨way,tu,false,hw1,hw2,rfl⟩ hpt (k2.new hp) (t2.new hp)
  ·rw [jY,<- List.map_reverse]
   exact q p _ _ ac (by rw [List.length_reverse];exact hlen) ⟨way,tu,true,hw1,hw2,rfl⟩ hpt (k2.new hp) (t2.new hp)
 have cw: ∀ {te:TE} {fr:List Nat} {σ:St} {H2:Hp} {Q2:VK} (g:Nat->Str),(∀ (i:Nat) (H3:Hp) (k:VK),(i:Int) <m->k (.str (g i)) H3->te (some (.int (0+i))::cf fr σ) H3 k)->
   (∀ p,H2 p=none->Q2 (.ref p) (upd H2 p (.lst (((List.range m.toNat).map g).map V.str))))->dN fr te σ (Itr 0 m.toNat) H2 Q2:=by
  intro te fr σ H2 Q2 g hs hd
  refine fM (n:=m.toNat) (R:=fun i v=>v=.int (0+i)) (by lia) jv fC iS
   (fun p i zs H'=>H'=upd H2 p (.lst zs)/\zs=((List.range i).map g).map V.str) (fun p hp=>⟨rfl,rfl⟩) ?_ ?_ ?_
  ·rintro p i zs H' ⟨rfl,rfl⟩
   exact ⟨ac,by rw [List.length_map,List.length_map,List.length_range]⟩
  ·rintro p i zs H' v k hp hi rfl ⟨rfl,rfl⟩ hk
   exact hs i _ k (by lia) (hk (.str (g i)) _ ac ⟨cM,by rw [List.range_succ];simp⟩)
  ·rintro p zs H' hp ⟨rfl,rfl⟩
   exact hd p hp
 refine ⟨_,af (aq (i:=2) scNamesX.nd rfl (Or.inr rfl) aN)
  (af (aq (i:=3) scNamesX.nd rfl (Or.inl rfl) (am GD hr rfl mD kD bD .nil aD (aa (pv 0) (aa ae ad))))
  (af (aq (i:=4) scNamesX.nd rfl (Or.inr rfl) (am GD hr rfl mD kD bD .nil aD (aa (pv 0) (aa ae ad))))
  (af (aq (i:=5) scNamesX.nd rfl (Or.inl rfl) (ar dz ae (ar db ae (am GD hr rfl mD kD bD .nil aD (aa (pv 0) (aa ae ad))))))
  (af (a7 (aA bV (pv 3) ae (aE _))
   (af (aq (i:=6) scNamesX.nd rfl (Or.inr rfl) (ar aJ (au ju (pv 2) (pv 4) (fun _ _=>rfl)) (aP cq aN a9 (aQ ae))))
   (ak (eI (i:=7) (sc0:=aj fq) (N0:=["tape","many","letters","way","turn","back","stem","names","words"]) (ys:=["letters","stem","turn"]) (fr:=[2,6,4]) rfl scNamesX.nd rfl (Or.inl rfl) (bp rfl G.range (aa (pv 1) ad)) rfl rfl
    cok
    (fun C s H ex=>ji (aA gX (pv 0) ae (aE _)) (aP cq (pv 2) a9 (aQ (ar aU (pv 0) ae)))
     (ar aJ (au ju (pv 1) (ar cv (ar aU (pv 3) ae) ae) (fun _ _=>rfl)) (aP cq (pv 2) a9 (aQ (ar dz (pv 0) ae))))))))
   (ak (a7 (aA bV (pv 3) ae (aE _))
    (@af _ _ _ _ _ (@uW _ 8 _ _ (names13.map V.str) _ _ _ scNamesX.nd rfl (Or.inr rfl) (Or.inl rfl) rfl)
    (ak (eI (i:=7) (sc0:=aj fq) (N0:=["tape","many","letters","way","turn","back","stem","names","words"]) (ys:=["turn","words"]) (fr:=[4,8]) rfl scNamesX.nd rfl (Or.inl rfl) (bp rfl G.range (aa (pv 1) ad)) rfl rfl
     cok
     (fun C s H ex=>au (r:=cD K) aW (pv 2) (ar cv (ar aU (pv 1) (pv 0)) ae) (fun _ _=>rfl)))))
    (ak (eI (i:=7) (sc0:=aj fq) (N0:=["tape","many","letters","way","turn","back","stem","names","words"]) (ys:=["letters","turn"]) (fr:=[2,4]) rfl scNamesX.nd rfl (Or.inl rfl) (bp rfl G.range (aa (pv 1) ad)) rfl rfl
     cok
     (fun C s H ex=>ar aJ (au ju (pv 1) (ar cv (ar aU (pv 2) (pv 0)) ae) (fun _ _=>rfl)) (aP cq aN a9 (aQ (ar cv (ar aU (pv 2) (ar db ae (pv 0))) ae)))))))))
  ht)))),?_⟩
 refine ⟨_,rfl,tp,3,rfl,hT,by decide,by decide,fun wy t1 hw0 hw1=>?_⟩
 refine ⟨_,rfl,tp,26,rfl,⟨t1,ac⟩,by decide,by decide,fun tu t2 htu0 htu1=>?_⟩
 rw [cM]
 refine ⟨_,rfl,tp,2,rfl,⟨t2,ac⟩,by decide,by decide,fun bk t3 hb0 hb1=>?_⟩
 rw [cM]
 refine ⟨2,_,rfl,rfl,.inl ⟨by decide,by decide⟩,1,_,rfl,rfl,?_⟩
 have hb:(1-2*bk=1\/1-2*bk= -1):=by lia
 have k3:Kp tp H (upd H tp (.lst [.int t3])):=Kp.tape
 have tt3:Tp (upd H tp (.lst [.int t3])) tp:=⟨t3,ac⟩
 generalize upd H tp (.lst [.int t3])=H3 at k3 tt3 ⊢
 have l26:(letters.length:Int)=26:=by rw [iI];rfl
 have lsz:letters.length<=sizeLine:=by rw [iI];exact Nat.le_of_lt (av (by decide))
 refine ⟨_,rfl,rfl,_,rfl,?_⟩
 refine bE (fun c=>?_) (fun c=>?_)
 ·-- stems
  have hwy:wy=0:=V.int.inj (of_decide_eq_true c)
  have ec0:=lP htu0 htu1
  refine ⟨_,rfl,_,rfl,letters,tu,nh tu,rfl,rfl,lsz,ec0,7,rfl,"aneqoubi",rfl,(by decide +kernel),_,_,rfl,rfl,?_,?_⟩
  ·rw [aneq.1]
   show 1+7<=sizeLine
   exact Nat.le_of_lt (av (by decide))
  have zl:=se tu
  have zsz:(eD tu).length<=sizeLine:=by rw [zl];exact Nat.le_of_lt (av (by decide))
  refine ⟨_,rfl,m,rfl,by lia,by lia,?_⟩
  refine cw (nm0 tu) ?_ ?_
  ·intro i H4 k hi hk
   refine ⟨_,rfl,_,_,rfl,rfl,_,rfl,?_⟩
   refine bE (fun ci=>?_) (fun ci=>?_)
   ·have ci':(0+ (i:Int)) <8:=of_decide_eq_true ci
    refine ⟨_,rfl,_,rfl,_,_,rfl,rfl,_,rfl,eD tu,rfl,zsz,?_⟩
    unfold nm0 at hk
    rw [if_pos ci']at hk
    exact hk
   ·have ci': ¬ (0+ (i:Int)) <8:=fun y=>ci (decide_eq_true y)
    have ec1:=lP (d:=(tu+1) %26) (Int.emod_nonneg _ (by decide)) (Int.emod_lt_of_pos _ (by decide))
    have e:=jZ (eD tu) (j:=0+ (i:Int) -8) (by lia) (by rw [zl];lia)
    unfold nm0 at hk
    rw [if_neg ci']at hk
    refine ⟨_,rfl,_,rfl,_,_,rfl,rfl,_,_,rfl,rfl,(by show (0:Int) <26;decide),letters,_,nh ((tu+1) %26),rfl,rfl,lsz,ec1,_,rfl,_,rfl,_,_,rfl,rfl,_,rfl,eD tu,rfl,zsz,_,_,rfl,rfl,?_,hk⟩
    show 1+ (Txt.slice (eD tu) none (some (0+ (i:Int) -8))).length<=sizeLine
    exact Nat.le_of_lt (av (by lia))
  ·intro p hp
   have etu:((tu.toNat:Nat):Int)=tu:=by lia
   refine hread (1-2*bk) p 0 tu.toNat _ _ _ _ _ _ hb (by decide) (by lia) ?_ (k3.new hp) (tt3.new hp)
   rw [etu]
   exact ac
 ·refine ⟨_,rfl,rfl,_,rfl,?_⟩
  refine bE (fun c2=>?_) (fun c2=>?_)
  ·-- written words
   refine ⟨(by show 13<=sizeLine;decide),fun pw hpw=>?_⟩
   refine ⟨_,rfl,m,rfl,by lia,by lia,?_⟩
   have s4:Same H3 (upd H3 pw (.lst (names13.map V.str))):=ag hpw _
   have g4:(upd H3 pw (.lst (names13.map V.str))) pw=some (.lst (names13.map V.str)):=ac
   have k4:Kp tp H (upd H3 pw (.lst (names13.map V.str))):=k3.same s4
   have tt4:Tp (upd H3 pw (.lst (names13.map V.str))) tp:=tt3.new hpw
   generalize upd H3 pw (.lst (names13.map V.str))=H4 at s4 g4 k4 tt4 ⊢
   refine fM (n:=m.toNat) (R:=fun i v=>v=.int (0+i)) (by lia) jv fC iS
    (fun p i zs H'=>H'=upd H4 p (.lst zs)/\H4 p=none/\zs=((List.range i).map (nm1 tu)).map V.str) (fun p hp=>⟨rfl,hp,rfl⟩) ?_ ?_ ?_
   ·rintro p i zs H' ⟨rfl,_,rfl⟩
    exact ⟨ac,by rw [List.length_map,List.length_map,List.length_range]⟩
   ·rintro p i zs H' v k hp hi rfl ⟨rfl,hp4,rfl⟩ hk
    have h1:=Int.emod_nonneg (tu+ (0+ (i:Int))) (show (13:Int)≠0 by decide)
    have h2:=Int.emod_lt_of_pos (tu+ (0+ (i:Int))) (show (0:Int) <13 by decide)
    obtain ⟨xv,ex,ex2⟩:=eQ (xs:=names13.map V.str) h1 (by rw [List.length_map];exact h2)
    have exv:xv=.str (nm1 tu i):=by
     rw [List.getElem?_map]at ex2
     unfold nm1
     cases hx:names13[((tu+ (0+ (i:Int))) %13).toNat]? with
     | none=>rw [hx]at ex2;cases ex2
     | some y=>rw [hx]at ex2;exact (Option.some.inj ex2).symm
    subst exv
    have g5:(upd H4 p (.lst (((List.range i).map (nm1 tu)).map V.str))) pw=some (.lst (names13.map V.str)):=by rw [al (ah g4 hp4)];exact g4
    refine ⟨_,rfl,_,rfl,_,rfl,_,_,rfl,rfl,_,_,rfl,rfl,(by show (0:Int) <13;decide),pw,_,_,_,rfl,rfl,SqL.of g5,ex,?_⟩
    exact hk _ _ ac ⟨cM,hp4,by rw [List.range_succ];simp⟩
   ·rintro p zs H' hp ⟨rfl,hp4,rfl⟩
    have etu:((tu.toNat:Nat):Int)=tu:=by lia
    refine hread (1-2*bk) p 1 tu.toNat _ _ _ _ _ _ hb (by decide) (by lia) ?_ (k4.new hp4) (tt4.new hp4)
    rw [etu]
    exact ac
  ·-- a letter and a tail
   refine ⟨_,rfl,m,rfl,by lia,by lia,?_⟩
   refine cw (nm2 tu) ?_ ?_
   ·intro i H4 k hi hk
    have ec1:=lP (d:=(tu+ (0+ (i:Int))) %26) (Int.emod_nonneg _ (by decide)) (Int.emod_lt_of_pos _ (by decide))
    have h1:=Int.emod_nonneg (tu+3* (0+ (i:Int))) (show (8:Int)≠0 by decide)
    have h2:=Int.emod_lt_of_pos (tu+3* (0+ (i:Int))) (show (0:Int) <8 by decide)
    have e:=jZ "eyzmopq" (j:=(tu+3* (0+ (i:Int))) %8) h1 (by rw [pX];lia)
    refine ⟨_,rfl,_,rfl,_,rfl,_,_,rfl,rfl,_,_,rfl,rfl,(by show (0:Int) <26;decide),letters,_,nh ((tu+ (0+ (i:Int))) %26),rfl,rfl,lsz,ec1,_,rfl,_,rfl,3,_,rfl,rfl,.inl ⟨by decide,by decide⟩,_,_,rfl,rfl,_,_,rfl,rfl,(by show (0:Int) <8;decide),_,rfl,"eyzmopq",rfl,(by rw [pX];exact Nat.le_of_lt (av (by decide))),_,_,rfl,rfl,?_,hk⟩
    ·show 1+ (Txt.slice "eyzmopq" none (some ((tu+3* (0+ (i:Int))) %8))).length<=sizeLine
     exact Nat.le_of_lt (av (by lia))
   ·intro p hp
    have etu:((tu.toNat:Nat):Int)=tu:=by lia
    refine hread (1-2*bk) p 2 tu.toNat _ _ _ _ _ _ hb (by decide) (by lia) ?_ (k3.new hp) (tt3.new hp)
    rw [etu]
    exact ac
noncomputable def ndB:List Str->Bool
 | []=>true
 | x::r=> !(r.any fun y=>x.cps.toList==y.cps.toList)&&ndB r
theorem tR: ∀ {l:List Str},ndB l=true->l.Nodup
 | [],_=>List.nodup_nil
 | x::r,h=>by
  unfold ndB at h
  rw [Bool.and_eq_true]at h
  refine List.nodup_cons.mpr ⟨fun m=>?_,tR h.2⟩
  have h1:=h.1
  rw [Bool.not_eq_true',List.any_eq_false]at h1
  exact h1 x m (by simp)
theorem qV:((List.range 3).all fun way=>(List.range 26).all fun tu=>ndB ((List.range 13).map (jQ way tu))&&((List.range 13).map (jQ way tu)).all bj)=true:=by
 decide +kernel
theorem NamesAre.ok {m:Nat} {ws:List Str} (h:NamesAre m ws) (hm:m<=13):ws.length=m/\ws.Nodup/\ ∀ x∈ws,bj x=true:=by
 obtain ⟨way,tu,back,h1,h2,e⟩:=h
 have a:=qV
 rw [List.all_eq_true]at a
 have a:=a way (List.mem_range.mpr h1)
 rw [List.all_eq_true]at a
 have a:=a tu (List.mem_range.mpr h2)
 rw [Bool.and_eq_true]at a
 have n13:=tR a.1
 have w13:=List.all_eq_true.mp a.2
 have sub:((List.range m).map (jQ way tu)).Sublist ((List.range 13).map (jQ way tu)):=List.Sublist.map _ (List.range_sublist.mpr hm)
 have nd:=n13.sublist sub
 have wd: ∀ x∈(List.range m).map (jQ way tu),bj x=true:=fun x hx=>w13 x (sub.subset hx)
 have ln:((List.range m).map (jQ way tu)).length=m:=by rw [List.length_map,List.length_range]
 cases back with
 | false=>
  rw [if_neg (by decide)]at e
  subst e
  exact ⟨ln,nd,wd⟩
 | true=>
  rw [if_pos rfl]at e
  subst e
  exact ⟨by rw [List.length_reverse];exact ln,(List.reverse_perm _).nodup_iff.mpr nd,fun x hx=>wd x (List.mem_reverse.mp hx)⟩
structure Srt where
 name:Str
 downs:List Str
 ups:List Str
inductive RepS (H:Hp) (s:Srt) (v:V):Prop
 | mk: ∀ a b c,(v=.ref a)->(H a=some (.tup [.str s.name,.ref b,.ref c]))->(H b=some (.tup (s.downs.map V.str)))->(H c=some (.tup (s.ups.map V.str)))->RepS H s v
theorem RepS.mono {H H':Hp} (t:TK H H') {s:Srt} {v:V}:RepS H s v->RepS H' s v:=fun ⟨a,b,c,e,h1,h2,h3⟩=>⟨a,b,c,e,t _ _ h1,t _ _ h2,t _ _ h3⟩
noncomputable def Srt.ok (s:Srt):Prop:=(s.downs++s.ups).Nodup/\(∀ x∈s.downs++s.ups,bj x=true)/\s.downs.length<=3/\s.ups.length<=3/\1<=s.downs.length+s.ups.length
noncomputable def RepSs (H:Hp) (ss:List Srt) (vs:List V):Prop:=Paired (RepS H) ss vs
theorem RepSs.mono {H H':Hp} (t:TK H H') {ss:List Srt} {vs:List V} (h:RepSs H ss vs):RepSs H' ss vs:=Paired.mapP h fun _ _ r=>r.mono t
theorem RepSs.len {H:Hp} {ss:List Srt} {vs:List V} (h:RepSs H ss vs):ss.length=vs.length:=Paired.length h
theorem aX {α β:Type} {F:α->β->Prop}: ∀ {l:List α} {r:List β} {i:Nat} {b:β},Paired F l r->r[i]? =some b-> ∃ a,l[i]? =some a/\F a b
 | _,_,i,b,.nil,e=>by cases i <;> cases e
 | _,_,0,b,.cons h _,e=>⟨_,rfl,by cases e;exact h⟩
 | _,_,i+1,b,.cons _ t,e=>aX (i:=i) t e
noncomputable def dM (ss:List Srt):Prop:=1<=ss.length/\ss.length<=4/\(ss.map Srt.name).Nodup/\(∀ s∈ss,bj s.name=true)/\ ∀ s∈ss,s.ok
theorem ql {ws:List Str} (n:ws.Nodup) (w: ∀ x∈ws,bj x=true) (hl:ws.length=6) (k d u:Nat) (hd:d<=3) (hu:u<=3) (h1:1<=d+u) (nm:Str):
  (Srt.mk nm ((ws.drop k++ws.take k).take d) (((ws.drop k++ws.take k).drop d).take u)).ok:=by
 have nt:(ws.drop k++ws.take k).Nodup:=by
  have:(ws.drop k++ws.take k).Perm (ws.take k++ws.drop k):=List.perm_append_comm
  rw [List.take_append_drop]at this
  exact this.nodup_iff.mpr n
 have mt: ∀ x∈ws.drop k++ws.take k,bj x=true:=fun x hx=>by
  rw [List.mem_append]at hx
  rcases hx with h | h
  ·exact w x (List.mem_of_mem_drop h)
  ·exact w x (List.mem_of_mem_take h)
 have lt:(ws.drop k++ws.take k).length=6:=by rw [List.length_append,List.length_drop,List.length_take];lia
 generalize ws.drop k++ws.take k=ts at nt mt lt
 have sub:(ts.take d++(ts.drop d).take u).Sublist ts:=by
  have:=List.take_append_drop d ts
  conv=>rhs;rw [<- this]
  exact List.Sublist.append (List.Sublist.refl _) (List.take_sublist _ _)
 refine ⟨nt.sublist sub,fun x hx=>mt x (sub.subset hx),?_,?_,?_⟩
 ·show (ts.take d).length<=3
  rw [List.length_take];lia
 ·show ((ts.drop d).take u).length<=3
  rw [List.length_take];lia
 ·show 1<=(ts.take d).length+ ((ts.drop d).take u).length
  rw [List.length_take,List.length_take,List.length_drop];lia
inductive kZ  (vs:List V) (H:Hp) (Q:VK) (E_:XK):Prop
 | mk: ∀ tp c,(vs=[.ref tp,.bl c])->(Tp H tp)->(∀ a ss xs H',H' a=some (.tup xs)->RepSs H' ss xs->dM ss->Kp tp H H'->Tp H' tp->Q (.ref a) H')->kZ vs H Q E_
theorem xM (k:Bool): ∃ m:Int,atI [V.int 3,V.int 4] (if k then 1 else 0)=some (.int m)/\3<=m/\m<=4:=by
 cases k
 ·exact ⟨3,rfl,by decide,by decide⟩
 ·exact ⟨4,rfl,by decide,by decide⟩
theorem tU {d u:Int} (hd:0<=d) (hu:0<=u) (hu3:u<=3): ∃ u1:Int,(if (if decide (V.int d=V.int 0)=true then (1:Int)else 0) >u then (if decide (V.int d=V.int 0)=true then (1:Int)else 0)else u)=u1/\0<=u1/\u1<=3/\1<=d+u1:=by
 refine ⟨_,rfl,?_⟩
 by_cases c:d=0
 ·subst c
  rw [if_pos (decide_eq_true rfl)]
  split <;> lia
 ·rw [if_neg (fun e=>c (V.int.inj (of_decide_eq_true e)))]
  split <;> lia
theorem dl {H:Hp} {tp p:Addr} (t:Tp H tp) (hp:H p=none):p≠tp:=fun e=>by
 obtain ⟨t0,e0⟩:=t
 subst e
 rw [e0]at hp
 cases hp
theorem vA (xs:List V) {a b:Nat} (h:a+b<=xs.length):gn xs (some (a:Int)) (some ((a:Int) + (b:Int)))=(xs.drop a).take b:=by
 unfold gn
 rw [show ((a:Int) + (b:Int))=((a+b:Nat):Int) by lia,HT.sIx_nat,HT.sIx_nat,Nat.min_eq_left h,Nat.min_eq_left (by lia),Nat.add_sub_cancel_left]
theorem scSorts:aI ["tape","few","many","names","words","sorts","k","most","downs","ups","turned"] ["tape","few"] (aj oa):=fsc
theorem tE (F:Fun K "_law_sorts" "_law_sorts" oa f fd) (G:Gb mg) (GD:FnOk P w K mg base CX0 1 g gd ["tape","many"] cc) (bD:Binds K gd ["tape","many"] []) (kD:PySem.W.keepIn K (.ref g)=true) (mD:mg "_law_digit"=some (.ref g))
  (GN:FnOk P w K mg base CX0 2 f2 fd2 ["tape","many"] gG) (bN:Binds K fd2 ["tape","many"] []) (kN:PySem.W.keepIn K (.ref f2)=true) (mN:mg "_law_names"=some (.ref f2)):
  FnOk P w K mg base CX0 3 f fd ["tape","few"] kZ:=by
 refine F.ok scSorts (fun vs H Q E h=>?_) (fun cdv A outer s H vs Q E hr h=>?_)
 ·obtain ⟨tp,c,rfl,_⟩:=h
  rfl
 obtain ⟨tp,few,rfl,hT,q⟩:=h
 have hr1:=hr.mono (show 1<=2 by decide)
 refine ⟨_,af (aq (i:=2) scSorts.nd rfl (Or.inl rfl) (ar aU ae (am GD hr1 rfl mD kD bD .nil aD (aa (pv 0) (aa
    (au (r:=cD K) aW (bh (aa ae (aa ae ad))) (bq eh rfl G.int (by decide +kernel) (aa (cG bV (am GD hr1 rfl mD kD bD .nil aD (aa (pv 0) (aa ae ad))) ae (aE _)) ad)) (fun _ _=>rfl)) ad)))))
  (af (aq (i:=3) scSorts.nd rfl (Or.inl rfl) (am GN hr rfl mN kN bN .nil aD (aa (pv 0) (aa (pv 2) ad))))
  (af (aq (i:=4) scSorts.nd rfl (Or.inl rfl) (am GN hr rfl mN kN bN .nil aD (aa (pv 0) (aa ae ad))))
  (af (aq (i:=5) scSorts.nd rfl (Or.inl rfl) (bh ad))
  (af (cr PassesOwn.never rfl (bp rfl G.range (aa (pv 2) ad)) (aS (i:=6) scSorts.nd rfl (Or.inl rfl))
   (af (aq (i:=7) scSorts.nd rfl (Or.inl rfl) (au (r:=cD K) aW (bh (aa ae (aa ae ad))) (bq eh rfl G.int (by decide +kernel) (aa (cG bV (am GD hr1 rfl mD kD bD .nil aD (aa (pv 0) (aa ae ad))) ae (aE _)) ad)) (fun _ _=>rfl)))
   (af (aq (i:=8) scSorts.nd rfl (Or.inl rfl) (am GD hr1 rfl mD kD bD .nil aD (aa (pv 0) (aa (pv 7) ad))))
   (af (aq (i:=9) scSorts.nd rfl (Or.inl rfl) (ao (iA rfl) rfl G.max (by decide +kernel) (aa (am GD hr1 rfl mD kD bD .nil aD (aa (pv 0) (aa (pv 7) ad)))
    (aa (bq eh rfl G.int (by decide +kernel) (aa (cG bV (pv 8) ae (aE _)) ad)) ad))))
   (af (a7 (PW.pt (ge (dQ (pv 1)) (eG (aA kd (ar db (pv 8) (pv 9)) ae (aE _))))) (ak (aq (i:=9) scSorts.nd rfl (Or.inl rfl) (ar gY ae (pv 8)))) aH)
   (af (aq (i:=10) scSorts.nd rfl (Or.inl rfl) (ar jn (aP df (pv 4) (aQ (ar cv (pv 6) ae)) a9) (aP df (pv 4) a9 (aQ (ar cv (pv 6) ae)))))
   (ak (cx (dw PySem.F.plainAttrs_list PySem.F.slot_list_append PySem.F.type_list_append bK (pv 5) (aa (aZ (aa (au (r:=cD K) aW (pv 3) (pv 6) (fun _ _=>rfl))
    (aa (bq (r:=dv K) bn rfl G.tuple (by decide +kernel) (aa (aP df (pv 10) a9 (aQ (pv 8))) ad))
    (aa (bq (r:=dv K) bn rfl G.tuple (by decide +kernel) (aa (aP df (pv 10) (aQ (pv 8)) (aQ (ar aU (pv 8) (pv 9)))) ad)) ad)))) ad))))))))))
  (ak (aF (bq (r:=dv K) bn rfl G.tuple (by decide +kernel) (aa (pv 5) ad)))))))),?_⟩
 refine ⟨_,rfl,(by show 2<=sizeLine;decide),fun p0 hp0=>?_⟩
 refine ⟨_,rfl,tp,8,rfl,hT.new hp0,by decide,by decide,fun d0 t0 _ _=>⟨rfl,?_⟩⟩
 obtain ⟨m0,em0,hm3,hm4⟩:=xM (decide (V.int d0=V.int 5))
 refine .inr ⟨_,rfl,p0,_,_,_,rfl,rfl,SqL.of (by rw [al (dl hT hp0)];exact ac),em0,?_⟩
 have k0:Kp tp H (upd (upd H p0 (.lst [.int 3,.int 4])) tp (.lst [.int t0])):=(Kp.refl.new hp0).trans Kp.tape
 have tt0:Tp (upd (upd H p0 (.lst [.int 3,.int 4])) tp (.lst [.int t0])) tp:=⟨t0,ac⟩
 generalize upd (upd H p0 (.lst [.int 3,.int 4])) tp (.lst [.int t0])=H1 at k0 tt0 ⊢
 refine ⟨tp,_,rfl,tt0,by lia,by lia,fun dm t1 hdm0 hdm1=>?_⟩
 have k1:Kp tp H (upd H1 tp (.lst [.int t1])):=k0.trans Kp.tape
 have tt1:Tp (upd H1 tp (.lst [.int t1])) tp:=⟨t1,ac⟩
 generalize upd H1 tp (.lst [.int t1])=H2 at k1 tt1 ⊢
 refine ⟨1,_,rfl,rfl,?_⟩
 refine ⟨_,rfl,_,rfl,tp,_,rfl,tt1,by lia,by lia,fun nl ns H3 hnl hnlen hN hnne k2' tt2=>?_⟩
 have k2:=k1.trans k2'
 refine ⟨_,rfl,tp,6,rfl,tt2,by decide,by decide,fun wl ws H4 hwl hwlen hW hwne k3' tt3=>?_⟩
 have k3:=k2.trans k3'
 have hnl4:=k3' _ _ hnl hnne
 refine ⟨(by show 0<=sizeLine;decide),fun sl hsl=>?_⟩
 have hslt:=dl tt3 hsl
 have k4:Kp tp H (upd H4 sl (.lst [])):=k3.new hsl
 have tt4:=tt3.new (o:=.lst []) hsl
 have s4:=ag hsl (.lst [])
 have nsl:nl≠sl:=ah hnl4 hsl
 have wsl:wl≠sl:=ah hwl hsl
 have hnl5:=s4 _ _ hnl4
 have hwl5:=s4 _ _ hwl
 have hsl5:(upd H4 sl (.lst [])) sl=some (.lst []):=ac
 generalize upd H4 sl (.lst [])=H5 at k4 tt4 hnl5 hwl5 hsl5 ⊢
 obtain ⟨nLen,nNd,nWd⟩:=hN.ok (by lia)
 obtain ⟨wLen,wNd,wWd⟩:=hW.ok (by decide)
 have wLen6:ws.length=6:=wLen
 refine ⟨_,rfl,1+dm,rfl,by lia,by lia,?_⟩
 refine cL (fun i σ H'=> ∃ o6 o7 o8 o9 o10 zs ss,σ=[some (.ref tp),some (.bl few),some (.int (1+dm)),some (.ref nl),some (.ref wl),some (.ref sl),o6,o7,o8,o9,o10]/\Kp tp H H'/\Tp H' tp/\H' nl=some (.lst (ns.map V.str))/\H' wl=some (.lst (ws.map V.str))/\H' sl=some (.lst zs)/\RepSs H' ss zs/\ss.length=i/\(∀ s∈ss,s.ok)/\ss.map Srt.name=ns.take i)
  ⟨none,none,none,none,none,[],[],rfl,k4,tt4,hnl5,hwl5,hsl5,.nil,rfl,fun s h=>(by cases h),rfl⟩ ?_ ?_
 ·rintro i σ H6 hi ⟨o6,o7,o8,o9,o10,zs,ss,rfl,k6,tt6,hnl6,hwl6,hsl6,hR,hssl,hok,hnm⟩
  refine ⟨(by show 2<=sizeLine;decide),fun p0 hp0=>?_⟩
  refine ⟨_,rfl,tp,8,rfl,tt6.new hp0,by decide,by decide,fun d0 t0 _ _=>⟨rfl,?_⟩⟩
  obtain ⟨m1,em1,hm3,hm4⟩:=xM (decide (V.int d0=V.int 5))
  refine .inr ⟨_,rfl,p0,_,_,_,rfl,rfl,SqL.of (by rw [al (dl tt6 hp0)];exact ac),em1,?_⟩
  have k7:Kp tp H6 (upd (upd H6 p0 (.lst [.int 3,.int 4])) tp (.lst [.int t0])):=(Kp.refl.new hp0).trans Kp.tape
  have tt7:Tp (upd (upd H6 p0 (.lst [.int 3,.int 4])) tp (.lst [.int t0])) tp:=⟨t0,ac⟩
  generalize upd (upd H6 p0 (.lst [.int 3,.int 4])) tp (.lst [.int t0])=H7 at k7 tt7 ⊢
  refine ⟨_,rfl,_,rfl,tp,_,rfl,tt7,by lia,by lia,fun d t2 hd0 hd1=>?_⟩
  have k8:Kp tp H6 (upd H7 tp (.lst [.int t2])):=k7.trans Kp.tape
  have tt8:Tp (upd H7 tp (.lst [.int t2])) tp:=⟨t2,ac⟩
  generalize upd H7 tp (.lst [.int t2])=H8 at k8 tt8 ⊢
  refine ⟨_,rfl,_,rfl,tp,_,rfl,tt8,by lia,by lia,fun u t3 hu0 hu1=>?_⟩
  have k9:Kp tp H6 (upd H8 tp (.lst [.int t3])):=k8.trans Kp.tape
  have tt9:Tp (upd H8 tp (.lst [.int t3])) tp:=⟨t3,ac⟩
  generalize upd H8 tp (.lst [.int t3])=H9 at k9 tt9 ⊢
  obtain ⟨u1,eu1,hu10,hu13,hdu⟩:=tU (d:=d) (u:=u) hd0 hu0 (by lia)
  refine ⟨_,rfl,rfl,.inr ⟨_,rfl,_,_,rfl,?_⟩⟩
  rw [eu1]
  refine ⟨_,rfl,few,rfl,?_⟩
  refine xh (c2:=decide (3<d*u1)) (fun h=>⟨_,rfl,_,rfl,_,_,rfl,rfl,.inl ⟨by lia,by lia⟩,_,_,rfl,rfl,_,rfl,h⟩) (fun _ c=>?A) (fun _=>?B)
  case' A=>
   have c':3<d*u1:=of_decide_eq_true c
   have hdp:0<d:=by
    rcases (show d=0\/0<d by lia)with h | h
    ·subst h;lia
    ·exact h
   refine ⟨_,rfl,3,d,rfl,rfl,⟨hdp,by lia⟩,?_⟩
   obtain ⟨v,hv,ev⟩: ∃ v:Int,(0<=v/\v<=3/\1<=d+v)/\V.int (3/d)=V.int v:=by
    refine ⟨3/d,?_,rfl⟩
    rcases (show d=1\/d=2\/d=3 by lia)with h | h | h <;> subst h <;> decide
   rw [ev]
  case' B=>
   have hv:0<=u1/\u1<=3/\1<=d+u1:=⟨hu10,hu13,hdu⟩
   generalize u1=v at hv ⊢
  all_goals
   have hwl9:=k9 _ _ hwl6 hwne
   have hnl9:=k9 _ _ hnl6 hnne
   have hsl9:=k9 _ _ hsl6 hslt
   have hkk0:0<=(0+ (i:Int)) %6:=Int.emod_nonneg _ (by decide)
   have hkk1:(0+ (i:Int)) %6<6:=Int.emod_lt_of_pos _ (by decide)
   refine ⟨_,rfl,_,rfl,_,_,rfl,rfl,(by show (0:Int) <6;decide),_,rfl,wl,_,rfl,SqL.of hwl9,fun p1 hp1=>?_⟩
   rw [jB (ws.map V.str) hkk0 (by rw [List.length_map];lia)]
   have hn6:((0+ (i:Int)) %6).toNat<=6:=by lia
   have hct:gn (ws.map V.str) none (some ((0+ (i:Int)) %6))=(ws.map V.str).take ((0+ (i:Int)) %6).toNat:=fD (ws.map V.str) hkk0 (by rw [List.length_map];lia)
   generalize hn:((0+ (i:Int)) %6).toNat=n at hct hn6 ⊢
   have s1:=ag hp1 (.lst ((ws.map V.str).drop n))
   have g1:(upd H9 p1 (.lst ((ws.map V.str).drop n))) p1=some (.lst ((ws.map V.str).drop n)):=ac
   generalize upd H9 p1 (.lst ((ws.map V.str).drop n))=Ha at s1 g1 ⊢
   refine ⟨_,rfl,_,rfl,_,_,rfl,rfl,(by show (0:Int) <6;decide),_,rfl,wl,_,rfl,SqL.of (s1 _ _ hwl9),fun p2 hp2=>?_⟩
   rw [hct]
   have s2:=ag hp2 (.lst ((ws.map V.str).take n))
   have g2:(upd Ha p2 (.lst ((ws.map V.str).take n))) p2=some (.lst ((ws.map V.str).take n)):=ac
   generalize upd Ha p2 (.lst ((ws.map V.str).take n))=Hb at s2 g2 ⊢
   have lcat:((ws.map V.str).drop n).length+ ((ws.map V.str).take n).length<=12:=by rw [List.length_drop,List.length_take,List.length_map];lia
   refine ⟨p1,p2,_,_,rfl,rfl,s2 _ _ g1,g2,Nat.le_of_lt (av (by lia)),fun p3 hp3=>?_⟩
   have e3:(ws.map V.str).drop n++(ws.map V.str).take n=(ws.drop n++ws.take n).map V.str:=by rw [List.map_append,List.map_drop,List.map_take]
   rw [e3]
   have lts:(ws.drop n++ws.take n).length=6:=by rw [List.length_append,List.length_drop,List.length_take];lia
   have hsok:=fun nm=>ql wNd wWd wLen6 n d.toNat v.toNat (by lia) (by lia) (by lia) nm
   generalize ws.drop n++ws.take n=ts at lts hsok ⊢
   have s3:=ag hp3 (.lst (ts.map V.str))
   have g3:(upd Hb p3 (.lst (ts.map V.str))) p3=some (.lst (ts.map V.str)):=ac
   generalize upd Hb p3 (.lst (ts.map V.str))=Hc at s3 g3 ⊢
   have S9:Same H9 Hc:=s1.trans (s2.trans s3)
   have hslc:=S9 _ _ hsl9
   have hnlc:=S9 _ _ hnl9
   have hwlc:=S9 _ _ hwl9
   have kc:Kp tp H6 Hc:=k9.same S9
   have ttc:Tp Hc tp:=tt9.same S9
   refine ⟨_,rfl,.inl ⟨rfl,_,SqL.of hslc⟩,?_⟩
   obtain ⟨nm,enm⟩: ∃ nm,ns[i]? =some nm:=⟨ns[i]'(by lia),List.getElem?_eq_getElem (by lia)⟩
   have eat:atI (ns.map V.str) (0+ (i:Int))=some (V.str nm):=by
    rw [Int.zero_add]
    exact ay (by rw [List.getElem?_map,enm];rfl)
   refine ⟨_,rfl,_,rfl,nl,_,_,_,rfl,rfl,SqL.of hnlc,eat,?_⟩
   refine ⟨_,rfl,_,rfl,d,rfl,p3,_,rfl,SqL.of g3,fun p4 hp4=>?_⟩
   rw [fD (ts.map V.str) hd0 (by rw [List.length_map];lia),<- List.map_take]
   have s4:=ag hp4 (.lst ((ts.take d.toNat).map V.str))
   have g4:(upd Hc p4 (.lst ((ts.take d.toNat).map V.str))) p4=some (.lst ((ts.take d.toNat).map V.str)):=ac
   generalize upd Hc p4 (.lst ((ts.take d.toNat).map V.str))=Hd at s4 g4 ⊢
   refine ⟨p4,_,rfl,.inl ⟨SqL.of g4,fun p5 hp5=>?_⟩⟩
   have s5:=ag hp5 (.tup ((ts.take d.toNat).map V.str))
   have g5:(upd Hd p5 (.tup ((ts.take d.toNat).map V.str))) p5=some (.tup ((ts.take d.toNat).map V.str)):=ac
   generalize upd Hd p5 (.tup ((ts.take d.toNat).map V.str))=He at s5 g5 ⊢
   refine ⟨_,rfl,_,rfl,d,rfl,_,rfl,_,rfl,_,_,rfl,rfl,_,rfl,p3,_,rfl,SqL.of (s5 _ _ (s4 _ _ g3)),fun p6 hp6=>?_⟩
   have ecm:gn (ts.map V.str) (some d) (some (d+v))=((ts.drop d.toNat).take v.toNat).map V.str:=by
    have:=vA (ts.map V.str) (a:=d.toNat) (b:=v.toNat) (by rw [List.length_map];lia)
    rw [show ((d.toNat:Nat):Int)=d by lia,show ((v.toNat:Nat):Int)=v by lia]at this
    rw [this,List.map_take,List.map_drop]
   rw [ecm]
   have s6:=ag hp6 (.lst (((ts.drop d.toNat).take v.toNat).map V.str))
   have g6:(upd He p6 (.lst (((ts.drop d.toNat).take v.toNat).map V.str))) p6=some (.lst (((ts.drop d.toNat).take v.toNat).map V.str)):=ac
   generalize upd He p6 (.lst (((ts.drop d.toNat).take v.toNat).map V.str))=Hf at s6 g6 ⊢
   refine ⟨p6,_,rfl,.inl ⟨SqL.of g6,fun p7 hp7=>?_⟩⟩
   have s7:=ag hp7 (.tup (((ts.drop d.toNat).take v.toNat).map V.str))
   have g7:(upd Hf p7 (.tup (((ts.drop d.toNat).take v.toNat).map V.str))) p7=some (.tup (((ts.drop d.toNat).take v.toNat).map V.str)):=ac
   generalize upd Hf p7 (.tup (((ts.drop d.toNat).take v.toNat).map V.str))=Hg at s7 g7 ⊢
   refine ⟨(by show 3<=sizeLine;decide),fun p8 hp8=>?_⟩
   have s8:=ag hp8 (.tup [.str nm,.ref p5,.ref p7])
   have g8:(upd Hg p8 (.tup [.str nm,.ref p5,.ref p7])) p8=some (.tup [.str nm,.ref p5,.ref p7]):=ac
   generalize upd Hg p8 (.tup [.str nm,.ref p5,.ref p7])=Hh at s8 g8 ⊢
   have Sc:Same Hc Hh:=s4.trans (s5.trans (s6.trans (s7.trans s8)))
   have hslh:=Sc _ _ hslc
   have hzl:zs.length=i:=by rw [<- hR.len];exact hssl
   refine ⟨sl,zs,.ref p8,rfl,rfl,hslh,av (by lia),?_⟩
   have tk:TK Hh (upd Hh sl (.lst (zs++[.ref p8]))):=TK.lst hslh
   have kh:Kp tp H6 Hh:=kc.same Sc
   refine ⟨_,_,_,_,_,zs++[.ref p8],ss++[⟨nm,ts.take d.toNat,(ts.drop d.toNat).take v.toNat⟩],rfl,?_,?_,?_,?_,ac,?_,?_,?_,?_⟩
   ·intro b o hb hbn
    rw [al (ah (k3 _ _ hb hbn) hsl)]
    exact kh _ _ (k6 _ _ hb hbn) hbn
   ·obtain ⟨t9,e9⟩:=ttc.same Sc
    exact ⟨t9,by rw [al (Ne.symm hslt)];exact e9⟩
   ·rw [al nsl];exact Sc _ _ hnlc
   ·rw [al wsl];exact Sc _ _ hwlc
   ·exact Paired.snoc (hR.mono ((kh.tk tt6).trans tk)) ⟨p8,p5,p7,rfl,tk _ _ g8,tk _ _ (s8 _ _ (s7 _ _ (s6 _ _ g5))),tk _ _ (s8 _ _ g7)⟩
   ·rw [List.length_append,hssl];rfl
   ·intro s hs
    rw [List.mem_append,List.mem_singleton]at hs
    rcases hs with h | h
    ·exact hok s h
    ·subst h;exact hsok nm
   ·rw [List.map_append,hnm,List.map_singleton,List.take_add_one,enm]
    rfl
 ·rintro σ H6 ⟨o6,o7,o8,o9,o10,zs,ss,rfl,k6,tt6,hnl6,hwl6,hsl6,hR,hssl,hok,hnm⟩
  refine ⟨_,rfl,sl,zs,rfl,.inl ⟨SqL.of hsl6,fun pt hpt=>?_⟩⟩
  refine q pt ss zs _ ac (hR.mono (TK.new hpt)) ⟨by lia,by lia,?_,?_,hok⟩ (k6.new hpt) (tt6.new hpt)
  ·rw [hnm]
   exact nNd.sublist (List.take_sublist _ _)
  ·intro s hs
   refine nWd _ (List.mem_of_mem_take (i:=(1+dm).toNat) ?_)
   rw [<- hnm]
   exact List.mem_map_of_mem hs
noncomputable def uC (H:Hp) (ys:List V) (z:V):Prop:= ∃ a,z=.ref a/\H a=some (.tup ys)
noncomputable def Tups (H:Hp) (yss:List (List V)) (zs:List V):Prop:=Paired (uC H) yss zs
theorem Tups.mono {H H':Hp} (t:TK H H') {yss:List (List V)} {zs:List V} (h:Tups H yss zs):Tups H' yss zs:=Paired.mapP h fun _ _ ⟨a,e,g⟩=>⟨a,e,t _ _ g⟩
theorem Tups.len {H:Hp} {yss:List (List V)} {zs:List V} (h:Tups H yss zs):yss.length=zs.length:=Paired.length h
theorem Tups.append {H:Hp}: ∀ {a c:List (List V)} {b d:List V},Tups H a b->Tups H c d->Tups H (a++c) (b++d)
 | _,_,_,_,.nil,h=>h
 | _,_,_,_,.cons x t,h=>.cons x (Tups.append t h)
theorem aG {H H':Hp} (s:Same H H'):TK H H':=fun a xs h=>s _ _ h
theorem fN {K:PySem.W.Frag} {a:Addr} {xs:List V} {fr:List Nat} {te:TE} {σ:St} {H1:Hp} {Q:VK} (hn:xs.length<=1000) (ha:H1 a=some (.tup xs)) (g:V->List V)
  (hte: ∀ v H k,v∈xs->(∀ p,H p=none->k (.ref p) (upd H p (.tup (g v))))->te (some v::cf fr σ) H k)
  (hd: ∀ p zs H',H1 p=none->Same H1 H'->H' p=some (.lst zs)->Tups H' (xs.map g) zs->Q (.ref p) H'):dN fr te σ (Itt K a) H1 Q:=by
 intro p hp
 refine ⟨fun i m zs H=>i<=xs.length/\m=xs.length-i/\Same H1 H/\H p=some (.lst zs)/\zs.length=i/\Tups H ((xs.take i).map g) zs,⟨_,Nat.zero_le _,rfl,ag hp _,ac,rfl,.nil⟩,?_⟩
 rintro i m zs H ⟨hi,hm,sm,gp,hz,hT⟩
 refine ⟨gp,?_⟩
 by_cases e:i=xs.length
 ·subst e
  rw [List.take_length]at hT
  exact .inl ⟨⟨xs,SqT.of (sm _ _ ha),Nat.le_refl _⟩,hd p zs H hp sm gp hT⟩
 ·have hlt:i<xs.length:=by lia
  refine .inr ⟨⟨xs,xs[i],SqT.of (sm _ _ ha),List.getElem?_eq_getElem hlt⟩,av (by lia),fun v H' hv=>?_⟩
  obtain ⟨rfl,hv⟩:=hv
  have hv:=hv xs (SqT.of (sm _ _ ha))
  refine hte v _ _ (List.mem_of_getElem? hv) fun q hq=>?_
  have s2:=ag hq (.tup (g v))
  have gq:(upd H' q (.tup (g v))) q=some (.tup (g v)):=ac
  generalize upd H' q (.tup (g v))=H2 at s2 gq ⊢
  have gp2:=s2 _ _ gp
  have tk:TK H2 (upd H2 p (.lst (zs++[.ref q]))):=TK.lst gp2
  refine ⟨gp2,xs.length- (i+1),by lia,by lia,rfl,?_,ac,by rw [List.length_append,hz];rfl,?_⟩
  ·intro b o hb
   rw [al (ah hb hp)]
   exact s2 _ _ (sm _ _ hb)
  ·rw [List.take_add_one,hv,List.map_append]
   exact Paired.snoc (hT.mono ((aG s2).trans tk)) ⟨q,rfl,tk _ _ gq⟩
theorem iF {α β:Type} {F:α->β->Prop}: ∀ {l:List α} {r:List β},Paired F l r-> ∀ n,Paired F (l.take n) (r.take n)
 | _,_,.nil,n=>by rw [List.take_nil,List.take_nil];exact .nil
 | _,_,.cons h t,0=>.nil
 | _,_,.cons h t,n+1=>.cons h (iF t n)
noncomputable def cZ (k:Int):List Srt->List (Int×Str)
 | []=>[]
 | q::r=>q.downs.map (fun x=>(k,x))++cZ (k+1) r
noncomputable def fb (o:Srt) (qs:List Srt):List (Int×Str):=o.ups.map (fun x=>(-1,x))++cZ 0 qs
noncomputable def tgV (t:Int×Str):List V:=[.int t.1,.str t.2]
theorem iX (k:Int): ∀ (qs:List Srt),(∀ s∈qs,s.ok)->(cZ k qs).length<=3*qs.length:=by
 intro qs
 induction qs generalizing k with
 | nil=>intro _;exact Nat.le_refl _
 | cons q r ih=>
  intro h
  have h1:=ih (k+1) fun s hs=>h s (List.mem_cons_of_mem _ hs)
  have h2:=(h q List.mem_cons_self).2.2.1
  unfold cZ
  rw [List.length_append,List.length_map,List.length_cons]
  lia
theorem mh (k:Int): ∀ (qs:List Srt) (q:Srt),cZ k (qs++[q])=cZ k qs++q.downs.map (fun x=>(k+qs.length,x)):=by
 intro qs
 induction qs generalizing k with
 | nil=>intro q;show q.downs.map (fun x=>(k,x))++[]=_;rw [List.append_nil];show _=q.downs.map (fun x=>(k+ ((0:Nat):Int),x));rw [show k+ ((0:Nat):Int)=k by lia]
 | cons r rs ih=>
  intro q
  show r.downs.map _++cZ (k+1) (rs++[q])=(r.downs.map _++cZ (k+1) rs)++_
  rw [ih,List.append_assoc]
  have:k+1+ (rs.length:Int)=k+ ((r::rs).length:Int):=by rw [List.length_cons];lia
  rw [this]
noncomputable def TabOk (H:Hp) (kvs:List (Key×V)) (ss:List Srt):Prop:= ∀ s∈ss,∃ a b c,bi kvs (.inr s.name)=some (.ref a)/\H a=some (.tup [.ref b,.ref c])/\H b=some (.tup (s.downs.map V.str))/\H c=some (.tup (s.ups.map V.str))
theorem TabOk.mono {H H':Hp} (t:TK H H') {kvs:List (Key×V)} {ss:List Srt} (h:TabOk H kvs ss):TabOk H' kvs ss:=fun s hs=>by
 obtain ⟨a,b,c,e,h1,h2,h3⟩:=h s hs
 exact ⟨a,b,c,e,t _ _ h1,t _ _ h2,t _ _ h3⟩
theorem TabOk.put {H:Hp} {kvs:List (Key×V)} {ss:List Srt} {i:Nat} {s:Srt} {a b c:Addr} (nd:(ss.map Srt.name).Nodup) (hs:ss[i]? =some s) (h:TabOk H kvs (ss.take i))
  (h1:H a=some (.tup [.ref b,.ref c])) (h2:H b=some (.tup (s.downs.map V.str))) (h3:H c=some (.tup (s.ups.map V.str))):TabOk H (cP kvs (.inr s.name) (.ref a)) (ss.take (i+1)):=by
 intro x hx
 rw [List.take_add_one,hs,List.mem_append]at hx
 rcases hx with hx | hx
 ·obtain ⟨a',b',c',e,r⟩:=h x hx
  refine ⟨a',b',c',?_,r⟩
  rw [eZ,if_neg]
  ·exact e
  ·intro z
   have z:x.name=s.name:=Sum.inr.inj z
   obtain ⟨j,hj⟩:=List.getElem?_of_mem hx
   have hji:j<i:=by
    have:=(List.getElem?_eq_some_iff.mp hj).1
    rw [List.length_take]at this
    lia
   rw [List.getElem?_take,if_pos hji]at hj
   have q1:(ss.map Srt.name)[j]? =some s.name:=by rw [List.getElem?_map,hj,<- z];rfl
   have q2:(ss.map Srt.name)[i]? =some s.name:=by rw [List.getElem?_map,hs];rfl
   have:=fB nd q1 q2
   lia
 ·have hx:x=s:=by simpa using hx
  subst hx
  exact ⟨a,b,c,by rw [eZ,if_pos rfl],h1,h2,h3⟩
noncomputable def SrtsAt (H:Hp) (a:Addr) (ss:List Srt):Prop:= ∃ xs,H a=some (.tup xs)/\RepSs H ss xs
theorem SrtsAt.mono {H H':Hp} (t:TK H H') {a:Addr} {ss:List Srt}:SrtsAt H a ss->SrtsAt H' a ss:=fun ⟨xs,h,r⟩=>⟨xs,t _ _ h,r.mono t⟩
inductive fF  (vs:List V) (H:Hp) (Q:VK) (E_:XK):Prop
 | mk: ∀ sa pa ss o qs,(vs=[.ref sa,.str (Srt.name o),.ref pa])->(SrtsAt H sa ss)->(dM ss)->(o∈ss)->(H pa=some (.tup (qs.map fun q=>V.str (Srt.name q))))->((∀ q∈qs,q∈ss))->(qs.length<=3)->(∀ p zs H',H p=none->Same H H'->H' p=some (.lst zs)->Tups H' ((fb o qs).map tgV) zs->Q (.ref p) H')->fF vs H Q E_
theorem scTargets:aI ["sorts","own","parts","table","name","downs","ups","found","k"] ["sorts","own","parts"] (aj fi):=fsc
theorem oC (F:Fun K "_law_targets" "_law_targets" fi f fd) (G:Gb mg):
  FnOk P w K mg base CX0 1 f fd ["sorts","own","parts"] fF:=by
 refine F.ok scTargets (fun vs H Q E h=>?_) (fun cdv A outer s H vs Q E hr h=>?_)
 ·obtain ⟨sa,pa,ss,o,qs,rfl,_⟩:=h
  rfl
 obtain ⟨sa,pa,ss,o,qs,rfl,⟨xs,hsa,hR⟩,hok,ho,hpa,hqs,hql,q⟩:=h
 have hu:=jy hr
 refine ⟨_,af (aq (i:=3) scTargets.nd rfl (Or.inl rfl) gV)
  (af (cr PassesOwn.never rfl (bZ (pv 0)) (jg rfl (bO (aS (i:=4) scTargets.nd rfl (Or.inl rfl)) (bO (aS (i:=5) scTargets.nd rfl (Or.inl rfl)) (bO (aS (i:=6) scTargets.nd rfl (Or.inl rfl)) gU))))
   (ak (gO hu (pv 3) (pv 4) (aZ (aa (pv 5) (aa (pv 6) ad))) rfl)))
  (af (eI (i:=7) (sc0:=aj fi) (N0:=["sorts","own","parts","table","name","downs","ups","found","k"]) (ys:=[]) (fr:=[]) rfl scTargets.nd rfl (Or.inl rfl)
    (bZ (au (r:=aV K) ax (dg hu (pv 3) (pv 1) (fun _ _=>rfl)) ae (fun _ _=>rfl))) rfl rfl
    cok
    (fun C s H ex=>aZ (aa (pH kM ae) (aa (pv 0) ad))))
  (af (cr PassesOwn.never rfl (bp rfl G.range (aa (ao (r:=cA K) aw rfl G.len PySem.boot_len (aa (pv 2) ad)) ad)) (aS (i:=8) scTargets.nd rfl (Or.inr rfl))
   (ak (cx (dw PySem.F.plainAttrs_list PySem.F.slot_list_extend PySem.F.type_list_extend fL (pv 7) (aa
    (cW (sc0:=aj fi) (N0:=["sorts","own","parts","table","name","downs","ups","found","k"]) (ys:=["k"]) (fr:=[8]) rfl
     (bZ (au (r:=aV K) ax (dg hu (pv 3) (au (r:=aV K) ax (pv 2) (pv 8) (fun _ _=>rfl)) (fun _ _=>rfl)) ae (fun _ _=>rfl))) rfl rfl
     cok
     (fun C s H ex=>aZ (aa (pv 1) (aa (pv 0) ad)))) ad)))))
  (ak (aF (pv 7)))))),?_⟩
 refine fun td htd=>?_
 have s0:=ag htd (.dK [])
 have g0:(upd H td (.dK [])) td=some (.dK []):=ac
 generalize upd H td (.dK [])=H0 at s0 g0 ⊢
 have hlen:=hR.len
 refine ⟨_,rfl,sa,rfl,⟨xs,SqT.of (s0 _ _ hsa)⟩,?_⟩
 refine dJ (xs:=xs) (fun i σ H'=>i<=xs.length/\ ∃ o4 o5 o6 kvs,σ=[some (.ref sa),some (.str o.name),some (.ref pa),some (.ref td),o4,o5,o6,none,none]/\Same H H'/\H' td=some (.dK kvs)/\kvs.length<=i/\TabOk H' kvs (ss.take i))
  ⟨Nat.zero_le _,none,none,none,[],rfl,s0,g0,Nat.le_refl _,fun s hs=>(by cases hs)⟩ (fun i σ H' _ h=>by obtain ⟨_,_,_,_,_,_,sm,_⟩:=h;exact SqT.of (sm _ _ hsa)) ?_ ?_
 ·rintro i x σ H1 hx ⟨hi,o4,o5,o6,kvs,rfl,sm,gd,hl,hT⟩
  have hlt:i<xs.length:=(List.getElem?_eq_some_iff.mp hx).1
  obtain ⟨sr,hsr,a,b,c,rfl,ha,hb,hc⟩:=aX hR hx
  refine ⟨a,_,rfl,SqT.of (sm _ _ ha),rfl,_,_,rfl,_,_,rfl,_,_,rfl,rfl,?_⟩
  refine ⟨_,rfl,_,rfl,(by show 2<=sizeLine;decide),fun pt hpt=>?_⟩
  have s1:=ag hpt (.tup [.ref b,.ref c])
  have g1:(upd H1 pt (.tup [.ref b,.ref c])) pt=some (.tup [.ref b,.ref c]):=ac
  generalize upd H1 pt (.tup [.ref b,.ref c])=H2 at s1 g1 ⊢
  have gd2:=s1 _ _ gd
  have S2:Same H H2:=sm.trans s1
  refine ⟨_,rfl,_,rfl,td,_,rfl,DPut.k (k:=.inr sr.name) gd2 (av (by have:=hok.2.1;lia)),?_⟩
  have tk:TK H2 (upd H2 td (.dK (cP kvs (.inr sr.name) (.ref pt)))):=TK.upd fun ys e=>by rw [gd2]at e;cases e
  refine ⟨hlt,_,_,_,_,rfl,?_,ac,?_,?_⟩
  ·intro y oo h
   rw [al (ah h htd)]
   exact S2 _ _ h
  ·have:=cK kvs (.inr sr.name) (.ref pt)
   lia
  ·exact TabOk.put hok.2.2.1 hsr (hT.mono ((aG s1).trans tk)) (tk _ _ g1) (tk _ _ (S2 _ _ hb)) (tk _ _ (S2 _ _ hc))
 ·rintro σ H1 ⟨_,o4,o5,o6,kvs,rfl,sm,gd,hl,hT⟩
  rw [<- hlen,List.take_length]at hT
  obtain ⟨a,b,c,eo,ha,hb,hc⟩:=hT o ho
  refine ⟨_,rfl,_,rfl,td,.ref a,rfl,(by rw [<- eo];exact DGet.k (k:=.inr o.name) gd),a,_,1,.ref c,rfl,rfl,SqT.of ha,ay (j:=1) rfl,c,rfl,⟨_,SqT.of hc⟩,?_⟩
  have lo:o.ups.length<=3:=(hok.2.2.2.2 o ho).2.2.2.1
  refine fN (by rw [List.length_map];lia) hc (fun v=>[.int (-1),v]) (fun v H k _ hk=>⟨1,rfl,_,rfl,(by show 2<=sizeLine;decide),fun p hp=>hk p hp⟩) fun fl zs H2 hfl s2 gfl hTz=>?_
  have ez:(o.ups.map V.str).map (fun v=>[V.int (-1),v])=(o.ups.map fun x=>((-1:Int),x)).map tgV:=by rw [List.map_map,List.map_map];rfl
  rw [ez]at hTz
  have S2:Same H H2:=sm.trans s2
  have hfl0:H fl=none:=sm.free hfl
  have gd2:=s2 _ _ gd
  have hT2:=hT.mono (aG s2)
  have dfl:fl≠td:=Ne.symm (ah gd hfl)
  have hlp:(qs.map fun q=>V.str (Srt.name q)).length=qs.length:=List.length_map _
  refine ⟨_,rfl,pa,_,rfl,.inr (SqT.of (S2 _ _ hpa)),_,rfl,by lia,by lia,?_⟩
  refine cL (fun i σ H'=> ∃ o8 zs,σ=[some (.ref sa),some (.str o.name),some (.ref pa),some (.ref td),o4,o5,o6,some (.ref fl),o8]/\Same H H'/\H' td=some (.dK kvs)/\TabOk H' kvs ss/\H' fl=some (.lst zs)/\
    Tups H' ((o.ups.map (fun x=>((-1:Int),x))++cZ 0 (qs.take i)).map tgV) zs)
   ⟨none,zs,rfl,S2,gd2,hT2,gfl,by rw [List.take_zero];show Tups H2 ((_++[]).map tgV) zs;rw [List.append_nil];exact hTz⟩ ?_ ?_
  ·rintro i σ H3 hi ⟨o8,zs3,rfl,S3,gd3,hT3,gfl3,hTz3⟩
   have hi':i<qs.length:=by lia
   obtain ⟨sq,hsq⟩: ∃ sq,qs[i]? =some sq:=⟨qs[i],List.getElem?_eq_getElem hi'⟩
   obtain ⟨a,b,c,eq,ha,hb,hc⟩:=hT3 sq (hqs sq (List.mem_of_getElem? hsq))
   have eat:atI (qs.map fun q=>V.str (Srt.name q)) (0+ (i:Int))=some (V.str sq.name):=by
    rw [Int.zero_add]
    exact ay (by rw [List.getElem?_map,hsq];rfl)
   refine ⟨_,rfl,.inl ⟨rfl,_,SqL.of gfl3⟩,?_⟩
   refine ⟨_,rfl,_,rfl,_,rfl,pa,_,_,_,rfl,rfl,SqT.of (S3 _ _ hpa),eat,td,.ref a,rfl,(by rw [<- eq];exact DGet.k (k:=.inr sq.name) gd3),a,_,0,.ref b,rfl,rfl,SqT.of ha,cT,b,rfl,⟨_,SqT.of hb⟩,?_⟩
   have ld:sq.downs.length<=3:=(hok.2.2.2.2 sq (hqs sq (List.mem_of_getElem? hsq))).2.2.1
   refine fN (by rw [List.length_map];lia) hb (fun v=>[.int (0+ (i:Int)),v]) (fun v H k _ hk=>⟨_,rfl,_,rfl,(by show 2<=sizeLine;decide),fun p hp=>hk p hp⟩) fun pl ws H4 hpl s4 gpl hTw=>?_
   have ew:(sq.downs.map V.str).map (fun v=>[V.int (0+ (i:Int)),v])=(sq.downs.map fun x=>(0+ (i:Int),x)).map tgV:=by rw [List.map_map,List.map_map];rfl
   rw [ew]at hTw
   have gfl4:=s4 _ _ gfl3
   have lz:=hTz3.len
   have lw:=hTw.len
   have lt:=iX 0 (qs.take i) fun s hs=>hok.2.2.2.2 s (hqs s (List.mem_of_mem_take hs))
   rw [List.length_map,List.length_append,List.length_map]at lz
   rw [List.length_map,List.length_map]at lw
   rw [List.length_take]at lt
   refine ⟨fl,pl,zs3,ws,rfl,rfl,gfl4,gpl,Nat.le_of_lt (av (by lia)),?_⟩
   have tk:TK H4 (upd H4 fl (.lst (zs3++ws))):=TK.lst gfl4
   have tk3:TK H3 (upd H4 fl (.lst (zs3++ws))):=(aG s4).trans tk
   refine ⟨_,zs3++ws,rfl,?_,?_,hT3.mono tk3,ac,?_⟩
   ·intro y oo h
    rw [al (ah h hfl0)]
    exact s4 _ _ (S3 _ _ h)
   ·rw [al (Ne.symm dfl)]
    exact s4 _ _ gd3
   ·rw [List.take_add_one,hsq]
    show Tups _ ((_++cZ 0 (qs.take i++[sq])).map tgV) _
    rw [mh,<- List.append_assoc,List.map_append]
    have e9:(0:Int) + ((qs.take i).length:Int)=0+ (i:Int):=by rw [List.length_take];lia
    rw [e9]
    exact (hTz3.mono tk3).append (hTw.mono tk)
  ·rintro σ H3 ⟨o8,zs3,rfl,S3,gd3,hT3,gfl3,hTz3⟩
   have e9:qs.take (((qs.map fun q=>V.str (Srt.name q)).length:Int)).toNat=qs:=by rw [hlp];exact List.take_of_length_le (by lia)
   rw [e9]at hTz3
   exact ⟨_,rfl,q fl zs3 H3 hfl0 S3 gfl3 hTz3⟩
noncomputable def cO (k:Int):List Srt->List Fm
 | []=>[]
 | q::r=>q.ups.map (fun x=>Fm.part k x)++cO (k+1) r
noncomputable def tgF (t:Int×Str):Fm:=if t.1<0 then .own t.2 else .part t.1 t.2
noncomputable def eU (o:Srt) (qs:List Srt) (mode j:Int):List (Int×Str):=if mode=2 then (fb o qs).take j.toNat else fb o qs
noncomputable def rds (o:Srt) (qs:List Srt) (mode j:Int):List Fm:=(o.downs.map Fm.own++cO 0 qs)++(if mode>0 then (eU o qs mode j).map tgF else [])
noncomputable def fmV:Fm->List V
 | .own x=>[.str "own",.str x]
 | .part k x=>[.str "part",.int k,.str x]
 | _=>[]
theorem fZ (k:Int): ∀ (qs:List Srt),(∀ s∈qs,s.ok)->(cO k qs).length<=3*qs.length:=by
 intro qs
 induction qs generalizing k with
 | nil=>intro _;exact Nat.le_refl _
 | cons q r ih=>
  intro h
  have h1:=ih (k+1) fun s hs=>h s (List.mem_cons_of_mem _ hs)
  have h2:=(h q List.mem_cons_self).2.2.2.1
  unfold cO
  rw [List.length_append,List.length_map,List.length_cons]
  lia
theorem mx (k:Int): ∀ (qs:List Srt) (q:Srt),cO k (qs++[q])=cO k qs++q.ups.map (fun x=>Fm.part (k+qs.length) x):=by
 intro qs
 induction qs generalizing k with
 | nil=>intro q;show q.ups.map (fun x=>Fm.part k x)++[]=_;rw [List.append_nil];show _=q.ups.map (fun x=>Fm.part (k+ ((0:Nat):Int)) x);rw [show k+ ((0:Nat):Int)=k by lia]
 | cons r rs ih=>
  intro q
  show r.ups.map _++cO (k+1) (rs++[q])=(r.ups.map _++cO (k+1) rs)++_
  rw [ih,List.append_assoc]
  have:k+1+ (rs.length:Int)=k+ ((r::rs).length:Int):=by rw [List.length_cons];lia
  rw [this]
theorem iW {ss:List Srt} {o:Srt} {qs:List Srt} (hok: ∀ s∈ss,s.ok) (ho:o∈ss) (hq: ∀ q∈qs,q∈ss) (hl:qs.length<=3):(fb o qs).length<=12:=by
 have h1:=iX 0 qs fun s hs=>hok s (hq s hs)
 have h2:=(hok o ho).2.2.2.1
 unfold fb
 rw [List.length_append,List.length_map]
 lia
theorem jW (o:Srt) (qs:List Srt) (mode j:Int):(eU o qs mode j).length<=(fb o qs).length:=by
 unfold eU
 by_cases c:mode=2
 ·rw [if_pos c,List.length_take];exact Nat.min_le_right _ _
 ·rw [if_neg c];exact Nat.le_refl _
inductive fg  (vs:List V) (H:Hp) (Q:VK) (E_:XK):Prop
 | mk: ∀ sa pa ss o qs mode j,(vs=[.ref sa,.str (Srt.name o),.ref pa,.int mode,.int j])->(SrtsAt H sa ss)->(dM ss)->(o∈ss)->(H pa=some (.tup (qs.map fun q=>V.str (Srt.name q))))->((∀ q∈qs,q∈ss))->(qs.length<=3)->(0<=j)->(j<=(fb o qs).length)->(∀ p zs H',H p=none->Same H H'->H' p=some (.lst zs)->Tups H' ((rds o qs mode j).map fmV) zs->Q (.ref p) H')->fg vs H Q E_
theorem uc {z u:V} (k:Bool):atI [z,u] (if k then 1 else 0)=some (if k then u else z):=by cases k <;> rfl
theorem scLReadings:aI ["sorts","own","parts","mode","j","table","name","downs","ups","word","found","k","targets","at"] ["sorts","own","parts","mode","j"] (aj du):=fsc
theorem lN (F:Fun K "_law_readings" "_law_readings" du f fd) (G:Gb mg) (GT:FnOk P w K mg base CX0 1 g gd ["sorts","own","parts"] fF) (bT:Binds K gd ["sorts","own","parts"] []) (kT:PySem.W.keepIn K (.ref g)=true) (mT:mg "_law_targets"=some (.ref g)):
  FnOk P w K mg base CX0 2 f fd ["sorts","own","parts","mode","j"] fg:=by
 refine F.ok scLReadings (fun vs H Q E h=>?_) (fun cdv A outer s H vs Q E hr h=>?_)
 ·obtain ⟨sa,pa,ss,o,qs,mode,j,rfl,_⟩:=h
  rfl
 obtain ⟨sa,pa,ss,o,qs,mode,j,rfl,⟨xs,hsa,hR⟩,hok,ho,hpa,hqs,hql,hj0,hj1,q⟩:=h
 have hu:=jy hr
 refine ⟨_,af (aq (i:=5) scLReadings.nd rfl (Or.inl rfl) gV)
  (af (cr PassesOwn.never rfl (bZ (pv 0)) (jg rfl (bO (aS (i:=6) scLReadings.nd rfl (Or.inl rfl)) (bO (aS (i:=7) scLReadings.nd rfl (Or.inl rfl)) (bO (aS (i:=8) scLReadings.nd rfl (Or.inl rfl)) gU))))
   (ak (gO hu (pv 5) (pv 6) (aZ (aa (pv 7) (aa (pv 8) ad))) rfl)))
  (af (eI (i:=10) (sc0:=aj du) (N0:=["sorts","own","parts","mode","j","table","name","downs","ups","word","found","k","targets","at"]) (ys:=[]) (fr:=[]) rfl scLReadings.nd rfl (Or.inl rfl)
    (bZ (au (r:=aV K) ax (dg hu (pv 5) (pv 1) (fun _ _=>rfl)) ae (fun _ _=>rfl))) rfl rfl
    cok
    (fun C s H ex=>aZ (aa aN (aa (pv 0) ad))))
  (af (cr PassesOwn.never rfl (bp rfl G.range (aa (ao (r:=cA K) aw rfl G.len PySem.boot_len (aa (pv 2) ad)) ad)) (aS (i:=11) scLReadings.nd rfl (Or.inr rfl))
   (ak (cx (dw PySem.F.plainAttrs_list PySem.F.slot_list_extend PySem.F.type_list_extend fL (pv 10) (aa
    (cW (sc0:=aj du) (N0:=["sorts","own","parts","mode","j","table","name","downs","ups","word","found","k","targets","at"]) (ys:=["k"]) (fr:=[11]) rfl
     (bZ (au (r:=aV K) ax (dg hu (pv 5) (au (r:=aV K) ax (pv 2) (pv 11) (fun _ _=>rfl)) (fun _ _=>rfl)) ae (fun _ _=>rfl))) rfl rfl
     cok
     (fun C s H ex=>aZ (aa aN (aa (pv 1) (aa (pv 0) ad))))) ad)))))
  (af (aq (i:=12) scLReadings.nd rfl (Or.inl rfl) (am GT hr rfl mT kT bT .nil aD (aa (pv 0) (aa (pv 1) (aa (pv 2) ad)))))
  (af (a7 (aA bV (pv 3) ae (aE _)) (ak (aq (i:=12) scLReadings.nd rfl (Or.inl rfl) (aP df (pv 12) a9 (aQ (pv 4))))) aH)
  (af (cr PassesOwn.never rfl (pG (pv 12)) (jg rfl (bO (aS (i:=13) scLReadings.nd rfl (Or.inl rfl)) (bO (aS (i:=9) scLReadings.nd rfl (Or.inl rfl)) gU)))
   (ak (a7 (aA kd (pv 3) ae (aE _))
    (ak (cx (dw PySem.F.plainAttrs_list PySem.F.slot_list_append PySem.F.type_list_append bK (pv 10) (aa
     (au (r:=cD K) aW (bh (aa (aZ (aa aN (aa (pv 13) (aa (pv 9) ad)))) (aa (aZ (aa aN (aa (pv 9) ad))) ad)))
      (bq eh rfl G.int (by decide +kernel) (aa (cG gX (pv 13) ae (aE _)) ad)) (fun _ _=>rfl)) ad)))) aH)))
  (ak (aF (pv 10))))))))),?_⟩
 refine fun td htd=>?_
 have s0:=ag htd (.dK [])
 have g0:(upd H td (.dK [])) td=some (.dK []):=ac
 generalize upd H td (.dK [])=H0 at s0 g0 ⊢
 have hlen:=hR.len
 refine ⟨_,rfl,sa,rfl,⟨xs,SqT.of (s0 _ _ hsa)⟩,?_⟩
 refine dJ (xs:=xs) (fun i σ H'=>i<=xs.length/\ ∃ o4 o5 o6 kvs,σ=[some (.ref sa),some (.str o.name),some (.ref pa),some (.int mode),some (.int j),some (.ref td),o4,o5,o6,none,none,none,none,none]/\Same H H'/\H' td=some (.dK kvs)/\kvs.length<=i/\TabOk H' kvs (ss.take i))
  ⟨Nat.zero_le _,none,none,none,[],rfl,s0,g0,Nat.le_refl _,fun s hs=>(by cases hs)⟩ (fun i σ H' _ h=>by obtain ⟨_,_,_,_,_,_,sm,_⟩:=h;exact SqT.of (sm _ _ hsa)) ?_ ?_
 ·rintro i x σ H1 hx ⟨hi,o4,o5,o6,kvs,rfl,sm,gd,hl,hT⟩
  have hlt:i<xs.length:=(List.getElem?_eq_some_iff.mp hx).1
  obtain ⟨sr,hsr,a,b,c,rfl,ha,hb,hc⟩:=aX hR hx
  refine ⟨a,_,rfl,SqT.of (sm _ _ ha),rfl,_,_,rfl,_,_,rfl,_,_,rfl,rfl,?_⟩
  refine ⟨_,rfl,_,rfl,(by show 2<=sizeLine;decide),fun pt hpt=>?_⟩
  have s1:=ag hpt (.tup [.ref b,.ref c])
  have g1:(upd H1 pt (.tup [.ref b,.ref c])) pt=some (.tup [.ref b,.ref c]):=ac
  generalize upd H1 pt (.tup [.ref b,.ref c])=H2 at s1 g1 ⊢
  have gd2:=s1 _ _ gd
  have S2:Same H H2:=sm.trans s1
  refine ⟨_,rfl,_,rfl,td,_,rfl,DPut.k (k:=.inr sr.name) gd2 (av (by have:=hok.2.1;lia)),?_⟩
  have tk:TK H2 (upd H2 td (.dK (cP kvs (.inr sr.name) (.ref pt)))):=TK.upd fun ys e=>by rw [gd2]at e;cases e
  refine ⟨hlt,_,_,_,_,rfl,?_,ac,?_,?_⟩
  ·intro y oo h
   rw [al (ah h htd)]
   exact S2 _ _ h
  ·have:=cK kvs (.inr sr.name) (.ref pt)
   lia
  ·exact TabOk.put hok.2.2.1 hsr (hT.mono ((aG s1).trans tk)) (tk _ _ g1) (tk _ _ (S2 _ _ hb)) (tk _ _ (S2 _ _ hc))
 ·rintro σ H1 ⟨_,o4,o5,o6,kvs,rfl,sm,gd,hl,hT⟩
  rw [<- hlen,List.take_length]at hT
  obtain ⟨a,b,c,eo,ha,hb,hc⟩:=hT o ho
  refine ⟨_,rfl,_,rfl,td,.ref a,rfl,(by rw [<- eo];exact DGet.k (k:=.inr o.name) gd),a,_,0,.ref b,rfl,rfl,SqT.of ha,cT,b,rfl,⟨_,SqT.of hb⟩,?_⟩
  have lo:o.downs.length<=3:=(hok.2.2.2.2 o ho).2.2.1
  refine fN (by rw [List.length_map];lia) hb (fun v=>[.str "own",v]) (fun v H k _ hk=>⟨_,rfl,(by show 2<=sizeLine;decide),fun p hp=>hk p hp⟩) fun fl zs H2 hfl s2 gfl hTz=>?_
  have ez:(o.downs.map V.str).map (fun v=>[V.str "own",v])=(o.downs.map Fm.own).map fmV:=by rw [List.map_map,List.map_map];rfl
  rw [ez]at hTz
  have S2:Same H H2:=sm.trans s2
  have hfl0:H fl=none:=sm.free hfl
  have gd2:=s2 _ _ gd
  have hT2:=hT.mono (aG s2)
  have dfl:fl≠td:=Ne.symm (ah gd hfl)
  have hlp:(qs.map fun q=>V.str (Srt.name q)).length=qs.length:=List.length_map _
  refine ⟨_,rfl,pa,_,rfl,.inr (SqT.of (S2 _ _ hpa)),_,rfl,by lia,by lia,?_⟩
  refine cL (fun i σ H'=> ∃ o8 zs,σ=[some (.ref sa),some (.str o.name),some (.ref pa),some (.int mode),some (.int j),some (.ref td),o4,o5,o6,none,some (.ref fl),o8,none,none]/\Same H H'/\H' td=some (.dK kvs)/\TabOk H' kvs ss/\H' fl=some (.lst zs)/\
    Tups H' ((o.downs.map Fm.own++cO 0 (qs.take i)).map fmV) zs)
   ⟨none,zs,rfl,S2,gd2,hT2,gfl,by rw [List.take_zero];show Tups H2 ((_++[]).map fmV) zs;rw [List.append_nil];exact hTz⟩ ?_ ?_
  ·rintro i σ H3 hi ⟨o8,zs3,rfl,S3,gd3,hT3,gfl3,hTz3⟩
   have hi':i<qs.length:=by lia
   obtain ⟨sq,hsq⟩: ∃ sq,qs[i]? =some sq:=⟨qs[i],List.getElem?_eq_getElem hi'⟩
   obtain ⟨a,b,c,eq,ha,hb,hc⟩:=hT3 sq (hqs sq (List.mem_of_getElem? hsq))
   have eat:atI (qs.map fun q=>V.str (Srt.name q)) (0+ (i:Int))=some (V.str sq.name):=by
    rw [Int.zero_add]
    exact ay (by rw [List.getElem?_map,hsq];rfl)
   refine ⟨_,rfl,.inl ⟨rfl,_,SqL.of gfl3⟩,?_⟩
   refine ⟨_,rfl,_,rfl,_,rfl,pa,_,_,_,rfl,rfl,SqT.of (S3 _ _ hpa),eat,td,.ref a,rfl,(by rw [<- eq];exact DGet.k (k:=.inr sq.name) gd3),a,_,1,.ref c,rfl,rfl,SqT.of ha,ay (j:=1) rfl,c,rfl,⟨_,SqT.of hc⟩,?_⟩
   have ld:sq.ups.length<=3:=(hok.2.2.2.2 sq (hqs sq (List.mem_of_getElem? hsq))).2.2.2.1
   refine fN (by rw [List.length_map];lia) hc (fun v=>[.str "part",.int (0+ (i:Int)),v]) (fun v H k _ hk=>⟨_,rfl,_,rfl,(by show 3<=sizeLine;decide),fun p hp=>hk p hp⟩) fun pl ws H4 hpl s4 gpl hTw=>?_
   have ew:(sq.ups.map V.str).map (fun v=>[V.str "part",V.int (0+ (i:Int)),v])=(sq.ups.map fun x=>Fm.part (0+ (i:Int)) x).map fmV:=by rw [List.map_map,List.map_map];rfl
   rw [ew]at hTw
   have gfl4:=s4 _ _ gfl3
   have lz:=hTz3.len
   have lw:=hTw.len
   have lt:=fZ 0 (qs.take i) fun s hs=>hok.2.2.2.2 s (hqs s (List.mem_of_mem_take hs))
   rw [List.length_map,List.length_append,List.length_map]at lz
   rw [List.length_map,List.length_map]at lw
   rw [List.length_take]at lt
   refine ⟨fl,pl,zs3,ws,rfl,rfl,gfl4,gpl,Nat.le_of_lt (av (by lia)),?_⟩
   have tk:TK H4 (upd H4 fl (.lst (zs3++ws))):=TK.lst gfl4
   have tk3:TK H3 (upd H4 fl (.lst (zs3++ws))):=(aG s4).trans tk
   refine ⟨_,zs3++ws,rfl,?_,?_,hT3.mono tk3,ac,?_⟩
   ·intro y oo h
    rw [al (ah h hfl0)]
    exact s4 _ _ (S3 _ _ h)
   ·rw [al (Ne.symm dfl)]
    exact s4 _ _ gd3
   ·rw [List.take_add_one,hsq]
    show Tups _ ((_++cO 0 (qs.take i++[sq])).map fmV) _
    rw [mx,<- List.append_assoc,List.map_append]
    have e9:(0:Int) + ((qs.take i).length:Int)=0+ (i:Int):=by rw [List.length_take];lia
    rw [e9]
    exact (hTz3.mono tk3).append (hTw.mono tk)
  ·rintro σ H3 ⟨o8,zs3,rfl,S3,gd3,hT3,gfl3,hTz3⟩
   have e9:qs.take (((qs.map fun q=>V.str (Srt.name q)).length:Int)).toNat=qs:=by rw [hlp];exact List.take_of_length_le (by lia)
   rw [e9]at hTz3
   have lt12:=iW hok.2.2.2.2 ho hqs hql
   have l12:zs3.length<=12:=by
    have lt:=fZ 0 qs fun s hs=>hok.2.2.2.2 s (hqs s hs)
    have lz:=hTz3.len
    rw [List.length_map,List.length_append,List.length_map]at lz
    lia
   refine ⟨_,rfl,_,rfl,_,rfl,sa,pa,ss,o,qs,rfl,⟨xs,S3 _ _ hsa,hR.mono (aG S3)⟩,hok,ho,S3 _ _ hpa,hqs,hql,fun tl zt H4 htl s4 gtl hTt=>?_⟩
   have S4:Same H H4:=S3.trans s4
   have gfl4:=s4 _ _ gfl3
   have hTz4:=hTz3.mono (aG s4)
   have nft:fl≠tl:=ah gfl3 htl
   refine ⟨_,rfl,rfl,_,rfl,?_⟩
   refine bE (fun c=>?A) (fun c=>?B)
   case' A=>
    have cm:mode=2:=V.int.inj (of_decide_eq_true c)
    have lzt:zt.length=(fb o qs).length:=by rw [<- hTt.len,List.length_map]
    refine ⟨_,rfl,_,rfl,j,rfl,tl,zt,rfl,SqL.of gtl,fun tl2 htl2=>?_⟩
    rw [fD zt hj0 (by lia)]
    have hsel:Tups H4 ((eU o qs mode j).map tgV) (zt.take j.toNat):=by
     unfold eU
     rw [if_pos cm,List.map_take]
     exact iF hTt _
    have s5:=ag htl2 (.lst (zt.take j.toNat))
    have gt:(upd H4 tl2 (.lst (zt.take j.toNat))) tl2=some (.lst (zt.take j.toNat)):=ac
    have nft2:fl≠tl2:=ah gfl4 htl2
    have gfl5:=s5 _ _ gfl4
    have hTz5:=hTz4.mono (aG s5)
    have hsel5:=hsel.mono (aG s5)
    have S5:Same H (upd H4 tl2 (.lst (zt.take j.toNat))):=S4.trans s5
    generalize upd H4 tl2 (.lst (zt.take j.toNat))=H5 at gt gfl5 hTz5 hsel5 S5 ⊢
    generalize zt.take j.toNat=zu at gt hsel5
    generalize tl2=tx at gt nft2 ⊢
   case' B=>
    have cm: ¬ mode=2:=fun e=>c (decide_eq_true (by rw [e]))
    have hsel5:Tups H4 ((eU o qs mode j).map tgV) zt:=by
     unfold eU
     rw [if_neg cm]
     exact hTt
    have gt:=gtl
    have nft2:=nft
    have gfl5:=gfl4
    have hTz5:=hTz4
    have S5:=S4
    generalize H4=H5 at gt gfl5 hTz5 hsel5 S5 ⊢
    generalize zt=zu at gt hsel5
    generalize tl=tx at gt nft2 ⊢
   all_goals
    have ltg:(eU o qs mode j).length<=12:=Nat.le_trans (jW o qs mode j) lt12
    have lzu:zu.length=(eU o qs mode j).length:=by rw [<- hsel5.len,List.length_map]
    have hrd:rds o qs mode j=(o.downs.map Fm.own++cO 0 qs)++(if mode>0 then (eU o qs mode j).map tgF else []):=rfl
    generalize eU o qs mode j=tg at ltg lzu hrd hsel5
    have e0:(if mode>0 then (tg.take 0).map tgF else [])=[]:=by split <;> rfl
    refine ⟨_,rfl,tx,rfl,⟨zu,SqL.of gt⟩,?_⟩
    refine uh (xs:=zu) (fun i σ H'=>i<=zu.length/\ ∃ o9 zs o13,σ=[some (.ref sa),some (.str o.name),some (.ref pa),some (.int mode),some (.int j),some (.ref td),o4,o5,o6,o9,some (.ref fl),o8,some (.ref tx),o13]/\Same H H'/\H' tx=some (.lst zu)/\Tups H' (tg.map tgV) zu/\H' fl=some (.lst zs)/\zs.length<=12+i/\
      Tups H' (((o.downs.map Fm.own++cO 0 qs)++(if mode>0 then (tg.take i).map tgF else [])).map fmV) zs)
     ⟨Nat.zero_le _,none,zs3,none,rfl,S5,gt,hsel5,gfl5,l12,by rw [e0,List.append_nil];exact hTz5⟩ (fun i σ H' _ h=>by obtain ⟨_,_,_,_,_,_,gg,_⟩:=h;exact SqL.of gg) ?_ ?_
    ·rintro i x σ H6 hx ⟨hi,o9,zs6,o13,rfl,S6,gt6,hsel6,gfl6,l6,hT6⟩
     have hlt:i<zu.length:=(List.getElem?_eq_some_iff.mp hx).1
     obtain ⟨ys,hys,a,rfl,ha⟩:=aX hsel6 hx
     obtain ⟨t,ht,rfl⟩: ∃ t,tg[i]? =some t/\tgV t=ys:=by
      rw [List.getElem?_map]at hys
      cases he:tg[i]? with
      | none=>rw [he]at hys;cases hys
      | some t=>rw [he]at hys;exact ⟨t,rfl,Option.some.inj hys⟩
     refine ⟨a,_,rfl,SqT.of ha,rfl,_,_,rfl,_,_,rfl,rfl,?_⟩
     refine ⟨_,rfl,_,_,rfl,rfl,_,rfl,?_⟩
     refine bE (fun cm=>?_) (fun cm=>?_)
     ·have cm':mode>0:=of_decide_eq_true cm
      refine ⟨_,rfl,.inl ⟨rfl,_,SqL.of gfl6⟩,?_⟩
      refine ⟨_,rfl,_,rfl,(by show 3<=sizeLine;decide),fun p1 hp1=>?_⟩
      have s1:=ag hp1 (.tup [.str "part",.int t.1,.str t.2])
      have g1:(upd H6 p1 (.tup [.str "part",.int t.1,.str t.2])) p1=some (.tup [.str "part",.int t.1,.str t.2]):=ac
      generalize upd H6 p1 (.tup [.str "part",.int t.1,.str t.2])=H7 at s1 g1 ⊢
      refine ⟨_,rfl,(by show 2<=sizeLine;decide),fun p2 hp2=>?_⟩
      have s2:=ag hp2 (.tup [.str "own",.str t.2])
      have g2:(upd H7 p2 (.tup [.str "own",.str t.2])) p2=some (.tup [.str "own",.str t.2]):=ac
      generalize upd H7 p2 (.tup [.str "own",.str t.2])=H8 at s2 g2 ⊢
      refine ⟨(by show 2<=sizeLine;decide),fun p3 hp3=>?_⟩
      have s3:=ag hp3 (.lst [.ref p1,.ref p2])
      have g3:(upd H8 p3 (.lst [.ref p1,.ref p2])) p3=some (.lst [.ref p1,.ref p2]):=ac
      generalize upd H8 p3 (.lst [.ref p1,.ref p2])=H9 at s3 g3 ⊢
      have S69:Same H6 H9:=s1.trans (s2.trans s3)
      refine ⟨_,rfl,_,_,rfl,rfl,.inr ⟨_,rfl,p3,_,_,_,rfl,rfl,SqL.of g3,uc _,?_⟩⟩
      have gfl9:=S69 _ _ gfl6
      refine ⟨fl,zs6,_,rfl,rfl,gfl9,av (by lia),?_⟩
      have hz:uC H9 (fmV (tgF t)) (if decide (t.1<0)=true then .ref p2 else .ref p1):=by
       by_cases cn:t.1<0
       ·rw [if_pos (decide_eq_true cn)]
        unfold tgF
        rw [if_pos cn]
        exact ⟨p2,rfl,s3 _ _ g2⟩
       ·rw [if_neg (fun e=>cn (of_decide_eq_true e))]
        unfold tgF
        rw [if_neg cn]
        exact ⟨p1,rfl,s3 _ _ (s2 _ _ g1)⟩
      generalize (if decide (t.1<0)=true then V.ref p2 else .ref p1)=zv at hz ⊢
      have tk:TK H9 (upd H9 fl (.lst (zs6++[zv]))):=TK.lst gfl9
      have tk6:TK H6 (upd H9 fl (.lst (zs6++[zv]))):=(aG S69).trans tk
      refine ⟨hlt,_,zs6++[zv],_,rfl,?_,?_,hsel6.mono tk6,ac,by rw [List.length_append];show zs6.length+1<=_;lia,?_⟩
      ·intro y oo h
       rw [al (ah h hfl0)]
       exact S69 _ _ (S6 _ _ h)
      ·rw [al (Ne.symm nft2)]
       exact S69 _ _ gt6
      ·rw [if_pos cm']at hT6 ⊢
       rw [List.take_add_one,ht]
       show Tups _ ((_++(tg.take i++[t]).map tgF).map fmV) _
       rw [List.map_append (f:=tgF),<- List.append_assoc,List.map_append (f:=fmV)]
       obtain ⟨az,ez,gz⟩:=hz
       exact Paired.snoc (hT6.mono tk6) ⟨az,ez,tk _ _ gz⟩
     ·have cm': ¬ mode>0:=fun e=>cm (decide_eq_true e)
      refine ⟨hlt,_,zs6,_,rfl,S6,gt6,hsel6,gfl6,by lia,?_⟩
      rw [if_neg cm']at hT6 ⊢
      exact hT6
    ·rintro σ H6 ⟨_,o9,zs6,o13,rfl,S6,gt6,hsel6,gfl6,l6,hT6⟩
     rw [List.take_of_length_le (by lia),<- hrd]at hT6
     exact ⟨_,rfl,q fl zs6 H6 hfl0 S6 gfl6 hT6⟩
structure Rul where
 pl:Int
 word:Str
 fm:Fm
structure Frm where
 name:Str
 own:Srt
 parts:List Srt
 rules:List Rul
inductive RepR (H:Hp) (r:Rul) (v:V):Prop
 | mk: ∀ a u,(v=.ref a)->(H a=some (.tup [.int r.pl,.str r.word,u]))->(Rep H r.fm u)->RepR H r v
theorem RepR.mono {H H':Hp} (t:TK H H') {r:Rul} {v:V}:RepR H r v->RepR H' r v:=fun ⟨a,u,e,h,p⟩=>⟨a,u,e,t _ _ h,p.mono t⟩
noncomputable def RepRs (H:Hp) (rs:List Rul) (vs:List V):Prop:=Paired (RepR H) rs vs
theorem RepRs.mono {H H':Hp} (t:TK H H') {rs:List Rul} {vs:List V} (h:RepRs H rs vs):RepRs H' rs vs:=Paired.mapP h fun _ _ r=>r.mono t
theorem RepRs.len {H:Hp} {rs:List Rul} {vs:List V} (h:RepRs H rs vs):rs.length=vs.length:=Paired.length h
noncomputable def bc (qs:List Srt):List V:=qs.map fun q=>V.str (Srt.name q)
inductive RepF (H:Hp) (fr:Frm) (v:V):Prop
 | mk: ∀ a pa ra rv,(v=.ref a)->(H a=some (.tup [.str fr.name,.str fr.own.name,.ref pa,.ref ra]))->(H pa=some (.tup (bc fr.parts)))->(H ra=some (.tup rv))->(RepRs H fr.rules rv)->RepF H fr v
theorem RepF.mono {H H':Hp} (t:TK H H') {fr:Frm} {v:V}:RepF H fr v->RepF H' fr v:=fun ⟨a,pa,ra,rv,e,h1,h2,h3,h4⟩=>⟨a,pa,ra,rv,e,t _ _ h1,t _ _ h2,t _ _ h3,h4.mono t⟩
noncomputable def qd (o:Srt) (qs:List Srt) (mode:Int) (rules:List Rul):Prop:=rules.map (fun r=>(r.pl,r.word))=fb o qs/\ ∀ (j:Nat) r,rules[j]? =some r->r.fm.wfp (fun f=>f∈rds o qs mode j)/\r.fm.size<=15
noncomputable def lQ:Fm->Prop
 | .own x=>bj x=true
 | .part k x=>(0<=k/\k<=2)/\bj x=true
 | _=>False
theorem nO {k:Int}: ∀ {qs:List Srt} {t:Int×Str},t∈cZ k qs->k<=t.1/\t.1<k+qs.length/\ ∃ q∈qs,t.2∈q.downs:=by
 intro qs
 induction qs generalizing k with
 | nil=>intro t h;cases h
 | cons q r ih=>
  intro t h
  unfold cZ at h
  rw [List.mem_append]at h
  rcases h with h | h
  ·obtain ⟨x,hx,rfl⟩:=List.mem_map.mp h
   exact ⟨Int.le_refl _,by rw [List.length_cons];show k<_;lia,q,List.mem_cons_self,hx⟩
  ·obtain ⟨h1,h2,q',h3,h4⟩:=ih h
   exact ⟨by lia,by rw [List.length_cons];lia,q',List.mem_cons_of_mem _ h3,h4⟩
theorem oj {k:Int}: ∀ {qs:List Srt} {f:Fm},f∈cO k qs-> ∃ j x,f=.part j x/\k<=j/\j<k+qs.length/\ ∃ q∈qs,x∈q.ups:=by
 intro qs
 induction qs generalizing k with
 | nil=>intro t h;cases h
 | cons q r ih=>
  intro t h
  unfold cO at h
  rw [List.mem_append]at h
  rcases h with h | h
  ·obtain ⟨x,hx,rfl⟩:=List.mem_map.mp h
   exact ⟨k,x,rfl,Int.le_refl _,by rw [List.length_cons];lia,q,List.mem_cons_self,hx⟩
  ·obtain ⟨j,x,e,h1,h2,q',h3,h4⟩:=ih h
   exact ⟨j,x,e,by lia,by rw [List.length_cons];lia,q',List.mem_cons_of_mem _ h3,h4⟩
theorem rX {ss:List Srt} {o:Srt} {qs:List Srt} (hok: ∀ s∈ss,s.ok) (ho:o∈ss) (hq: ∀ q∈qs,q∈ss) (hl:qs.length<=3) {t:Int×Str} (ht:t∈fb o qs):lQ (tgF t):=by
 unfold fb at ht
 rw [List.mem_append]at ht
 unfold tgF
 rcases ht with h | h
 ·obtain ⟨x,hx,rfl⟩:=List.mem_map.mp h
  rw [if_pos (show ((-1:Int),x).1<0 from (by decide:(-1:Int) <0))]
  exact (hok o ho).2.1 x (List.mem_append_right _ hx)
 ·obtain ⟨h1,h2,q,h3,h4⟩:=nO h
  rw [if_neg (by lia)]
  exact ⟨⟨h1,by lia⟩,(hok q (hq q h3)).2.1 _ (List.mem_append_left _ h4)⟩
theorem sI {ss:List Srt} {o:Srt} {qs:List Srt} {mode j:Int} (hok: ∀ s∈ss,s.ok) (ho:o∈ss) (hq: ∀ q∈qs,q∈ss) (hl:qs.length<=3) {f:Fm} (hf:f∈rds o qs mode j):lQ f:=by
 unfold rds at hf
 rw [List.mem_append,List.mem_append]at hf
 rcases hf with (h | h) | h
 ·obtain ⟨x,hx,rfl⟩:=List.mem_map.mp h
  exact (hok o ho).2.1 x (List.mem_append_left _ hx)
 ·obtain ⟨k,x,rfl,h1,h2,q,h3,h4⟩:=oj h
  exact ⟨⟨h1,by lia⟩,(hok q (hq q h3)).2.1 _ (List.mem_append_right _ h4)⟩
 ·by_cases c:mode>0
  ·rw [if_pos c]at h
   obtain ⟨t,ht,rfl⟩:=List.mem_map.mp h
   refine rX hok ho hq hl ?_
   unfold eU at ht
   by_cases c2:mode=2
   ·rw [if_pos c2]at ht;exact List.mem_of_mem_take ht
   ·rw [if_neg c2]at ht;exact ht
  ·rw [if_neg c]at h;cases h
theorem oA {α β:Type} {F:α->β->Prop}: ∀ {l:List α} {r:List β} {b:β},Paired F l r->b∈r-> ∃ a∈l,F a b:=fun {l r b} h m=>by
 obtain ⟨i,hi⟩:=List.getElem?_of_mem m
 obtain ⟨a,ha,f⟩:=aX h hi
 exact ⟨a,List.mem_of_getElem? ha,f⟩
theorem tY {H:Hp} {f:Fm} {v:V} (hl:lQ f) (h:uC H (fmV f) v):Rep H f v/\f.size=1:=by
 obtain ⟨a,rfl,ha⟩:=h
 cases f with
 | own x=>exact ⟨⟨a,rfl,ha⟩,rfl⟩
 | part k x=>exact ⟨⟨a,rfl,ha⟩,rfl⟩
 | num n=>exact hl.elim
 | bin op x y=>exact hl.elim
 | whn x y z=>exact hl.elim
theorem tX {ρ:Fm->Prop} {f:Fm} (hl:lQ f) (h:ρ f):f.wfp ρ:=by
 cases f with
 | own x=>exact ⟨hl,h⟩
 | part k x=>exact ⟨hl,h⟩
 | num n=>exact hl.elim
 | bin op x y=>exact hl.elim
 | whn x y z=>exact hl.elim
theorem uT {H:Hp} {ss:List Srt} {o:Srt} {qs:List Srt} {mode j:Int} {zs:List V} (hok: ∀ s∈ss,s.ok) (ho:o∈ss) (hq: ∀ q∈qs,q∈ss) (hl:qs.length<=3) (h:Tups H ((rds o qs mode j).map fmV) zs):LvsP (fun f=>f∈rds o qs mode j) H zs:=fun v hv=>by
 obtain ⟨ys,hy,hz⟩:=oA h hv
 obtain ⟨f,hf,rfl⟩:=List.mem_map.mp hy
 have lf:=sI hok ho hq hl hf
 obtain ⟨r,s⟩:=tY lf hz
 exact ⟨f,r,tX lf hf,s⟩
theorem uU {ss:List Srt} {o:Srt} {qs:List Srt} {mode j:Int} (hok: ∀ s∈ss,s.ok) (ho:o∈ss) (hq: ∀ q∈qs,q∈ss) (hl:qs.length<=3):(rds o qs mode j).length<=24:=by
 have h1:=fZ 0 qs fun s hs=>hok s (hq s hs)
 have h2:=(hok o ho).2.2.1
 have h3:=iW hok ho hq hl
 have h4:=jW o qs mode j
 unfold rds
 rw [List.length_append,List.length_append,List.length_map]
 by_cases c:mode>0
 ·rw [if_pos c,List.length_map];lia
 ·rw [if_neg c];show _+0<=24;lia
inductive fG  (vs:List V) (H:Hp) (Q:VK) (E_:XK):Prop
 | mk: ∀ tp sa pa ss nm o qs mode,(vs=[.ref tp,.ref sa,.str nm,.str (Srt.name o),.ref pa,.int mode])->(Tp H tp)->(SrtsAt H sa ss)->(dM ss)->(o∈ss)->(H pa=some (.tup (bc qs)))->((∀ q∈qs,q∈ss))->(qs.length<=3)->(∀ v rules H',RepF H' ⟨nm,o,qs,rules⟩ v->qd o qs mode rules->Kp tp H H'->Tp H' tp->Q v H')->fG vs H Q E_
theorem scLForm:aI ["tape","sorts","name","own","parts","mode","rules","targets","j","readings"] ["tape","sorts","name","own","parts","mode"] (aj og):=fsc
theorem tH (F:Fun K "_law_form" "_law_form" og f fd) (G:Gb mg) (GT:FnOk P w K mg base CX0 1 g gd ["sorts","own","parts"] fF) (bT:Binds K gd ["sorts","own","parts"] []) (kT:PySem.W.keepIn K (.ref g)=true) (mT:mg "_law_targets"=some (.ref g))
  (GR:FnOk P w K mg base CX0 2 f2 fd2 ["sorts","own","parts","mode","j"] fg) (bR:Binds K fd2 ["sorts","own","parts","mode","j"] []) (kR:PySem.W.keepIn K (.ref f2)=true) (mR:mg "_law_readings"=some (.ref f2))
  (GF: ∀ ρ,FnOk P w K mg base CX0 4 f3 fd3 ["tape","readings"] (eF ρ)) (bF:Binds K fd3 ["tape","readings"] []) (kF:PySem.W.keepIn K (.ref f3)=true) (mF:mg "_law_formula"=some (.ref f3)):
  FnOk P w K mg base CX0 5 f fd ["tape","sorts","name","own","parts","mode"] fG:=by
 have GF':FnOk P w K mg base CX0 4 f3 fd3 ["tape","readings"] (fun vs H Q E=> ∃ ρ,eF ρ vs H Q E):=⟨fun vs H Q E ⟨ρ,h⟩=>(GF ρ).len vs H Q E h,fun A outer s H args us vs Q E hr he hb hv ⟨ρ,h⟩=>(GF ρ).run A outer s H args us vs Q E hr he hb hv h⟩
 refine F.ok scLForm (fun vs H Q E h=>?_) (fun cdv A outer s H vs Q E hr h=>?_)
 ·obtain ⟨tp,sa,pa,ss,nm,o,qs,mode,rfl,_⟩:=h
  rfl
 obtain ⟨tp,sa,pa,ss,nm,o,qs,mode,rfl,hT,hsa,hok,ho,hpa,hqs,hql,q⟩:=h
 refine ⟨_,af (aq (i:=6) scLForm.nd rfl (Or.inl rfl) (bh ad))
  (af (aq (i:=7) scLForm.nd rfl (Or.inl rfl) (am GT (hr.mono (show 1<=4 by decide)) rfl mT kT bT .nil aD (aa (pv 1) (aa (pv 3) (aa (pv 4) ad)))))
  (af (cr PassesOwn.never rfl (bp rfl G.range (aa (ao (r:=cA K) aw rfl G.len PySem.boot_len (aa (pv 7) ad)) ad)) (aS (i:=8) scLForm.nd rfl (Or.inl rfl))
   (af (aq (i:=9) scLForm.nd rfl (Or.inl rfl) (am GR (hr.mono (show 2<=4 by decide)) rfl mR kR bR .nil aD (aa (pv 1) (aa (pv 3) (aa (pv 4) (aa (pv 5) (aa (pv 8) ad)))))))
   (ak (cx (dw PySem.F.plainAttrs_list PySem.F.slot_list_append PySem.F.type_list_append bK (pv 6) (aa
    (aZ (aa (au (r:=aV K) ax (au (r:=cD K) aW (pv 7) (pv 8) (fun _ _=>rfl)) ae (fun _ _=>rfl)) (aa (au (r:=aV K) ax (au (r:=cD K) aW (pv 7) (pv 8) (fun _ _=>rfl)) ae (fun _ _=>rfl))
     (aa (am GF' hr rfl mF kF bF .nil aD (aa (pv 0) (aa (pv 9) ad))) ad)))) ad))))))
  (ak (aF (aZ (aa (pv 2) (aa (pv 3) (aa (pv 4) (aa (bq (r:=dv K) bn rfl G.tuple (by decide +kernel) (aa (pv 6) ad)) ad))))))))),?_⟩
 refine ⟨(by show 0<=sizeLine;decide),fun rl hrl=>?_⟩
 have s0:=ag hrl (.lst [])
 have g0:(upd H rl (.lst [])) rl=some (.lst []):=ac
 have nrt:=dl hT hrl
 have t0:=hT.new (o:=.lst []) hrl
 generalize upd H rl (.lst [])=H0 at s0 g0 t0 ⊢
 refine ⟨_,rfl,_,rfl,_,rfl,sa,pa,ss,o,qs,rfl,hsa.mono (aG s0),hok,ho,s0 _ _ hpa,hqs,hql,fun tl zt H1 htl s1 gtl hTt=>?_⟩
 have S1:Same H H1:=s0.trans s1
 have grl1:=s1 _ _ g0
 have tt1:=t0.same s1
 have ntt:tl≠tp:=dl t0 htl
 have nrl:rl≠tl:=ah g0 htl
 have lt12:=iW hok.2.2.2.2 ho hqs hql
 have lzt:zt.length=(fb o qs).length:=by rw [<- hTt.len,List.length_map]
 refine ⟨_,rfl,tl,zt,rfl,.inl (SqL.of gtl),_,rfl,by lia,by lia,?_⟩
 refine cL (fun i σ H'=> ∃ o8 o9 rv rules,σ=[some (.ref tp),some (.ref sa),some (.str nm),some (.str o.name),some (.ref pa),some (.int mode),some (.ref rl),some (.ref tl),o8,o9]/\Kp tp H H'/\Tp H' tp/\H' tl=some (.lst zt)/\Tups H' ((fb o qs).map tgV) zt/\
   H' rl=some (.lst rv)/\RepRs H' rules rv/\rules.map (fun r=>(r.pl,r.word))=(fb o qs).take i/\ ∀ (j:Nat) r,rules[j]? =some r->r.fm.wfp (fun f=>f∈rds o qs mode j)/\r.fm.size<=15)
  ⟨none,none,[],[],rfl,Kp.refl.same S1,tt1,gtl,hTt,grl1,.nil,rfl,fun j r h=>by cases h⟩ ?_ ?_
 ·rintro i σ H2 hi ⟨o8,o9,rv,rules,rfl,k2,tt2,gtl2,hTt2,grl2,hRr,hmap,hfm⟩
  have hi':i< (fb o qs).length:=by lia
  have tk2:=k2.tk hT
  have lrules:rules.length=i:=by
   have:=congrArg List.length hmap
   rw [List.length_map,List.length_take]at this
   lia
  have lrv:rv.length=i:=by rw [<- hRr.len];exact lrules
  refine ⟨_,rfl,_,rfl,_,rfl,_,rfl,_,rfl,sa,pa,ss,o,qs,mode,0+ (i:Int),rfl,hsa.mono tk2,hok,ho,tk2 _ _ hpa,hqs,hql,by lia,by lia,fun rdl zr H3 hrdl s3 grdl hTr=>?_⟩
  have tt3:=tt2.same s3
  have grl3:=s3 _ _ grl2
  have gtl3:=s3 _ _ gtl2
  have hTt3:=hTt2.mono (aG s3)
  have nrdt:rdl≠tp:=dl tt2 hrdl
  obtain ⟨t,ht⟩: ∃ t,(fb o qs)[i]? =some t:=⟨(fb o qs)[i],List.getElem?_eq_getElem hi'⟩
  obtain ⟨x,hx⟩: ∃ x,zt[i]? =some x:=⟨zt[i]'(by lia),List.getElem?_eq_getElem (by lia)⟩
  obtain ⟨ys,hys,a,rfl,ha⟩:=aX hTt3 hx
  have eys:ys=tgV t:=by
   rw [List.getElem?_map,ht]at hys
   exact (Option.some.inj hys).symm
  subst eys
  have eat:atI zt (0+ (i:Int))=some (.ref a):=by
   rw [Int.zero_add]
   exact ay hx
  refine ⟨_,rfl,.inl ⟨rfl,_,SqL.of grl3⟩,?_⟩
  refine ⟨_,rfl,_,rfl,tl,_,_,_,rfl,rfl,SqL.of gtl3,eat,a,_,0,.int t.1,rfl,rfl,SqT.of ha,cT,?_⟩
  refine ⟨_,rfl,_,rfl,tl,_,_,_,rfl,rfl,SqL.of gtl3,eat,a,_,1,.str t.2,rfl,rfl,SqT.of ha,ay (j:=1) rfl,?_⟩
  have lzr:zr.length<=24:=by
   rw [<- hTr.len,List.length_map]
   exact uU hok.2.2.2.2 ho hqs hql
  refine ⟨_,rfl,_,rfl,fun fm=>fm∈rds o qs mode (0+ (i:Int)),tp,rdl,zr,rfl,tt3,nrdt,grdl,by lia,uT hok.2.2.2.2 ho hqs hql hTr,fun v fm H4 rp wf sz k4 tt4=>?_⟩
  have k24:Kp tp H2 H4:=(Kp.refl.same s3).trans k4
  have grl4:=k24 _ _ grl2 nrt
  have gtl4:=k24 _ _ gtl2 ntt
  refine ⟨(by show 3<=sizeLine;decide),fun p5 hp5=>?_⟩
  have s5:=ag hp5 (.tup [.int t.1,.str t.2,v])
  have g5:(upd H4 p5 (.tup [.int t.1,.str t.2,v])) p5=some (.tup [.int t.1,.str t.2,v]):=ac
  have tt5:=tt4.same s5
  generalize upd H4 p5 (.tup [.int t.1,.str t.2,v])=H5 at s5 g5 tt5 ⊢
  have k25:Kp tp H2 H5:=k24.same s5
  have grl5:=s5 _ _ grl4
  refine ⟨rl,rv,.ref p5,rfl,rfl,grl5,av (by lia),?_⟩
  have tk:TK H5 (upd H5 rl (.lst (rv++[.ref p5]))):=TK.lst grl5
  have tk26:TK H2 (upd H5 rl (.lst (rv++[.ref p5]))):=(k25.tk tt2).trans tk
  refine ⟨_,_,rv++[.ref p5],rules++[⟨t.1,t.2,fm⟩],rfl,?_,?_,?_,hTt2.mono tk26,ac,?_,?_,?_⟩
  ·intro b oo hb hbn
   rw [al (ah hb hrl)]
   exact k25 _ _ (k2 _ _ hb hbn) hbn
  ·obtain ⟨t9,e9⟩:=tt5
   exact ⟨t9,by rw [al (Ne.symm nrt)];exact e9⟩
  ·rw [al (Ne.symm nrl)]
   exact s5 _ _ gtl4
  ·exact Paired.snoc (hRr.mono tk26) ⟨p5,v,rfl,tk _ _ g5,rp.mono ((aG s5).trans tk)⟩
  ·rw [List.map_append,hmap,List.take_add_one,ht]
   rfl
  ·intro j r hj
   by_cases c:j<i
   ·rw [List.getElem?_append_left (by lia)]at hj
    exact hfm j r hj
   ·rw [List.getElem?_append_right (by lia),lrules]at hj
    have hji:j=i:=by
     by_cases c2:j=i
     ·exact c2
     ·have:j-i≠0:=by lia
      rw [List.getElem?_eq_none (by show 1<=j-i;lia)]at hj
      cases hj
    subst hji
    rw [Nat.sub_self]at hj
    have:r=⟨t.1,t.2,fm⟩:=(Option.some.inj hj).symm
    subst this
    rw [Int.zero_add]at wf
    exact ⟨wf,sz⟩
 ·rintro σ H2 ⟨o8,o9,rv,rules,rfl,k2,tt2,gtl2,hTt2,grl2,hRr,hmap,hfm⟩
  have tk2:=k2.tk hT
  rw [List.take_of_length_le (by lia)]at hmap
  refine ⟨_,rfl,_,rfl,_,rfl,_,rfl,rl,rv,rfl,.inl ⟨SqL.of grl2,fun p3 hp3=>?_⟩⟩
  have s3:=ag hp3 (.tup rv)
  have g3:(upd H2 p3 (.tup rv)) p3=some (.tup rv):=ac
  generalize upd H2 p3 (.tup rv)=H3 at s3 g3 ⊢
  refine ⟨(by show 4<=sizeLine;decide),fun p4 hp4=>?_⟩
  have s4:=ag hp4 (.tup [.str nm,.str o.name,.ref pa,.ref p3])
  refine q (.ref p4) rules _ ⟨p4,pa,p3,rv,rfl,ac,s4 _ _ (s3 _ _ (tk2 _ _ hpa)),s4 _ _ g3,hRr.mono (aG (s3.trans s4))⟩ ⟨hmap,hfm⟩ (k2.same (s3.trans s4)) (tt2.same (s3.trans s4))
structure Bk where
 wheel:Int
 sorts:List Srt
 forms:List Frm
noncomputable def RepFs (H:Hp) (fs:List Frm) (vs:List V):Prop:=Paired (RepF H) fs vs
theorem RepFs.mono {H H':Hp} (t:TK H H') {fs:List Frm} {vs:List V} (h:RepFs H fs vs):RepFs H' fs vs:=Paired.mapP h fun _ _ r=>r.mono t
theorem RepFs.len {H:Hp} {fs:List Frm} {vs:List V} (h:RepFs H fs vs):fs.length=vs.length:=Paired.length h
inductive RepB (H:Hp) (b:Bk) (v:V):Prop
 | mk: ∀ a sa fa fv,(v=.ref a)->(H a=some (.tup [.int b.wheel,.ref sa,.ref fa]))->(SrtsAt H sa b.sorts)->(H fa=some (.tup fv))->(RepFs H b.forms fv)->RepB H b v
theorem RepB.mono {H H':Hp} (t:TK H H') {b:Bk} {v:V}:RepB H b v->RepB H' b v:=fun ⟨a,sa,fa,fv,e,h1,h2,h3,h4⟩=>⟨a,sa,fa,fv,e,t _ _ h1,h2.mono t,t _ _ h3,h4.mono t⟩
noncomputable def vU (ss:List Srt) (mode:Int) (fr:Frm):Prop:=fr.own∈ss/\(∀ q∈fr.parts,q∈ss)/\fr.parts.length<=3/\qd fr.own fr.parts mode fr.rules
structure BookOk (b:Bk):Prop where
 so:dM b.sorts
 wh:2<=b.wheel/\b.wheel<=10^30
 few:b.forms.length<=10
 more:b.sorts.length<=b.forms.length
 nd:(b.forms.map Frm.name).Nodup
 wd: ∀ fr∈b.forms,bj fr.name=true
 fo: ∃ mode:Int,(mode=0\/mode=1\/mode=2)/\ ∀ fr∈b.forms,vU b.sorts mode fr
 nil: ∃ fr,fr∈b.forms/\fr.parts=[]
theorem SqL.keep {K:PySem.W.Frag} {H H':Hp} {a:Addr} {xs:List V} (h:SqL K H a xs) (k: ∀ o,H a=some o->H' a=some o):SqL K H' a xs:=by
 rcases h with (h | ⟨o,h⟩) | h
 ·exact .inl (.inl (k _ h))
 ·exact .inl (.inr ⟨o,k _ h⟩)
 ·exact .inr h
theorem ll {H:Hp} {ss:List Srt} {xs:List V} (h:RepSs H ss xs) {d:Int} (h0:0<=d) (h1:d<xs.length): ∃ q a b c,ss[d.toNat]? =some q/\atI xs d=some (.ref a)/\H a=some (.tup [.str (Srt.name q),b,c]):=by
 obtain ⟨x,ex,ex2⟩:=eQ h0 h1
 obtain ⟨q,hq,a,b,c,rfl,ha,_⟩:=aX h ex2
 exact ⟨q,a,.ref b,.ref c,hq,ex,ha⟩
inductive nZ (K:PySem.W.Frag) (vs:List V) (H:Hp) (Q:VK) (E_:XK):Prop
 | mk: ∀ (sc:Addr) (ns:List Int) (st:Int) (few:Bool),(vs=[.ref sc,.int st,.bl few])->(SqL K H sc (ns.map V.int))->(ns.length<=63)->(0<=st)->(st<900)->(∀ v bk H',RepB H' bk v->BookOk bk->Same H H'->Q v H')->nZ K vs H Q E_
noncomputable def vv (s:Stmt):List Stmt:=match s with
 | .For _ _ b _ _=>b
 | _=>[]
noncomputable def bkFor:List Stmt:=vv ((cz eV).getD 8 (.Pass ⟨0,0,0,0⟩))
inductive kE (H:Hp) (sc hd sa nl fl:Addr) (st wh mode gr mo:Int) (few:Bool) (ss:List Srt) (ws:List Str) (i:Nat) (σ:St) (H':Hp):Prop
 | mk: ∀ o11 o12 o13 o14 o15 fv frs,(σ=[some (.ref sc),some (.int st),some (.bl few),some (.ref hd),some (.int wh),some (.int mode),some (.int gr),some (.int mo),some (.ref sa),some (.ref nl),some (.ref fl),o11,o12,o13,o14,o15])->(Same H H')->(SrtsAt H' sa ss)->(H' nl=some (.lst (ws.map V.str)))->(H' fl=some (.lst fv))->(RepFs H' frs fv)->(frs.length=i)->(frs.map Frm.name=ws.take i)->((∀ fr∈frs,vU ss mode fr))->((∀ k,k<i->k<ss.length->(frs[k]?).map Frm.own=ss[k]?))->(∀ fr,frs[0]? =some fr->fr.parts=[])->kE H sc hd sa nl fl st wh mode gr mo few ss ws i σ H'
theorem si {α:Type} {l:List α} {x y:α} {j:Nat} (h:(l++[x])[j]? =some y):(j<l.length/\l[j]? =some y)\/(j=l.length/\y=x):=by
 by_cases c:j<l.length
 ·rw [List.getElem?_append_left c]at h
  exact .inl ⟨c,h⟩
 ·rw [List.getElem?_append_right (by lia)]at h
  by_cases c2:j-l.length=0
  ·rw [c2]at h
   exact .inr ⟨by lia,(Option.some.inj h).symm⟩
  ·rw [List.getElem?_eq_none (by show 1<=j-l.length;lia)]at h
   cases h
noncomputable abbrev iK:List Str:=["script","start","few","head","wheel","mode","grown","more","sorts","names","forms","k","tape","own","many","parts"]
theorem scBook:aI iK ["script","start","few"] (aj eV):=fsc
theorem uz {cdv:Value} {A:Around} {outer:List Env} {s:Shared} {H H0:Hp} {E:XK} (G:Gb mg)
  (GD:FnOk P w K mg base CX0 1 g gd ["tape","many"] cc) (bD:Binds K gd ["tape","many"] []) (kD:PySem.W.keepIn K (.ref g)=true) (mD:mg "_law_digit"=some (.ref g))
  (GF:FnOk P w K mg base CX0 5 f2 fd2 ["tape","sorts","name","own","parts","mode"] fG) (bF:Binds K fd2 ["tape","sorts","name","own","parts","mode"] []) (kF:PySem.W.keepIn K (.ref f2)=true) (mF:mg "_law_form"=some (.ref f2))
  (hr:Room 5 (cY CX0 P w K mg base iK "_law_book" (aj eV) f cdv A outer s H0 E).nox.A):
  ∃ t,PSs (cY CX0 P w K mg base iK "_law_book" (aj eV) f cdv A outer s H0 E).nox (bkFor.drop 5) t/\
   ∀ (sc hd sa nl fl:Addr) (st wh mode gr mo:Int) (few:Bool) (ss:List Srt) (ws:List Str),dM ss->ws.length=10->H fl=none->nl≠fl-> ∀ (D:eR) (i:Nat) (σ:St) (H2 H5:Hp) (tp:Addr) (o:Srt) (m:Int) (o15:Option V),kE H sc hd sa nl fl st wh mode gr mo few ss ws i σ H2->i<10->H2 tp=none->Same H2 H5->Tp H5 tp->o∈ss->(i<ss.length->ss[i]? =some o)->0<=m->m<=3->(i=0->m=0)->
    (∀ σ' H',kE H sc hd sa nl fl st wh mode gr mo few ss ws (i+1) σ' H'->D.nx σ' H')->
    t D [some (.ref sc),some (.int st),some (.bl few),some (.ref hd),some (.int wh),some (.int mode),some (.int gr),some (.int mo),some (.ref sa),some (.ref nl),some (.ref fl),some (.int (0+ (i:Int))),some (.ref tp),some (.str o.name),some (.int m),o15] H5:=by
 have hr1:=hr.mono (show 1<=5 by decide)
 refine ⟨_,af (aq (i:=15) scBook.nd rfl (Or.inl rfl) (bq (r:=dv K) bn rfl G.tuple (by decide +kernel) (aa
   (cW (sc0:=aj eV) (N0:=iK) (ys:=["sorts","tape"]) (fr:=[8,12]) rfl (bp rfl G.range (aa (pv 14) ad)) rfl rfl
    cok
    (fun C s H ex=>au (r:=aV K) ax (au (r:=aV K) ax (pv 1) (am GD hr1 rfl mD kD bD .nil aD (aa (pv 2) (aa (ao (r:=cA K) aw rfl G.len PySem.boot_len (aa (pv 1) ad)) ad))) (fun _ _=>rfl)) ae (fun _ _=>rfl))) ad)))
  (ak (cx (dw PySem.F.plainAttrs_list PySem.F.slot_list_append PySem.F.type_list_append bK (pv 10) (aa
   (am GF hr rfl mF kF bF .nil aD (aa (pv 12) (aa (pv 8) (aa (au (r:=cD K) aW (pv 9) (pv 11) (fun _ _=>rfl)) (aa (pv 13) (aa (pv 15) (aa (pv 5) ad))))))) ad)))),?_⟩
 rintro sc hd sa nl fl st wh mode gr mo few ss ws hok hws hfl0 hnf D i σ H2 H5 tp o m o15 ⟨o11,o12,o13,o14,o15',fv,frs,rfl,sm,hsa,gnl,gfl,hF,hfl,hnm,hfok,hown,hnil⟩ hi htp s5 tt5 ho hoi hm0 hm3 hmi hD
 obtain ⟨xs,gsa,hR⟩:=hsa.mono (aG s5)
 have lxs:=hR.len
 refine ⟨_,rfl,m,rfl,by lia,by lia,?_⟩
 refine fM (n:=m.toNat) (R:=fun i v=>v=.int (0+i)) (by lia) jv fC iS
  (fun p n zs H'=>Kp tp H5 H'/\Tp H' tp/\H' p=some (.lst zs)/\p≠tp/\ ∃ qs,zs=bc qs/\qs.length=n/\ ∀ q∈qs,q∈ss) ?_ ?_ ?_ ?_
 ·intro p hp
  exact ⟨Kp.refl.new hp,tt5.new hp,ac,dl tt5 hp,[],rfl,rfl,fun q h=>by cases h⟩
 ·rintro p n zs H' ⟨_,_,gp,_,qs,rfl,hl,_⟩
  exact ⟨gp,by unfold bc;rw [List.length_map];exact hl⟩
 ·rintro p n zs H' v k hp hn rfl ⟨k6,tt6,gp,hpn,qs,rfl,hl,hqs⟩ hk
  have tk6:=k6.tk tt5
  have h1:=hok.1
  refine ⟨_,rfl,_,rfl,_,rfl,sa,_,rfl,.inr (SqT.of (tk6 _ _ gsa)),tp,_,rfl,tt6,by lia,by have:=hok.2.1;lia,fun d t hd0 hd1=>?_⟩
  obtain ⟨q,a,b,c,hq,eat,ha⟩:=ll hR hd0 hd1
  have k7:Kp tp H5 (upd H' tp (.lst [.int t])):=k6.trans Kp.tape
  have tk7:=k7.tk tt5
  refine ⟨sa,xs,d,.ref a,rfl,rfl,SqT.of (tk7 _ _ gsa),eat,a,_,0,_,rfl,rfl,SqT.of (tk7 _ _ ha),cT,?_⟩
  have gp7:(upd H' tp (.lst [.int t])) p=some (.lst (bc qs)):=by rw [al hpn];exact gp
  refine hk _ _ gp7 ⟨?_,⟨t,?_⟩,ac,hpn,qs++[q],?_,?_,?_⟩
  ·intro b' o' hb hbn
   rw [al (ah hb hp)]
   exact k7 _ _ hb hbn
  ·rw [al (Ne.symm hpn),ac]
  ·unfold bc;rw [List.map_append];rfl
  ·rw [List.length_append,hl];rfl
  ·intro x hx
   rw [List.mem_append,List.mem_singleton]at hx
   rcases hx with h | rfl
   ·exact hqs x h
   ·exact List.mem_of_getElem? hq
 ·rintro p zs H6 hp ⟨k6,tt6,gp,hpn,qs,rfl,hl,hqs⟩
  refine ⟨p,_,rfl,.inl ⟨SqL.of gp,fun pa hpa=>?_⟩⟩
  have s7:=ag hpa (.tup (bc qs))
  have g7:(upd H6 pa (.tup (bc qs))) pa=some (.tup (bc qs)):=ac
  have tt7:=tt6.same s7
  generalize upd H6 pa (.tup (bc qs))=H7 at s7 g7 tt7 ⊢
  have k27:Kp tp H2 H7:=((Kp.refl.same s5).trans k6).same s7
  have S27:Same H2 H7:=fun b oo h=>k27 b oo h (ah h htp)
  have gfl7:=S27 _ _ gfl
  obtain ⟨nm,enm⟩: ∃ nm,ws[i]? =some nm:=⟨ws[i]'(by lia),List.getElem?_eq_getElem (by lia)⟩
  have eat:atI (ws.map V.str) (0+ (i:Int))=some (V.str nm):=by
   rw [Int.zero_add]
   exact ay (by rw [List.getElem?_map,enm];rfl)
  refine ⟨_,rfl,.inl ⟨rfl,_,SqL.of gfl7⟩,?_⟩
  refine ⟨_,rfl,_,rfl,_,rfl,_,rfl,nl,_,_,_,rfl,rfl,SqL.of (S27 _ _ gnl),eat,_,rfl,_,rfl,_,rfl,tp,sa,pa,ss,nm,o,qs,mode,rfl,tt7,hsa.mono (aG S27),hok,ho,g7,hqs,by lia,fun v rules H8 rf rok k8 tt8=>?_⟩
  have S28:Same H2 H8:=fun b oo h=>k8 b oo (S27 b oo h) (ah h htp)
  have gfl8:=S28 _ _ gfl
  have lfv:=hF.len
  refine ⟨fl,fv,v,rfl,rfl,gfl8,av (by lia),?_⟩
  have tk:TK H8 (upd H8 fl (.lst (fv++[v]))):=TK.lst gfl8
  have tk2:TK H2 (upd H8 fl (.lst (fv++[v]))):=(aG S28).trans tk
  refine hD _ _ ⟨_,_,_,_,_,fv++[v],frs++[⟨nm,o,qs,rules⟩],rfl,?_,hsa.mono tk2,?_,ac,?_,?_,?_,?_,?_,?_⟩
  ·intro b oo h
   rw [al (ah h hfl0)]
   exact S28 _ _ (sm _ _ h)
  ·rw [al hnf]
   exact S28 _ _ gnl
  ·exact Paired.snoc (hF.mono tk2) (rf.mono tk)
  ·rw [List.length_append,hfl];rfl
  ·rw [List.map_append,hnm,List.take_add_one,enm];rfl
  ·intro fr hfr
   rw [List.mem_append,List.mem_singleton]at hfr
   rcases hfr with h | rfl
   ·exact hfok fr h
   ·exact ⟨ho,hqs,by show qs.length<=3;lia,rok⟩
  ·intro k hk hks
   by_cases c:k<i
   ·rw [List.getElem?_append_left (by lia)]
    exact hown k c hks
   ·have:k=i:=by lia
    subst this
    rw [List.getElem?_append_right (by lia),hfl,Nat.sub_self]
    show some o=_
    rw [hoi hks]
  ·intro fr hfr
   rcases si hfr with ⟨h,e⟩ | ⟨h,e⟩
   ·exact hnil fr e
   ·subst e
    have:qs.length=0:=by rw [hl,hmi (by lia)];rfl
    exact List.eq_nil_of_length_eq_zero this
theorem vg {d:Int} (h0:0<=d) (h1:d<5): ∃ m:Int,atI [V.int 2,.int 1,.int 3,.int 2,.int 0] d=some (.int m)/\0<=m/\m<=3:=by
 have h5:d=0\/d=1\/d=2\/d=3\/d=4:=by lia
 rcases h5 with h | h | h | h | h <;> subst h <;> exact ⟨_,rfl,by decide,by decide⟩
theorem vf {d:Int} (h0:0<=d) (h1:d<5): ∃ m:Int,atI [V.int 0,.int 0,.int 1,.int 2,.int 2] d=some (.int m)/\(m=0\/m=1\/m=2):=by
 have h5:d=0\/d=1\/d=2\/d=3\/d=4:=by lia
 rcases h5 with h | h | h | h | h <;> subst h <;> exact ⟨_,rfl,by decide⟩
theorem vd {d:Int} (h0:0<=d) (h1:d<3): ∃ m:Int,atI [V.int 3,.int 4,.int 7] d=some (.int m)/\3<=m/\m<=7:=by
 have h5:d=0\/d=1\/d=2:=by lia
 rcases h5 with h | h | h <;> subst h <;> exact ⟨_,rfl,by decide,by decide⟩
theorem rN {z d:Int} (hz0:0<=z) (hz1:z<1000) (h0:0<=d) (h1:d<6): ∃ m:Int,atI [V.int 2,.int 7,.int 10,.int 97,.int (10^ (30:Int).toNat),.int (2+z)] d=some (.int m)/\2<=m/\m<=10^30:=by
 have e:(10:Int) ^ (30:Int).toNat=10^30:=rfl
 have b:(2000:Int)<=10^30:=by decide +kernel
 have h5:d=0\/d=1\/d=2\/d=3\/d=4\/d=5:=by lia
 rcases h5 with h | h | h | h | h | h <;> subst h
 ·exact ⟨2,rfl,by lia,by lia⟩
 ·exact ⟨7,rfl,by lia,by lia⟩
 ·exact ⟨10,rfl,by lia,by lia⟩
 ·exact ⟨97,rfl,by lia,by lia⟩
 ·exact ⟨_,rfl,by rw [e];lia,by rw [e];lia⟩
 ·exact ⟨_,rfl,by lia,by lia⟩
theorem uA {cdv:Value} {A:Around} {outer:List Env} {s:Shared} {H H0:Hp} {E:XK} (G:Gb mg)
  (GD:FnOk P w K mg base CX0 1 g gd ["tape","many"] cc) (bD:Binds K gd ["tape","many"] []) (kD:PySem.W.keepIn K (.ref g)=true) (mD:mg "_law_digit"=some (.ref g))
  (GF:FnOk P w K mg base CX0 5 f2 fd2 ["tape","sorts","name","own","parts","mode"] fG) (bF:Binds K fd2 ["tape","sorts","name","own","parts","mode"] []) (kF:PySem.W.keepIn K (.ref f2)=true) (mF:mg "_law_form"=some (.ref f2))
  (hr:Room 5 (cY CX0 P w K mg base iK "_law_book" (aj eV) f cdv A outer s H0 E).nox.A):
  ∃ t,PSs (cY CX0 P w K mg base iK "_law_book" (aj eV) f cdv A outer s H0 E).nox (bkFor.drop 3) t/\
   ∀ (sc hd sa nl fl:Addr) (st wh mode gr mo:Int) (few:Bool) (ss:List Srt) (ws:List Str),dM ss->ws.length=10->H fl=none->nl≠fl-> ∀ (D:eR) (i:Nat) (σ:St) (H2 H5:Hp) (tp:Addr) (o:Srt) (o14 o15:Option V),kE H sc hd sa nl fl st wh mode gr mo few ss ws i σ H2->i<10->H2 tp=none->Same H2 H5->Tp H5 tp->o∈ss->(i<ss.length->ss[i]? =some o)->
    (∀ σ' H',kE H sc hd sa nl fl st wh mode gr mo few ss ws (i+1) σ' H'->D.nx σ' H')->
    t D [some (.ref sc),some (.int st),some (.bl few),some (.ref hd),some (.int wh),some (.int mode),some (.int gr),some (.int mo),some (.ref sa),some (.ref nl),some (.ref fl),some (.int (0+ (i:Int))),some (.ref tp),some (.str o.name),o14,o15] H5:=by
 have hr1:=hr.mono (show 1<=5 by decide)
 obtain ⟨t2,ht2,hread2⟩:=uz (cdv:=cdv) (A:=A) (outer:=outer) (s:=s) (H:=H) (H0:=H0) (E:=E) (f:=f) G GD bD kD mD GF bF kF mF hr
 refine ⟨_,af (aq (i:=14) scBook.nd rfl (Or.inl rfl) (au (r:=cD K) aW (bh (aa ae (aa ae (aa ae (aa ae (aa ae ad)))))) (am GD hr1 rfl mD kD bD .nil aD (aa (pv 12) (aa ae ad))) (fun _ _=>rfl)))
  (af (a7 (PW.pt (fQ (aA bV (pv 11) ae (aE _)) (ft (PW.pt (ge (aA bV (pv 6) ae (aE _)) (eG (aA gX (pv 11) (ao (r:=cA K) aw rfl G.len PySem.boot_len (aa (pv 8) ad)) (aE _))))))))
   (ak (aq (i:=14) scBook.nd rfl (Or.inl rfl) ae)) aH) ht2),?_⟩
 intro sc hd sa nl fl st wh mode gr mo few ss ws hok hws hfl0 hnf D i σ H2 H5 tp o o14 o15 hB hi htp s5 tt5 ho hoi hD
 obtain ⟨xs,gsa,hR⟩:SrtsAt H5 sa ss:=by
  obtain ⟨_,_,_,_,_,_,_,_,_,h,_⟩:=hB
  exact h.mono (aG s5)
 refine ⟨(by show 5<=sizeLine;decide),fun p hp=>?_⟩
 have npt:=dl tt5 hp
 refine ⟨_,rfl,tp,5,rfl,tt5.new hp,by decide,by decide,fun d t hd0 hd1=>?_⟩
 obtain ⟨m,em,hm0,hm3⟩:=vg hd0 hd1
 refine ⟨p,_,d,.int m,rfl,rfl,SqL.of (by rw [al npt];exact ac),em,?_⟩
 have k6:Kp tp H5 (upd (upd H5 p (.lst [.int 2,.int 1,.int 3,.int 2,.int 0])) tp (.lst [.int t])):=(Kp.refl.new hp).trans Kp.tape
 have tt6:Tp (upd (upd H5 p (.lst [.int 2,.int 1,.int 3,.int 2,.int 0])) tp (.lst [.int t])) tp:=⟨t,ac⟩
 generalize upd (upd H5 p (.lst [.int 2,.int 1,.int 3,.int 2,.int 0])) tp (.lst [.int t])=H6 at k6 tt6 ⊢
 have s6:Same H2 H6:=fun b oo h=>k6 b oo (s5 b oo h) (ah h htp)
 have gsa6:=k6.tk tt5 _ _ gsa
 refine ⟨_,rfl,rfl,_,rfl,?_⟩
 refine bE (fun c=>cF ?_) (fun c=>?_)
 ·exact hread2 sc hd sa nl fl st wh mode gr mo few ss ws hok hws hfl0 hnf D i σ H2 H6 tp o 0 o15 hB hi htp s6 tt6 ho hoi (by decide) (by decide) (fun _=>rfl) hD
 have hne:i=0->m=0:=fun e=>by
  subst e
  exact absurd (decide_eq_true rfl) c
 refine ⟨_,rfl,rfl,_,rfl,?_⟩
 refine bE (fun c2=>?_) (fun c2=>cy ?_)
 ·refine ⟨_,rfl,_,rfl,sa,xs,rfl,.inr (SqT.of gsa6),_,_,rfl,rfl,_,rfl,?_⟩
  refine bE (fun c3=>?_) (fun c3=>?_)
  ·exact hread2 sc hd sa nl fl st wh mode gr mo few ss ws hok hws hfl0 hnf D i σ H2 H6 tp o 0 o15 hB hi htp s6 tt6 ho hoi (by decide) (by decide) (fun _=>rfl) hD
  ·exact hread2 sc hd sa nl fl st wh mode gr mo few ss ws hok hws hfl0 hnf D i σ H2 H6 tp o m o15 hB hi htp s6 tt6 ho hoi hm0 hm3 hne hD
 ·exact hread2 sc hd sa nl fl st wh mode gr mo few ss ws hok hws hfl0 hnf D i σ H2 H6 tp o m o15 hB hi htp s6 tt6 ho hoi hm0 hm3 hne hD
theorem vH {cdv:Value} {A:Around} {outer:List Env} {s:Shared} {H:Hp} {Q:VK} {E:XK} {sc:Addr} {ns:List Int} {st:Int} {few:Bool} (G:Gb mg)
  (GD:FnOk P w K mg base CX0 1 g gd ["tape","many"] cc) (bD:Binds K gd ["tape","many"] []) (kD:PySem.W.keepIn K (.ref g)=true) (mD:mg "_law_digit"=some (.ref g))
  (GF:FnOk P w K mg base CX0 5 f2 fd2 ["tape","sorts","name","own","parts","mode"] fG) (bF:Binds K fd2 ["tape","sorts","name","own","parts","mode"] []) (kF:PySem.W.keepIn K (.ref f2)=true) (mF:mg "_law_form"=some (.ref f2))
  (GT:FnOk P w K mg base CX0 2 f3 fd3 ["script","k"] (ig K)) (bT:Binds K fd3 ["script","k"] []) (kT:PySem.W.keepIn K (.ref f3)=true) (mT:mg "_law_tape"=some (.ref f3))
  (hS:SqL K H sc (ns.map V.int)) (hns:ns.length<=63) (hst0:0<=st) (hst1:st<900) (q: ∀ v bk H',RepB H' bk v->BookOk bk->Same H H'->Q v H')
  (hr:Room 5 (cY CX0 P w K mg base iK "_law_book" (aj eV) f cdv A outer s H E).nox.A):
  ∃ t,PSs (cY CX0 P w K mg base iK "_law_book" (aj eV) f cdv A outer s H E).nox ((cz eV).drop 8) t/\
   ∀ (hd sa nl fl:Addr) (wh mode gr mo:Int) (ss:List Srt) (ws:List Str) (H5:Hp),dM ss->NamesAre 10 ws->2<=wh->wh<=10^30->(mode=0\/mode=1\/mode=2)->0<=mo->mo<=7->H fl=none->nl≠fl->H fl=none->
    Same H H5->SrtsAt H5 sa ss->H5 nl=some (.lst (ws.map V.str))->H5 fl=some (.lst [])->
    t {nx:=fun _ H'=>Q .non H',rt:=Q} [some (.ref sc),some (.int st),some (.bl few),some (.ref hd),some (.int wh),some (.int mode),some (.int gr),some (.int mo),some (.ref sa),some (.ref nl),some (.ref fl),none,none,none,none,none] H5:=by
 have hr1:=hr.mono (show 1<=5 by decide)
 have hr2:=hr.mono (show 2<=5 by decide)
 obtain ⟨t1,ht1,hread1⟩:=uA (cdv:=cdv) (A:=A) (outer:=outer) (s:=s) (H:=H) (H0:=H) (E:=E) (f:=f) G GD bD kD mD GF bF kF mF hr
 refine ⟨_,af (cr PassesOwn.never rfl (bp rfl G.range (aa (ao (iz rfl) rfl G.min (by decide +kernel) (aa ae (aa (ar aU (ao (r:=cA K) aw rfl G.len PySem.boot_len (aa (pv 8) ad)) (pv 7)) ad))) ad)) (aS (i:=11) scBook.nd rfl (Or.inl rfl))
   (af (aq (i:=12) scBook.nd rfl (Or.inr rfl) (am GT hr2 rfl mT kT bT .nil aD (aa (pv 0) (aa (ar aU (ar aU (pv 1) ae) (pv 11)) ad))))
   (af (aq (i:=13) scBook.nd rfl (Or.inl rfl) (au (r:=aV K) ax (au (r:=aV K) ax (pv 8) (ar cv (pv 11) (ao (r:=cA K) aw rfl G.len PySem.boot_len (aa (pv 8) ad))) (fun _ _=>rfl)) ae (fun _ _=>rfl)))
   (af (a7 (aA xH (pv 11) (ao (r:=cA K) aw rfl G.len PySem.boot_len (aa (pv 8) ad)) (aE _))
    (ak (aq (i:=13) scBook.nd rfl (Or.inl rfl) (au (r:=aV K) ax (au (r:=aV K) ax (pv 8) (am GD hr1 rfl mD kD bD .nil aD (aa (pv 12) (aa (ao (r:=cA K) aw rfl G.len PySem.boot_len (aa (pv 8) ad)) ad))) (fun _ _=>rfl)) ae (fun _ _=>rfl)))) aH) ht1))))
  (ak (aF (aZ (aa (pv 4) (aa (pv 8) (aa (bq (r:=dv K) bn rfl G.tuple (by decide +kernel) (aa (pv 10) ad)) ad)))))),?_⟩
 intro hd sa nl fl wh mode gr mo ss ws H5 hok hN hw2 hw3 hmode hmo0 hmo7 hfl0 hnf _ S5 hsa gnl gfl
 obtain ⟨nLen,nNd,nWd⟩:=hN.ok (by decide)
 obtain ⟨xs,gsa,hR⟩:=hsa
 have lxs:=hR.len
 have l1:=hok.1
 have l4:=hok.2.1
 obtain ⟨n,en,hn1,hn2⟩: ∃ n:Int,(if (xs.length:Int) +mo<10 then (xs.length:Int) +mo else 10)=n/\(xs.length:Int)<=n/\n<=10:=⟨_,rfl,by split <;> lia,by split <;> lia⟩
 refine ⟨_,rfl,sa,xs,rfl,.inr (SqT.of gsa),_,rfl,_,_,rfl,rfl,_,_,rfl,?_⟩
 rw [en]
 refine ⟨n,rfl,by lia,by lia,?_⟩
 refine cL (fun i σ H'=>kE H sc hd sa nl fl st wh mode gr mo few ss ws i σ H')
  ⟨none,none,none,none,none,[],[],rfl,S5,⟨xs,gsa,hR⟩,gnl,gfl,.nil,rfl,rfl,fun _ h=>(by cases h),fun k h=>(by lia),fun fr h=>(by cases h)⟩ ?_ ?_
 ·intro i σ H6 hi hB
  have hB':=hB
  obtain ⟨o11,o12,o13,o14,o15,fv,frs,rfl,S6,hsa6,gnl6,gfl6,hF6,_⟩:=hB'
  obtain ⟨xs6,gsa6,hR6⟩:=hsa6
  have lx6:=hR6.len
  refine ⟨_,rfl,_,rfl,_,_,rfl,rfl,_,rfl,_,_,rfl,rfl,sc,ns,_,rfl,SqL.keep hS (fun oo h=>S6 _ _ h),hns,by lia,by lia,fun tp t0 htp=>?_⟩
  have s7:=ag htp (.lst [.int t0])
  have tt7:Tp (upd H6 tp (.lst [.int t0])) tp:=⟨t0,ac⟩
  generalize upd H6 tp (.lst [.int t0])=H7 at s7 tt7 ⊢
  have gsa7:=s7 _ _ gsa6
  have hR7:=hR6.mono (aG s7)
  have hm0:0<=(0+ (i:Int)) % (xs6.length:Int):=Int.emod_nonneg _ (by lia)
  have hm1:(0+ (i:Int)) % (xs6.length:Int) <xs6.length:=Int.emod_lt_of_pos _ (by lia)
  obtain ⟨o,a,b,c,ho,eat,ha⟩:=ll hR7 hm0 hm1
  refine ⟨_,rfl,_,rfl,_,rfl,sa,xs6,rfl,.inr (SqT.of gsa7),_,_,rfl,rfl,(by show (0:Int) <xs6.length;lia),sa,xs6,_,.ref a,rfl,rfl,SqT.of gsa7,eat,a,_,0,_,rfl,rfl,SqT.of ha,cT,?_⟩
  refine ⟨_,rfl,_,rfl,sa,xs6,rfl,.inr (SqT.of gsa7),_,_,rfl,rfl,_,rfl,?_⟩
  refine bE (fun c=>?_) (fun c=>?_)
  ·have c':(xs6.length:Int)<=0+ (i:Int):=of_decide_eq_true c
   refine ⟨_,rfl,_,rfl,_,rfl,sa,xs6,rfl,.inr (SqT.of gsa7),tp,_,rfl,tt7,by lia,by lia,fun d t1 hd0 hd1=>?_⟩
   have k8:Kp tp H7 (upd H7 tp (.lst [.int t1])):=Kp.tape
   have tt8:Tp (upd H7 tp (.lst [.int t1])) tp:=⟨t1,ac⟩
   generalize upd H7 tp (.lst [.int t1])=H8 at k8 tt8 ⊢
   have tk8:=k8.tk tt7
   obtain ⟨o2,a2,b2,c2,ho2,eat2,ha2⟩:=ll hR7 hd0 hd1
   refine ⟨sa,xs6,d,.ref a2,rfl,rfl,SqT.of (tk8 _ _ gsa7),eat2,a2,_,0,_,rfl,rfl,SqT.of (tk8 _ _ ha2),cT,?_⟩
   exact hread1 sc hd sa nl fl st wh mode gr mo few ss ws hok nLen hfl0 hnf _ i _ H6 H8 tp o2 _ _ hB (by lia) htp (fun y oo h=>k8 y oo (s7 y oo h) (ah h htp)) tt8 (List.mem_of_getElem? ho2) (fun h=>by lia) (fun σ' H' h=>h)
  ·have c': ¬ (xs6.length:Int)<=0+ (i:Int):=fun e=>c (decide_eq_true e)
   have ei:((0+ (i:Int)) % (xs6.length:Int)).toNat=i:=by
    rw [Int.emod_eq_of_lt (by lia) (by lia)]
    lia
   rw [ei]at ho
   exact hread1 sc hd sa nl fl st wh mode gr mo few ss ws hok nLen hfl0 hnf _ i _ H6 H7 tp o _ _ hB (by lia) htp s7 tt7 (List.mem_of_getElem? ho) (fun _=>ho) (fun σ' H' h=>h)
 ·rintro σ H6 ⟨o11,o12,o13,o14,o15,fv,frs,rfl,S6,hsa6,gnl6,gfl6,hF6,lfr,hnm,hfok,hown,hnil⟩
  refine ⟨_,rfl,_,rfl,_,rfl,fl,fv,rfl,.inl ⟨SqL.of gfl6,fun fa hfa=>?_⟩⟩
  have s7:=ag hfa (.tup fv)
  have g7:(upd H6 fa (.tup fv)) fa=some (.tup fv):=ac
  generalize upd H6 fa (.tup fv)=H7 at s7 g7 ⊢
  refine ⟨(by show 3<=sizeLine;decide),fun pb hpb=>?_⟩
  have s8:=ag hpb (.tup [.int wh,.ref sa,.ref fa])
  have tk68:=aG (s7.trans s8)
  refine q (.ref pb) ⟨wh,ss,frs⟩ _ ⟨pb,sa,fa,fv,rfl,ac,hsa6.mono tk68,s8 _ _ g7,hF6.mono tk68⟩ ?_ (S6.trans (s7.trans s8))
  refine ⟨hok,⟨hw2,hw3⟩,?_,?_,?_,?_,⟨mode,hmode,hfok⟩,?_⟩
  ·show frs.length<=10
   lia
  ·show ss.length<=frs.length
   lia
  ·show (frs.map Frm.name).Nodup
   rw [hnm]
   exact nNd.sublist (List.take_sublist _ _)
  ·intro fr hfr
   refine nWd _ (List.mem_of_mem_take (i:=n.toNat) ?_)
   rw [<- hnm]
   exact List.mem_map_of_mem hfr
  ·have l0:0<frs.length:=by have:=hok.1;lia
   exact ⟨frs[0],List.getElem_mem l0,hnil _ (List.getElem?_eq_getElem l0)⟩
theorem va (F:Fun K "_law_book" "_law_book" eV f fd) (G:Gb mg)
  (GD:FnOk P w K mg base CX0 1 g gd ["tape","many"] cc) (bD:Binds K gd ["tape","many"] []) (kD:PySem.W.keepIn K (.ref g)=true) (mD:mg "_law_digit"=some (.ref g))
  (GF:FnOk P w K mg base CX0 5 f2 fd2 ["tape","sorts","name","own","parts","mode"] fG) (bF:Binds K fd2 ["tape","sorts","name","own","parts","mode"] []) (kF:PySem.W.keepIn K (.ref f2)=true) (mF:mg "_law_form"=some (.ref f2))
  (GT:FnOk P w K mg base CX0 2 f3 fd3 ["script","k"] (ig K)) (bT:Binds K fd3 ["script","k"] []) (kT:PySem.W.keepIn K (.ref f3)=true) (mT:mg "_law_tape"=some (.ref f3))
  (GS:FnOk P w K mg base CX0 3 f4 fd4 ["tape","few"] kZ) (bS:Binds K fd4 ["tape","few"] []) (kS:PySem.W.keepIn K (.ref f4)=true) (mS:mg "_law_sorts"=some (.ref f4))
  (GN:FnOk P w K mg base CX0 2 f5 fd5 ["tape","many"] gG) (bN:Binds K fd5 ["tape","many"] []) (kN:PySem.W.keepIn K (.ref f5)=true) (mN:mg "_law_names"=some (.ref f5)):
  FnOk P w K mg base CX0 6 f fd ["script","start","few"] (nZ K):=by
 refine F.ok scBook (fun vs H Q E h=>?_) (fun cdv A outer s H vs Q E hr h=>?_)
 ·obtain ⟨sc,ns,st,few,rfl,_⟩:=h
  rfl
 obtain ⟨sc,ns,st,few,rfl,hS,hns,hst0,hst1,q⟩:=h
 have hr1:=hr.mono (show 1<=5 by decide)
 have hr2:=hr.mono (show 2<=5 by decide)
 have hr3:=hr.mono (show 3<=5 by decide)
 obtain ⟨t,ht,hread⟩:=vH (cdv:=cdv) (A:=A) (outer:=outer) (s:=s) (H:=H) (Q:=Q) (E:=E) (f:=f) (few:=few) G GD bD kD mD GF bF kF mF GT bT kT mT hS hns hst0 hst1 q hr
 refine ⟨_,af (aq (i:=3) scBook.nd rfl (Or.inl rfl) (am GT hr2 rfl mT kT bT .nil aD (pac (pv 0) (pac (pv 1) ad))))
  (af (aq (i:=4) scBook.nd rfl (Or.inl rfl) (au (r:=cD K) aW (bh (pac ae (pac ae (pac ae (pac ae (pac (ar wF ae ae) (pac (ar aU ae (am GD hr1 rfl mD kD bD .nil aD (pac (pv 3) (pac ae ad)))) ad)))))))
   (am GD hr1 rfl mD kD bD .nil aD (pac (pv 3) (pac ae ad))) (fun _ _=>rfl)))
  (af (aq (i:=5) scBook.nd rfl (Or.inl rfl) (au (r:=cD K) aW (bh (pac ae (pac ae (pac ae (pac ae (pac ae ad)))))) (am GD hr1 rfl mD kD bD .nil aD (pac (pv 3) (pac ae ad))) (fun _ _=>rfl)))
  (af (aq (i:=6) scBook.nd rfl (Or.inl rfl) (am GD hr1 rfl mD kD bD .nil aD (pac (pv 3) (pac ae ad))))
  (af (aq (i:=7) scBook.nd rfl (Or.inl rfl) (am GD hr1 rfl mD kD bD .nil aD (pac (pv 3) (pac (au (r:=cD K) aW (bh (pac ae (pac ae (pac ae ad)))) (am GD hr1 rfl mD kD bD .nil aD (pac (pv 3) (pac ae ad))) (fun _ _=>rfl)) ad))))
  (af (aq (i:=8) scBook.nd rfl (Or.inr rfl) (am GS hr3 rfl mS kS bS .nil aD (pac (pv 3) (pac (pv 2) ad))))
  (af (aq (i:=9) scBook.nd rfl (Or.inl rfl) (am GN hr2 rfl mN kN bN .nil aD (pac (pv 3) (pac ae ad))))
  (af (aq (i:=10) scBook.nd rfl (Or.inl rfl) (bh ad)) ht))))))),?_⟩
 refine ⟨_,rfl,_,rfl,sc,ns,st,rfl,hS,hns,hst0,by lia,fun hd t0 hhd=>?_⟩
 have S1:=ag hhd (.lst [.int t0])
 have tt1:Tp (upd H hd (.lst [.int t0])) hd:=⟨t0,ac⟩
 generalize upd H hd (.lst [.int t0])=H1 at S1 tt1 ⊢
 refine ⟨10,30,rfl,rfl,⟨by decide,by decide,by decide +kernel⟩,?_⟩
 refine ⟨_,rfl,hd,1000,rfl,tt1,by decide,by decide,fun z t1 hz0 hz1=>⟨2,z,rfl,rfl,?_⟩⟩
 have k2:Kp hd H1 (upd H1 hd (.lst [.int t1])):=Kp.tape
 have tt2:Tp (upd H1 hd (.lst [.int t1])) hd:=⟨t1,ac⟩
 generalize upd H1 hd (.lst [.int t1])=H2 at k2 tt2 ⊢
 refine ⟨(by show 6<=sizeLine;decide),fun p hp=>?_⟩
 have np:=dl tt2 hp
 refine ⟨_,rfl,hd,6,rfl,tt2.new hp,by decide,by decide,fun d t2 hd0 hd1=>?_⟩
 obtain ⟨wh,ewh,hw2,hw3⟩:=rN hz0 hz1 hd0 hd1
 refine ⟨p,_,d,.int wh,rfl,rfl,SqL.of (by rw [al np];exact ac),ewh,?_⟩
 have k3:Kp hd H1 (upd (upd H2 p (.lst [.int 2,.int 7,.int 10,.int 97,.int (10^ (30:Int).toNat),.int (2+z)])) hd (.lst [.int t2])):=(k2.new hp).trans Kp.tape
 have tt3:Tp (upd (upd H2 p (.lst [.int 2,.int 7,.int 10,.int 97,.int (10^ (30:Int).toNat),.int (2+z)])) hd (.lst [.int t2])) hd:=⟨t2,ac⟩
 generalize upd (upd H2 p (.lst [.int 2,.int 7,.int 10,.int 97,.int (10^ (30:Int).toNat),.int (2+z)])) hd (.lst [.int t2])=H3 at k3 tt3 ⊢
 refine ⟨(by show 5<=sizeLine;decide),fun p hp=>?_⟩
 have np:=dl tt3 hp
 refine ⟨_,rfl,hd,5,rfl,tt3.new hp,by decide,by decide,fun d t2 hd0 hd1=>?_⟩
 obtain ⟨mode,emo,hmode⟩:=vf hd0 hd1
 refine ⟨p,_,d,.int mode,rfl,rfl,SqL.of (by rw [al np];exact ac),emo,?_⟩
 have k4:Kp hd H1 (upd (upd H3 p (.lst [.int 0,.int 0,.int 1,.int 2,.int 2])) hd (.lst [.int t2])):=(k3.new hp).trans Kp.tape
 have tt4:Tp (upd (upd H3 p (.lst [.int 0,.int 0,.int 1,.int 2,.int 2])) hd (.lst [.int t2])) hd:=⟨t2,ac⟩
 generalize upd (upd H3 p (.lst [.int 0,.int 0,.int 1,.int 2,.int 2])) hd (.lst [.int t2])=H4 at k4 tt4 ⊢
 refine ⟨_,rfl,hd,2,rfl,tt4,by decide,by decide,fun gr t3 _ _=>?_⟩
 have k5:Kp hd H1 (upd H4 hd (.lst [.int t3])):=k4.trans Kp.tape
 have tt5:Tp (upd H4 hd (.lst [.int t3])) hd:=⟨t3,ac⟩
 generalize upd H4 hd (.lst [.int t3])=H5 at k5 tt5 ⊢
 refine ⟨_,rfl,(by show 3<=sizeLine;decide),fun p hp=>?_⟩
 have np:=dl tt5 hp
 refine ⟨_,rfl,hd,3,rfl,tt5.new hp,by decide,by decide,fun d t4 hd0 hd1=>?_⟩
 obtain ⟨mm,emm,hmm3,hmm7⟩:=vd hd0 hd1
 refine ⟨p,_,d,.int mm,rfl,rfl,SqL.of (by rw [al np];exact ac),emm,?_⟩
 have k6:Kp hd H1 (upd (upd H5 p (.lst [.int 3,.int 4,.int 7])) hd (.lst [.int t4])):=(k5.new hp).trans Kp.tape
 have tt6:Tp (upd (upd H5 p (.lst [.int 3,.int 4,.int 7])) hd (.lst [.int t4])) hd:=⟨t4,ac⟩
 generalize upd (upd H5 p (.lst [.int 3,.int 4,.int 7])) hd (.lst [.int t4])=H6 at k6 tt6 ⊢
 refine ⟨hd,mm,rfl,tt6,by lia,by lia,fun mo t5 hmo0 hmo1=>?_⟩
 have k7:Kp hd H1 (upd H6 hd (.lst [.int t5])):=k6.trans Kp.tape
 have tt7:Tp (upd H6 hd (.lst [.int t5])) hd:=⟨t5,ac⟩
 generalize upd H6 hd (.lst [.int t5])=H7 at k7 tt7 ⊢
 refine ⟨_,rfl,_,rfl,hd,few,rfl,tt7,fun sa ss xs H8 gsa hR hok k8 tt8=>?_⟩
 refine ⟨_,rfl,hd,10,rfl,tt8,by decide,by decide,fun nl ws H9 gnl hnl hN hnh k9 tt9=>?_⟩
 refine ⟨(by show 0<=sizeLine;decide),fun fl hfl=>?_⟩
 have k19:Kp hd H1 H9:=k7.trans (k8.trans k9)
 have S9:Same H H9:=fun b oo h=>k19 b oo (S1 b oo h) (ah h hhd)
 have s10:=ag hfl (.lst [])
 exact hread hd sa nl fl wh mode gr mo ss ws _ hok hN hw2 hw3 hmode hmo0 (by lia) (S9.free hfl) (ah gnl hfl) (S9.free hfl) (S9.trans s10) (SrtsAt.mono (aG s10) (SrtsAt.mono (k9.tk tt8) ⟨xs,gsa,hR⟩)) (s10 _ _ gnl) ac
noncomputable def aK (nm:Str):List Frm->Option Frm
 | []=>none
 | f::r=>match aK nm r with
  | some x=>some x
  | none=>if f.name=nm then some f else none
theorem eM (nm:Str) (f:Frm): ∀ l:List Frm,aK nm (l++[f])=if f.name=nm then some f else aK nm l
 | []=>by show (if f.name=nm then some f else none)=_;rfl
 | g::r=>by
  show (match aK nm (r++[f])with | some x=>some x | none=>if g.name=nm then some g else none)=_
  rw [eM nm f r]
  by_cases c:f.name=nm
  ·rw [if_pos c,if_pos c]
  ·rw [if_neg c,if_neg c];rfl
theorem g9 {nm:Str} {f:Frm}: ∀ {l:List Frm},(l.map Frm.name).Nodup->f∈l->f.name=nm->aK nm l=some f
 | [],_,h,_=>by cases h
 | g::r,nd,h,e=>by
  rw [List.map_cons,List.nodup_cons]at nd
  have none_of: ∀ {l:List Frm},nm∉l.map Frm.name->aK nm l=none:=by
   intro l
   induction l with
   | nil=>intro _;rfl
   | cons x t ih=>
    intro hn
    rw [List.map_cons,List.mem_cons,not_or]at hn
    show (match aK nm t with | some x=>some x | none=>if x.name=nm then some x else none)=none
    rw [ih hn.2]
    exact if_neg (fun z=>hn.1 z.symm)
  rcases List.mem_cons.mp h with rfl | h
  ·show (match aK nm r with | some x=>some x | none=>if f.name=nm then some f else none)=some f
   rw [none_of (by rw [<- e];exact nd.1)]
   exact if_pos e
  ·show (match aK nm r with | some x=>some x | none=>if g.name=nm then some g else none)=some f
   rw [g9 nd.2 h e]
noncomputable def yd (H:Hp) (o:Option Frm) (v:V):Prop:=match o with
 | none=>v=.non
 | some f=>RepF H f v
inductive gI  (vs:List V) (H:Hp) (Q:VK) (E_:XK):Prop
 | mk: ∀ bv bk nm,(vs=[bv,.str nm])->(RepB H bk bv)->(bk.forms.length<=1000)->(∀ v,yd H (aK nm bk.forms) v->Q v H)->gI vs H Q E_
theorem scFormOf:aI ["book","name","found","form"] ["book","name"] (aj lG):=fsc
theorem qQ (F:Fun K "_law_form_of" "_law_form_of" lG f fd):FnOk P w K mg base CX0 1 f fd ["book","name"] gI:=by
 refine F.ok scFormOf (fun vs H Q E h=>?_) (fun cdv A outer s H vs Q E hr h=>?_)
 ·obtain ⟨bv,bk,nm,rfl,_⟩:=h
  rfl
 obtain ⟨bv,bk,nm,rfl,⟨a,sa,fa,fv,rfl,ha,_,hfa,hF⟩,hl,q⟩:=h
 refine ⟨_,af (aq (i:=2) scFormOf.nd rfl (Or.inl rfl) bA)
  (af (cr PassesOwn.never rfl (bZ (au (r:=aV K) ax (pv 0) ae (fun _ _=>rfl))) (aS (i:=3) scFormOf.nd rfl (Or.inl rfl))
   (ak (a7 (aA bV (au (r:=aV K) ax (pv 3) ae (fun _ _=>rfl)) (pv 1) (aE _)) (ak (aq (i:=2) scFormOf.nd rfl (Or.inl rfl) (pv 3))) aH)))
  (ak (aF (pv 2)))),?_⟩
 refine ⟨_,rfl,a,_,2,.ref fa,rfl,rfl,SqT.of ha,ay (j:=2) rfl,fa,rfl,⟨fv,SqT.of hfa⟩,?_⟩
 refine dJ (xs:=fv) (fun i σ H'=> ∃ v o3,σ=[some (.ref a),some (.str nm),some v,o3]/\H'=H/\yd H (aK nm (bk.forms.take i)) v)
  ⟨.non,none,rfl,rfl,rfl⟩ (fun i σ H' _ h=>by obtain ⟨_,_,_,rfl,_⟩:=h;exact SqT.of hfa) ?_ ?_
 ·rintro i x σ _ hx ⟨v,o3,rfl,rfl,hv⟩
  obtain ⟨fr,hfr,b,pa,ra,rv,rfl,hb,hre1,hre2,hre3⟩:=aX hF hx
  refine ⟨_,rfl,b,_,0,_,rfl,rfl,SqT.of hb,cT,_,rfl,rfl,_,rfl,?_⟩
  have e1:bk.forms.take (i+1)=bk.forms.take i++[fr]:=by rw [List.take_add_one,hfr];rfl
  refine bE (fun c=>?_) (fun c=>?_)
  ·have c':fr.name=nm:=V.str.inj (of_decide_eq_true c)
   refine ⟨_,rfl,_,_,rfl,rfl,?_⟩
   rw [e1,eM,if_pos c']
   exact ⟨b,pa,ra,rv,rfl,hb,hre1,hre2,hre3⟩
  ·have c': ¬ fr.name=nm:=fun e=>c (decide_eq_true (by rw [e]))
   refine ⟨_,_,rfl,rfl,?_⟩
   rw [e1,eM,if_neg c']
   exact hv
 ·rintro σ _ ⟨v,o3,rfl,rfl,hv⟩
  rw [<- hF.len,List.take_length]at hv
  exact ⟨_,rfl,q v hv⟩
inductive Bt where
 | mk (nm:Str) (ps:List Bt)
noncomputable def Bt.nm:Bt->Str
 | .mk x _=>x
noncomputable def Bt.ps:Bt->List Bt
 | .mk _ l=>l
noncomputable def RepT (H:Hp):Nat->Bt->V->Prop
 | 0,_,_=>False
 | n+1,t,v=> ∃ a b vs,v=.ref a/\H a=some (.tup [.str t.nm,.ref b])/\H b=some (.tup vs)/\Paired (RepT H n) t.ps vs
theorem RepT.mono {H H':Hp} (k:TK H H'): ∀ {n:Nat} {t:Bt} {v:V},RepT H n t v->RepT H' n t v
 | 0,_,_,h=>h
 | n+1,_,_,⟨a,b,vs,e,h1,h2,h3⟩=>⟨a,b,vs,e,k _ _ h1,k _ _ h2,Paired.mapP h3 fun _ _ r=>RepT.mono k r⟩
theorem RepT.up {H:Hp}: ∀ {n:Nat} {t:Bt} {v:V},RepT H n t v->RepT H (n+1) t v
 | 0,_,_,h=>h.elim
 | n+1,_,_,⟨a,b,vs,e,h1,h2,h3⟩=>⟨a,b,vs,e,h1,h2,Paired.mapP h3 fun _ _ r=>RepT.up r⟩
theorem RepT.le {H:Hp} {n m:Nat} {t:Bt} {v:V} (h:RepT H n t v) (l:n<=m):RepT H m t v:=by
 induction l with
 | refl=>exact h
 | step _ ih=>exact ih.up
noncomputable def Bt.at?:Bt->List Nat->Option Bt
 | t,[]=>some t
 | t,k::r=>(t.ps[k]?).bind fun u=>u.at? r
theorem bQ {α β:Type} {F:α->β->Prop}: ∀ {l:List α} {r:List β} {i:Nat} {a:α},Paired F l r->l[i]? =some a-> ∃ b,r[i]? =some b/\F a b
 | _,_,i,a,.nil,e=>by cases i <;> cases e
 | _,_,0,a,.cons h _,e=>⟨_,rfl,by cases e;exact h⟩
 | _,_,i+1,a,.cons _ t,e=>bQ (i:=i) t e
noncomputable def plV (pl:List Nat):List V:=pl.map fun (k:Nat)=>V.int (k:Int)
mutual
noncomputable def Bt.places:Bt->List (List Nat)
 | .mk _ ps=>[]::bM 0 ps
noncomputable def bM:Nat->List Bt->List (List Nat)
 | _,[]=>[]
 | k,t::r=>t.places.map (fun p=>k::p)++bM (k+1) r
end
theorem dk (t:Bt):t.places=[]::bM 0 t.ps:=by
 cases t with
 | mk x l=>rw [Bt.places];rfl
theorem dH (k:Nat):bM k []=[]:=by rw [bM]
theorem cQ (k:Nat) (t:Bt) (r:List Bt):bM k (t::r)=t.places.map (fun p=>k::p)++bM (k+1) r:=by rw [bM]
noncomputable def Bt.sz (t:Bt):Nat:=t.places.length
noncomputable def szL:List Bt->Nat
 | []=>0
 | t::r=>t.sz+szL r
theorem fz: ∀ (l:List Bt) (k:Nat),(bM k l).length=szL l
 | [],k=>by rw [dH];rfl
 | t::r,k=>by
  rw [cQ,List.length_append,List.length_map,fz r (k+1)]
  rfl
theorem bY (t:Bt):t.sz=szL t.ps+1:=by
 show t.places.length=_
 rw [dk,List.length_cons,fz]
theorem eB: ∀ (a b:List Bt),szL (a++b)=szL a+szL b
 | [],b=>by show szL b=0+szL b;lia
 | t::r,b=>by
  show t.sz+szL (r++b)=(t.sz+szL r) +szL b
  rw [eB r b];lia
theorem dO (t:Bt):1<=t.sz:=by rw [bY];lia
theorem iO: ∀ {l:List Bt} {t:Bt},t∈l->t.sz<=szL l
 | u::r,t,h=>by
  show t.sz<=u.sz+szL r
  rcases List.mem_cons.mp h with rfl | h
  ·lia
  ·have:=iO h;lia
theorem fw: ∀ {l:List Bt} {k:Nat} {p:List Nat},p∈bM k l-> ∃ j u p',l[j]? =some u/\p=(k+j)::p'/\p'∈u.places
 | [],k,p,h=>by rw [dH]at h;cases h
 | t::r,k,p,h=>by
  rw [cQ,List.mem_append]at h
  rcases h with h | h
  ·obtain ⟨p',hp,rfl⟩:=List.mem_map.mp h
   exact ⟨0,t,p',rfl,rfl,hp⟩
  ·obtain ⟨j,u,p',h1,rfl,h2⟩:=fw h
   exact ⟨j+1,u,p',h1,by rw [show k+1+j=k+ (j+1) by lia],h2⟩
theorem gP: ∀ (n:Nat) (t:Bt),t.sz<=n-> ∀ p∈t.places,p.length<t.sz
 | 0,t,h,_,_=>by have:=dO t;lia
 | n+1,t,h,p,hp=>by
  have e:=bY t
  rw [dk]at hp
  rcases List.mem_cons.mp hp with rfl | hp
  ·show 0<t.sz;lia
  ·obtain ⟨j,u,p',h1,rfl,h2⟩:=fw hp
   have h3:=iO (List.mem_of_getElem? h1)
   have:=gP n u (by lia) p' h2
   rw [List.length_cons]
   lia
theorem iP: ∀ (l:List Bt),l.length<=szL l
 | []=>Nat.le_refl _
 | t::r=>by
  show r.length+1<=t.sz+szL r
  have:=iP r
  have:=dO t
  lia
theorem vD {J:It} {xs:List V} {fr:List Nat} {te:TE} {σ:St} {H1:Hp} {Q:VK} {α:Type} (hn:xs.length<=1000)
  (hgo: ∀ i H,Same H1 H->i<xs.length->J.go i H) (hst: ∀ H,Same H1 H->J.stop xs.length H) (hy: ∀ i H v H',Same H1 H->J.yld i H v H'->H'=H/\xs[i]? =some v)
  (R:Hp->α->V->Prop) (mono: ∀ {H H':Hp} {a:α} {v:V},TK H H'->R H a v->R H' a v) (g:V->α)
  (hte: ∀ v H (k:VK),v∈xs->Same H1 H->(∀ u H',Same H H'->R H' (g v) u->k u H')->te (some v::cf fr σ) H k)
  (hd: ∀ p zs H',H1 p=none->Same H1 H'->H' p=some (.lst zs)->Paired (R H') (xs.map g) zs->Q (.ref p) H'):dN fr te σ J H1 Q:=by
 intro p hp
 refine ⟨fun i m zs H=>i<=xs.length/\m=xs.length-i/\Same H1 H/\H p=some (.lst zs)/\zs.length=i/\Paired (R H) ((xs.take i).map g) zs,⟨_,Nat.zero_le _,rfl,ag hp _,ac,rfl,.nil⟩,?_⟩
 rintro i m zs H ⟨hi,hm,sm,gp,hz,hT⟩
 refine ⟨gp,?_⟩
 by_cases e:i=xs.length
 ·subst e
  rw [List.take_length]at hT
  exact .inl ⟨hst H sm,hd p zs H hp sm gp hT⟩
 ·have hlt:i<xs.length:=by lia
  refine .inr ⟨hgo i H sm hlt,av (by lia),fun v H' hv=>?_⟩
  obtain ⟨rfl,hv2⟩:=hy i H v H' sm hv
  refine hte v _ _ (List.mem_of_getElem? hv2) sm fun u H2 s2 r=>?_
  have gp2:=s2 _ _ gp
  have tk:TK H2 (upd H2 p (.lst (zs++[u]))):=TK.lst gp2
  refine ⟨gp2,xs.length- (i+1),by lia,by lia,rfl,?_,ac,by rw [List.length_append,hz];rfl,?_⟩
  ·intro b o hb
   rw [al (ah hb hp)]
   exact s2 _ _ (sm _ _ hb)
  ·rw [List.take_add_one,hv2,List.map_append]
   exact Paired.snoc (Paired.mapP hT fun _ _ r=>mono ((aG s2).trans tk) r) (mono tk r)
theorem wQ {K:PySem.W.Frag} {a:Addr} {xs:List V} {H1:Hp} (ha:H1 a=some (.lst xs)): ∀ i H,Same H1 H->i<xs.length->(Itl K a).go i H:=fun i H s h=>⟨xs,xs[i],SqL.of (s _ _ ha),List.getElem?_eq_getElem h⟩
theorem wP {K:PySem.W.Frag} {a:Addr} {xs:List V} {H1:Hp} (ha:H1 a=some (.lst xs)): ∀ H,Same H1 H->(Itl K a).stop xs.length H:=fun H s=>⟨xs,SqL.of (s _ _ ha),Nat.le_refl _⟩
theorem xN {K:PySem.W.Frag} {a:Addr} {xs:List V} {H1:Hp} (ha:H1 a=some (.lst xs)): ∀ i H v H',Same H1 H->(Itl K a).yld i H v H'->H'=H/\xs[i]? =some v:=fun i H v H' s hv=>⟨hv.1,by obtain ⟨rfl,hv⟩:=hv;exact hv xs (SqL.of (s _ _ ha))⟩
theorem iu {K:PySem.W.Frag} {a:Addr} {xs:List V} {H1:Hp} (ha:H1 a=some (.tup xs)): ∀ i H,Same H1 H->i<xs.length->(Itt K a).go i H:=fun i H s h=>⟨xs,xs[i],SqT.of (s _ _ ha),List.getElem?_eq_getElem h⟩
theorem ir {K:PySem.W.Frag} {a:Addr} {xs:List V} {H1:Hp} (ha:H1 a=some (.tup xs)): ∀ H,Same H1 H->(Itt K a).stop xs.length H:=fun H s=>⟨xs,SqT.of (s _ _ ha),Nat.le_refl _⟩
theorem kg {K:PySem.W.Frag} {a:Addr} {xs:List V} {H1:Hp} (ha:H1 a=some (.tup xs)): ∀ i H v H',Same H1 H->(Itt K a).yld i H v H'->H'=H/\xs[i]? =some v:=fun i H v H' s hv=>⟨hv.1,by obtain ⟨rfl,hv⟩:=hv;exact hv xs (SqT.of (s _ _ ha))⟩
theorem fO {J:It} {xs:List V} {fr:List Nat} {te:TE} {σ:St} {H1:Hp} {Q:VK} (hn:xs.length<=1000)
  (hgo: ∀ i H,Same H1 H->i<xs.length->J.go i H) (hst: ∀ H,Same H1 H->J.stop xs.length H) (hy: ∀ i H v H',Same H1 H->J.yld i H v H'->H'=H/\xs[i]? =some v)
  (h:V->V) (hte: ∀ v H (k:VK),v∈xs->Same H1 H->k (h v) H->te (some v::cf fr σ) H k)
  (hd: ∀ p H',H1 p=none->Same H1 H'->H' p=some (.lst (xs.map h))->Q (.ref p) H'):dN fr te σ J H1 Q:=by
 refine vD hn hgo hst hy (fun _ (a:V) v=>v=a) (fun _ h=>h) h (fun v H k hv s hk=>hte v H k hv s (hk _ _ (fun _ _ h=>h) rfl)) fun p zs H' hp s gp hP=>?_
 have:zs=xs.map h:=by
  have go: ∀ {l r:List V},Paired (fun (a v:V)=>v=a) l r->r=l:=by
   intro l r hh
   induction hh with
   | nil=>rfl
   | cons a _ ih=>rw [a,ih]
  exact go hP
 rw [this]at gp
 exact hd p H' hp s gp
noncomputable def Lst (kvs:List (Key×V)) (s:Srt) (n:Nat):Prop:=bi kvs (.inr s.name)=some (.int (n:Int))
noncomputable def gB:Nat->Nat
 | 0=>0
 | n+1=>1+3*gB n
theorem iT: ∀ {a b:Nat},a<=b->gB a<=gB b
 | 0,b,_=>Nat.zero_le _
 | a+1,0,h=>by lia
 | a+1,b+1,h=>by
  have:=iT (a:=a) (b:=b) (by lia)
  show 1+3*gB a<=1+3*gB b
  lia
noncomputable def bd:List Nat->Nat
 | []=>0
 | n::r=>n+bd r
noncomputable def dB (kvs:List (Key×V)) (s:Srt):Bool:=(bi kvs (.inr s.name)).isSome
noncomputable def cnt (bk:Bk) (kvs:List (Key×V)):Nat:=bk.sorts.countP (dB kvs)
theorem wZ (bk:Bk) (kvs:List (Key×V)):cnt bk kvs<=bk.sorts.length:=List.countP_le_length
theorem ko {α:Type} {p q:α->Bool}: ∀ {l:List α} {x:α},(∀ y,p y=true->q y=true)->x∈l->p x=false->q x=true->l.countP p+1<=l.countP q
 | y::r,x,hpq,hx,h1,h2=>by
  rw [List.countP_cons,List.countP_cons]
  rcases List.mem_cons.mp hx with rfl | hx
  ·rw [h1,h2]
   have:r.countP p<=r.countP q:=List.countP_mono_left fun z _=>hpq z
   simp only [Bool.false_eq_true,if_false,if_true]
   lia
  ·have ih:=ko hpq hx h1 h2
   by_cases c:p y=true
   ·rw [if_pos c,if_pos (hpq y c)];lia
   ·rw [if_neg c];lia
structure LI (bk:Bk) (kvs:List (Key×V)):Prop where
 vl: ∀ k v,bi kvs k=some v-> ∃ s,s∈bk.sorts/\k=.inr (Srt.name s)/\ ∃ n:Nat,v=.int (n:Int)/\1<=n/\n<=gB (cnt bk kvs)
 cl: ∀ s n,s∈bk.sorts->Lst kvs s n-> ∃ fr,fr∈bk.forms/\Frm.own fr=s/\ ∃ ms,Paired (Lst kvs) fr.parts ms/\1+bd ms<=n
theorem LI.nil (bk:Bk):LI bk []:=⟨fun k v h=>(by cases h),fun s n _ h=>(by cases h)⟩
theorem pf {ss:List Srt} (nd:(ss.map Srt.name).Nodup) {a b:Srt} (ha:a∈ss) (hb:b∈ss) (e:a.name=b.name):a=b:=by
 obtain ⟨i,hi⟩:=List.getElem?_of_mem ha
 obtain ⟨j,hj⟩:=List.getElem?_of_mem hb
 have q1:(ss.map Srt.name)[i]? =some a.name:=by rw [List.getElem?_map,hi];rfl
 have q2:(ss.map Srt.name)[j]? =some a.name:=by rw [List.getElem?_map,hj,e];rfl
 have:=fB nd q1 q2
 subst this
 rw [hi]at hj
 exact Option.some.inj hj
theorem pO {kvs:List (Key×V)} {s:Srt} {n m:Nat} (a:Lst kvs s n) (b:Lst kvs s m):n=m:=by
 unfold Lst at a b
 rw [a]at b
 have:=V.int.inj (Option.some.inj b)
 lia
theorem LI.val {bk:Bk} {kvs:List (Key×V)} (h:LI bk kvs) {s:Srt} {v:V} (e:bi kvs (.inr s.name)=some v): ∃ n:Nat,v=.int (n:Int)/\1<=n/\n<=gB (cnt bk kvs):=by
 obtain ⟨_,_,_,n,h⟩:=h.vl _ _ e
 exact ⟨n,h⟩
theorem LI.sum {bk:Bk} {kvs:List (Key×V)} (h:LI bk kvs): ∀ {ps:List Srt} {ms:List Nat},Paired (Lst kvs) ps ms->bd ms<=ps.length*gB (cnt bk kvs)
 | _,_,.nil=>Nat.zero_le _
 | _,_,@Paired.cons _ _ _ a b l m x t=>by
  obtain ⟨n,e,_,h2⟩:=h.val x
  have e:(b:Int)=n:=V.int.inj e
  have ih:=LI.sum h t
  show b+bd m<=(l.length+1) *gB (cnt bk kvs)
  rw [Nat.succ_mul]
  lia
theorem dI {kvs kvs':List (Key×V)} (h: ∀ s n,Lst kvs s n-> ∃ n',Lst kvs' s n'/\n'<=n): ∀ {ps:List Srt} {ms:List Nat},Paired (Lst kvs) ps ms-> ∃ ms',Paired (Lst kvs') ps ms'/\bd ms'<=bd ms
 | _,_,.nil=>⟨[],.nil,Nat.le_refl _⟩
 | _,_,@Paired.cons _ _ _ a b l m x t=>by
  obtain ⟨n',h1,h2⟩:=h _ _ x
  obtain ⟨ms',h3,h4⟩:=dI h t
  exact ⟨n'::ms',.cons h1 h3,by show n'+bd ms'<=b+bd m;lia⟩
theorem LI.put {bk:Bk} {kvs:List (Key×V)} (h:LI bk kvs) (nd:(bk.sorts.map Srt.name).Nodup) {fr:Frm} (hf:fr∈bk.forms) (ho:fr.own∈bk.sorts) (hp:fr.parts.length<=3) {ms:List Nat} (hm:Paired (Lst kvs) fr.parts ms)
  {n:Nat} (hn:(bi kvs (.inr fr.own.name)=none/\n=1+bd ms)\/ ∃ m:Nat,Lst kvs fr.own m/\n=min (1+bd ms) m):LI bk (cP kvs (.inr fr.own.name) (.int (n:Int))):=by
 have hsum:=h.sum hm
 have hle:fr.parts.length*gB (cnt bk kvs)<=3*gB (cnt bk kvs):=Nat.mul_le_mul_right _ hp
 have hput: ∀ j,bi (cP kvs (.inr fr.own.name) (.int (n:Int))) j=if j=.inr fr.own.name then some (.int (n:Int))else bi kvs j:=fun j=>eZ _ _ _ _
 have hmon: ∀ y,dB kvs y=true->dB (cP kvs (.inr fr.own.name) (.int (n:Int))) y=true:=by
  intro y hy
  unfold dB at hy ⊢
  rw [hput]
  by_cases c:(Sum.inr y.name:Key)=.inr fr.own.name
  ·rw [if_pos c];rfl
  ·rw [if_neg c];exact hy
 have hcnt:cnt bk kvs<=cnt bk (cP kvs (.inr fr.own.name) (.int (n:Int))):=List.countP_mono_left fun z _=>hmon z
 have hg:=iT hcnt
 have hfall: ∀ s m,Lst kvs s m-> ∃ n',Lst (cP kvs (.inr fr.own.name) (.int (n:Int))) s n'/\n'<=m:=by
  intro s m hs
  by_cases c:s.name=fr.own.name
  ·refine ⟨n,by unfold Lst;rw [hput,if_pos (by rw [c])],?_⟩
   rcases hn with ⟨e,_⟩ | ⟨m',e,rfl⟩
   ·unfold Lst at hs;rw [c,e]at hs;cases hs
   ·have:Lst kvs fr.own m:=by unfold Lst at hs ⊢;rw [<- c];exact hs
    have:=pO e this
    lia
  ·exact ⟨m,by unfold Lst;rw [hput,if_neg (fun z=>c (Sum.inr.inj z))];exact hs,Nat.le_refl _⟩
 refine ⟨fun k v hv=>?_,fun s m hs hl=>?_⟩
 ·rw [hput]at hv
  by_cases c:k=.inr fr.own.name
  ·rw [if_pos c]at hv
   refine ⟨fr.own,ho,c,n,(Option.some.inj hv).symm,?_,?_⟩
   ·rcases hn with ⟨_,rfl⟩ | ⟨m,e,rfl⟩
    ·lia
    ·obtain ⟨m',e',h1,_⟩:=h.val e
     have e':(m:Int)=m':=V.int.inj e'
     lia
   ·rcases hn with ⟨e,rfl⟩ | ⟨m,e,rfl⟩
    ·have:=ko (p:=dB kvs) (q:=dB (cP kvs (.inr fr.own.name) (.int ((1+bd ms:Nat):Int)))) hmon ho (by unfold dB;rw [e];rfl) (by unfold dB;rw [hput,if_pos rfl];rfl)
     have:=iT this
     have e3:gB (bk.sorts.countP (dB kvs) +1)=1+3*gB (cnt bk kvs):=rfl
     show 1+bd ms<=gB (bk.sorts.countP _)
     lia
    ·obtain ⟨m',e',_,h2⟩:=h.val e
     have e':(m:Int)=m':=V.int.inj e'
     lia
  ·rw [if_neg c]at hv
   obtain ⟨s,h1,h2,m,h3,h4,h5⟩:=h.vl k v hv
   exact ⟨s,h1,h2,m,h3,h4,by lia⟩
 ·by_cases c:s.name=fr.own.name
  ·have es:=pf nd hs ho c
   subst es
   have hl':n=m:=by
    unfold Lst at hl
    rw [hput,if_pos rfl]at hl
    have:=V.int.inj (Option.some.inj hl)
    lia
   subst hl'
   obtain ⟨ms',h1,h2⟩:=dI hfall hm
   rcases hn with ⟨_,e⟩ | ⟨m',e,e2⟩
   ·exact ⟨fr,hf,rfl,ms',h1,by lia⟩
   ·by_cases c2:1+bd ms<=m'
    ·exact ⟨fr,hf,rfl,ms',h1,by lia⟩
    ·obtain ⟨fr2,g1,g2,ms2,g3,g4⟩:=h.cl _ _ ho e
     obtain ⟨ms3,g5,g6⟩:=dI hfall g3
     exact ⟨fr2,g1,g2,ms3,g5,by lia⟩
  ·have hl':Lst kvs s m:=by
    unfold Lst at hl ⊢
    rw [hput,if_neg (fun z=>c (Sum.inr.inj z))]at hl
    exact hl
   obtain ⟨fr2,g1,g2,ms2,g3,g4⟩:=h.cl _ _ hs hl'
   obtain ⟨ms3,g5,g6⟩:=dI hfall g3
   exact ⟨fr2,g1,g2,ms3,g5,by lia⟩
noncomputable def oZ (bk:Bk) (kvs:List (Key×V)):Prop:= ∃ fr,fr∈bk.forms/\ ∃ n,Lst kvs (Frm.own fr) n
noncomputable def hIn (kvs:List (Key×V)):V->V
 | .str x=>.bl (bi kvs (.inr x)).isSome
 | _=>.non
noncomputable def rk (kvs:List (Key×V)):V->V
 | .str x=>(bi kvs (.inr x)).getD .non
 | _=>.non
theorem kj (kvs:List (Key×V)) (ps:List Srt):(bc ps).map (hIn kvs)=(ps.map (dB kvs)).map V.bl:=by
 unfold bc
 rw [List.map_map,List.map_map]
 rfl
theorem jl {bk:Bk} {kvs:List (Key×V)} (h:LI bk kvs): ∀ (ps:List Srt),(ps.map (dB kvs)).all id=true-> ∃ ms,Paired (Lst kvs) ps ms
 | [],_=>⟨[],.nil⟩
 | p::r,e=>by
  rw [List.map_cons,List.all_cons,Bool.and_eq_true]at e
  obtain ⟨ms,hm⟩:=jl h r e.2
  obtain ⟨v,hv⟩:=Option.isSome_iff_exists.mp (show (bi kvs (.inr p.name)).isSome=true from e.1)
  obtain ⟨n,rfl,_⟩:=h.val hv
  exact ⟨n::ms,.cons hv hm⟩
theorem gm {kvs:List (Key×V)}: ∀ {ps:List Srt} {ms:List Nat},Paired (Lst kvs) ps ms->(bc ps).map (rk kvs)=(ms.map fun m=>((m:Nat):Int)).map V.int
 | _,_,.nil=>rfl
 | _,_,@Paired.cons _ _ _ a b l m x t=>by
  have ih:=gm t
  show (bi kvs (.inr a.name)).getD .non::(bc l).map (rk kvs)=V.int (b:Int)::_
  rw [ih,show bi kvs (.inr a.name)=some (.int (b:Int))from x]
  rfl
theorem gC: ∀ ms:List Nat,iL (ms.map fun m=>((m:Nat):Int))=(bd ms:Int)
 | []=>rfl
 | m::r=>by
  show (m:Int) +iL (r.map fun m=>((m:Nat):Int))=((m+bd r:Nat):Int)
  rw [gC r]
  lia
theorem bf (ps:List Srt):(bc ps).length=ps.length:=List.length_map _
theorem eK {ps:List Srt} {v:V} (h:v∈bc ps): ∃ s,s∈ps/\v=.str (Srt.name s):=by
 obtain ⟨s,hs,e⟩:=List.mem_map.mp h
 exact ⟨s,hs,e.symm⟩
theorem LI.small {bk:Bk} {kvs:List (Key×V)} (h:LI bk kvs) (hk:BookOk bk) {s:Srt} {n:Nat} (hn:Lst kvs s n):1<=n/\n<=40:=by
 obtain ⟨m,e,h1,h2⟩:=h.val hn
 have e:(n:Int)=m:=V.int.inj e
 have h3:=wZ bk kvs
 have h4:=hk.so.2.1
 have h5:=iT (show cnt bk kvs<=4 by lia)
 have h6:gB 4=40:=rfl
 lia
theorem dh {bk:Bk} {kvs:List (Key×V)} (h:LI bk kvs) (hk:BookOk bk): ∀ {ps:List Srt} {ms:List Nat},Paired (Lst kvs) ps ms-> ∀ m∈ms,1<=m/\m<=40
 | _,_,.nil,m,hm=>by cases hm
 | _,_,@Paired.cons _ _ _ a b l r x t,m,hm=>by
  rcases List.mem_cons.mp hm with rfl | hm
  ·exact h.small hk x
  ·exact dh h hk t m hm
noncomputable def wK:Option V->Nat
 | some (.int i)=>i.toNat
 | _=>0
noncomputable def szF (kvs:List (Key×V)) (fr:Frm):Nat:=1+bd (fr.parts.map fun p=>wK (bi kvs (.inr p.name)))
noncomputable def oK (kvs:List (Key×V)) (fr:Frm):Nat:=match bi kvs (.inr fr.own.name)with
 | none=>szF kvs fr
 | some v=>min (szF kvs fr) (wK (some v))
noncomputable def nc (kvs:List (Key×V)) (fr:Frm):List (Key×V):=if (fr.parts.map (dB kvs)).all id=true then cP kvs (.inr fr.own.name) (.int ((oK kvs fr:Nat):Int))else kvs
noncomputable def iq (bk:Bk):Nat->List (Key×V)
 | 0=>[]
 | i+1=>bk.forms.foldl nc (iq bk i)
noncomputable def aY (bk:Bk):List (Key×V):=iq bk bk.sorts.length
theorem eJ {kvs:List (Key×V)}: ∀ {ps:List Srt} {ms:List Nat},Paired (Lst kvs) ps ms->ps.map (fun p=>wK (bi kvs (.inr p.name)))=ms
 | _,_,.nil=>rfl
 | _,_,@Paired.cons _ _ _ a b l m x t=>by
  rw [List.map_cons,eJ t,show bi kvs (.inr a.name)=some (.int (b:Int))from x]
  show (b:Int).toNat::m=b::m
  rw [Int.toNat_natCast]
theorem pP {bk:Bk} {kvs:List (Key×V)} (h:LI bk kvs) {fr:Frm} {ms:List Nat} (hm:Paired (Lst kvs) fr.parts ms):
  (bi kvs (.inr fr.own.name)=none/\oK kvs fr=1+bd ms)\/ ∃ m:Nat,Lst kvs fr.own m/\oK kvs fr=min (1+bd ms) m:=by
 have e:szF kvs fr=1+bd ms:=by unfold szF;rw [eJ hm]
 cases hv:bi kvs (.inr fr.own.name)with
 | none=>exact .inl ⟨rfl,by unfold oK;rw [hv];exact e⟩
 | some v=>
  obtain ⟨m,rfl,_⟩:=h.val hv
  refine .inr ⟨m,hv,?_⟩
  unfold oK
  rw [hv]
  show min (szF kvs fr) (m:Int).toNat=_
  rw [e,Int.toNat_natCast]
inductive la  (vs:List V) (H:Hp) (Q:VK) (E_:XK):Prop
 | mk: ∀ bv bk,(vs=[bv])->(RepB H bk bv)->(BookOk bk)->(∀ d H',H d=none->Same H H'->H' d=some (.dK (aY bk))->LI bk (aY bk)->oZ bk (aY bk)->Q (.ref d) H')->la vs H Q E_
noncomputable abbrev oS:List Str:=["book","found","turn","name","sort","parts","rules","size"]
theorem scLeast:aI oS ["book"] (aj i8):=fsc
theorem tJ (F:Fun K "_law_least" "_law_least" i8 f fd) (G:Gb mg) (hsum:mg "sum"=none):FnOk P w K mg base CX0 1 f fd ["book"] la:=by
 refine F.ok scLeast (fun vs H Q E h=>?_) (fun cdv A outer s H vs Q E hr h=>?_)
 ·obtain ⟨bv,bk,rfl,_⟩:=h
  rfl
 obtain ⟨bv,bk,rfl,⟨a,sa,fa,fv,rfl,ha,⟨sx,hsa,hS⟩,hfa,hF⟩,hok,q⟩:=h
 have hu:=jy hr
 refine ⟨_,af (aq (i:=1) scLeast.nd rfl (Or.inr rfl) gV)
  (af (cr PassesOwn.never rfl (bp rfl G.range (aa (ao (r:=cA K) aw rfl G.len PySem.boot_len (aa (au (r:=aV K) ax (pv 0) ae (fun _ _=>rfl)) ad)) ad)) (aS (i:=2) scLeast.nd rfl (Or.inl rfl))
   (ak (cr PassesOwn.never rfl (bZ (au (r:=aV K) ax (pv 0) ae (fun _ _=>rfl)))
    (jg rfl (bO (aS (i:=3) scLeast.nd rfl (Or.inl rfl)) (bO (aS (i:=4) scLeast.nd rfl (Or.inl rfl)) (bO (aS (i:=5) scLeast.nd rfl (Or.inl rfl)) (bO (aS (i:=6) scLeast.nd rfl (Or.inl rfl)) gU)))))
    (ak (a7 (dQ (ao (jK rfl) rfl G.all (by decide +kernel) (aa (cW (sc0:=aj i8) (N0:=oS) (ys:=["found"]) (fr:=[1]) rfl (bZ (pv 5)) rfl rfl
       cok (fun C s H ex=>sY (ox hu (pv 0) (pv 1)))) ad)))
     (af (aq (i:=7) scLeast.nd rfl (Or.inl rfl) (ar aU ae (ao (jJ rfl) rfl hsum (by decide +kernel) (aa (cW (sc0:=aj i8) (N0:=oS) (ys:=["found"]) (fr:=[1]) rfl (bZ (pv 5)) rfl rfl
       cok (fun C s H ex=>dg hu (pv 1) (pv 0) (fun _ _=>rfl))) ad))))
     (ak (gO hu (pv 1) (pv 4) (ao (iz rfl) rfl G.min (by decide +kernel) (aa (pv 7) (aa (mE hu (pv 1) (pv 4) (pv 7) ⟨rfl,rfl,rfl,rfl⟩) ad))) rfl)))
     aH)))))
  (ak (aF (pv 1)))),?_⟩
 have lS:=hS.len
 have lF:=hF.len
 refine fun td htd=>?_
 have s0:=ag htd (.dK [])
 have g0:(upd H td (.dK [])) td=some (.dK []):=ac
 generalize upd H td (.dK [])=H0 at s0 g0 ⊢
 have h4:=hok.so.2.1
 have h10:=hok.few
 obtain ⟨fr0,hfr0,hnil0⟩:=hok.nil
 obtain ⟨i0,hi0⟩:=List.getElem?_of_mem hfr0
 refine ⟨_,rfl,a,_,1,.ref sa,rfl,rfl,SqT.of (s0 _ _ ha),ay (j:=1) rfl,sa,sx,rfl,.inr (SqT.of (s0 _ _ hsa)),_,rfl,by lia,by lia,?_⟩
 refine cL (fun i σ H'=> ∃ o2 o3 o4 o5 o6 o7 kvs,σ=[some (.ref a),some (.ref td),o2,o3,o4,o5,o6,o7]/\Same H H'/\H' td=some (.dK kvs)/\LI bk kvs/\kvs.length<=10*i/\(1<=i->oZ bk kvs)/\kvs=iq bk i)
  ⟨none,none,none,none,none,none,[],rfl,s0,g0,LI.nil bk,Nat.le_refl _,fun z=>absurd z (by lia),rfl⟩ ?_ ?_
 ·rintro i σ H1 hi ⟨o2,o3,o4,o5,o6,o7,kvs,rfl,S1,gd1,hI1,hl1,ht1,hk1⟩
  refine ⟨_,rfl,a,_,2,.ref fa,rfl,rfl,SqT.of (S1 _ _ ha),ay (j:=2) rfl,fa,rfl,⟨fv,SqT.of (S1 _ _ hfa)⟩,?_⟩
  refine dJ (xs:=fv) (fun j σ H'=>j<=fv.length/\ ∃ o3 o4 o5 o6 o7 kvs,σ=[some (.ref a),some (.ref td),some (.int (0+ (i:Int))),o3,o4,o5,o6,o7]/\Same H H'/\H' td=some (.dK kvs)/\LI bk kvs/\kvs.length<=10*i+j/\(1<=i\/i0<j->oZ bk kvs)/\kvs=(bk.forms.take j).foldl nc (iq bk i))
   ⟨Nat.zero_le _,o3,o4,o5,o6,o7,kvs,rfl,S1,gd1,hI1,hl1,fun z=>ht1 (by lia),hk1⟩ (fun j σ H' _ h=>by obtain ⟨_,_,_,_,_,_,_,_,sm,_⟩:=h;exact SqT.of (sm _ _ hfa)) ?_ ?_
  ·rintro j x σ H2 hx ⟨hj,o3,o4,o5,o6,o7,kvs,rfl,S2,gd2,hI2,hl2,ht2,hk2⟩
   have hjl:j<fv.length:=(List.getElem?_eq_some_iff.mp hx).1
   obtain ⟨fr,hfr,b,pa,ra,rv,rfl,hb,hpa,hra,hR⟩:=aX hF hx
   have hfm:=List.mem_of_getElem? hfr
   have hk1000:kvs.length<=1000:=by lia
   obtain ⟨mode,_,hfo⟩:=hok.fo
   obtain ⟨hown,hparts,hp3,_⟩:=hfo fr hfm
   have ek:(bk.forms.take (j+1)).foldl nc (iq bk i)=nc kvs fr:=by
    rw [List.take_add_one,hfr,List.foldl_append,<- hk2]
    rfl
   refine ⟨b,_,rfl,SqT.of (S2 _ _ hb),rfl,_,_,rfl,_,_,rfl,_,_,rfl,_,_,rfl,rfl,?_⟩
   refine ⟨_,rfl,pa,rfl,⟨_,SqT.of (S2 _ _ hpa)⟩,?_⟩
   refine fO (by rw [bf];lia) (iu (S2 _ _ hpa)) (ir (S2 _ _ hpa)) (kg (S2 _ _ hpa)) (hIn kvs) ?_ ?_
   ·intro v H' k hv s' hk
    obtain ⟨sr,_,rfl⟩:=eK hv
    exact ⟨_,rfl,_,rfl,td,_,rfl,DGet.k (k:=.inr sr.name) (s' _ _ gd2),hk⟩
   intro p3 H3 hp3' s3 gp3
   rw [kj]at gp3
   have S3:Same H H3:=S2.trans s3
   have gd3:=s3 _ _ gd2
   refine ⟨p3,_,rfl,SqL.of gp3,_,rfl,?_⟩
   refine bE (fun c=>?_) (fun c=>?_)
   ·obtain ⟨ms,hms⟩:=jl hI2 _ c
    have hsm:=dh hI2 hok hms
    have lms:fr.parts.length=ms.length:=Paired.length hms
    refine ⟨_,rfl,pa,rfl,⟨_,SqT.of (S3 _ _ hpa)⟩,?_⟩
    refine fO (by rw [bf];lia) (iu (S3 _ _ hpa)) (ir (S3 _ _ hpa)) (kg (S3 _ _ hpa)) (rk kvs) ?_ ?_
    ·intro v H' k hv s' hk
     obtain ⟨sr,hsr,rfl⟩:=eK hv
     obtain ⟨i',hi'⟩:=List.getElem?_of_mem hsr
     obtain ⟨m,_,hm⟩:=bQ hms hi'
     refine ⟨_,rfl,_,rfl,td,.int (m:Int),rfl,(by rw [<- show bi kvs (.inr sr.name)=some (.int (m:Int))from hm];exact DGet.k (k:=.inr sr.name) (s' _ _ gd3)),?_⟩
     have:rk kvs (.str sr.name)=.int (m:Int):=by
      show (bi kvs (.inr sr.name)).getD .non=_
      rw [show bi kvs (.inr sr.name)=some (.int (m:Int))from hm]
      rfl
     rw [this]at hk
     exact hk
    intro p4 H4 hp4 s4 gp4
    rw [gm hms]at gp4
    have S4:Same H H4:=S3.trans s4
    have gd4:=s4 _ _ gd3
    refine ⟨p4,_,rfl,SqL.of gp4,by rw [List.length_map];lia,?_,?_⟩
    ·intro n hn
     obtain ⟨m,hm,rfl⟩:=List.mem_map.mp hn
     have:=hsm m hm
     lia
    rw [gC]
    refine ⟨_,_,rfl,rfl,?_⟩
    rw [show (V.int (1+ (bd ms:Int)))=V.int ((1+bd ms:Nat):Int)from congrArg V.int (show (1:Int) + (bd ms:Int)=((1+bd ms:Nat):Int) by lia)]
    refine ⟨_,rfl,_,rfl,td,rfl,.inl ⟨kvs,.inl gd4⟩,_,rfl,_,rfl,_,DGet.k (k:=.inr fr.own.name) gd4,?_⟩
    have fin: ∀ n:Nat,n=oK kvs fr->
      j+1<=fv.length/\ ∃ o3 o4 o5 o6 o7 kvs',[some (V.ref a),some (.ref td),some (.int (0+ (i:Int))),some (.str fr.name),some (.str fr.own.name),some (.ref pa),some (.ref ra),some (.int ((1+bd ms:Nat):Int))]=[some (V.ref a),some (.ref td),some (.int (0+ (i:Int))),o3,o4,o5,o6,o7]/\
       Same H (upd H4 td (.dK (cP kvs (.inr fr.own.name) (.int (n:Int)))))/\(upd H4 td (.dK (cP kvs (.inr fr.own.name) (.int (n:Int))))) td=some (.dK kvs')/\LI bk kvs'/\kvs'.length<=10*i+ (j+1)/\(1<=i\/i0<j+1->oZ bk kvs')/\kvs'=(bk.forms.take (j+1)).foldl nc (iq bk i):=by
     intro n hn
     subst hn
     refine ⟨hjl,_,_,_,_,_,_,rfl,?_,ac,hI2.put hok.so.2.2.1 hfm hown hp3 hms (pP hI2 hms),?_,fun _=>?_,by rw [ek];exact (if_pos c).symm⟩
     ·intro y oo h
      rw [al (ah h htd)]
      exact S4 _ _ h
     ·have:=cK kvs (.inr fr.own.name) (.int ((oK kvs fr:Nat):Int))
      lia
     ·exact ⟨fr,hfm,_,by unfold Lst;rw [eZ,if_pos rfl]⟩
    have hmn:=pP hI2 hms
    cases hold:bi kvs (.inr fr.own.name)with
    | none=>
     refine ⟨_,_,rfl,?_⟩
     rw [if_neg (by lia)]
     refine ⟨_,rfl,_,rfl,td,_,rfl,DPut.k (k:=.inr fr.own.name) gd4 (av hk1000),?_⟩
     exact fin (1+bd ms) (by rcases hmn with ⟨_,e⟩ | ⟨m',e,_⟩;exact e.symm;unfold Lst at e;rw [hold]at e;cases e)
    | some v=>
     obtain ⟨m,rfl,_⟩:=hI2.val hold
     refine ⟨_,_,rfl,?_⟩
     have e5:(if (m:Int) < ((1+bd ms:Nat):Int)then (m:Int)else ((1+bd ms:Nat):Int))=((min (1+bd ms) m:Nat):Int):=by
      by_cases c5:(m:Int) < ((1+bd ms:Nat):Int)
      ·rw [if_pos c5];lia
      ·rw [if_neg c5];lia
     rw [e5]
     refine ⟨_,rfl,_,rfl,td,_,rfl,DPut.k (k:=.inr fr.own.name) gd4 (av hk1000),?_⟩
     exact fin _ (by rcases hmn with ⟨e,_⟩ | ⟨m',e,e2⟩;rw [hold]at e;cases e;rw [e2,pO e hold])
   ·refine ⟨hjl,_,_,_,_,_,kvs,rfl,S3,gd3,hI2,by lia,fun z=>?_,by rw [ek];exact (if_neg c).symm⟩
    by_cases c0:1<=i\/i0<j
    ·exact ht2 c0
    ·have j0:j=i0:=by lia
     subst j0
     rw [hi0]at hfr
     cases hfr
     rw [hnil0]at c
     exact absurd rfl c
  ·rintro σ H2 ⟨_,o3,o4,o5,o6,o7,kvs,rfl,S2,gd2,hI2,hl2,ht2,hk2⟩
   have:=hok.more
   have:=hok.so.1
   rw [<- lF,List.take_length]at hk2
   have hi0l:=(List.getElem?_eq_some_iff.mp hi0).1
   exact ⟨_,_,_,_,_,_,kvs,rfl,S2,gd2,hI2,by lia,fun _=>ht2 (.inr (by lia)),hk2⟩
 ·rintro σ H1 ⟨o2,o3,o4,o5,o6,o7,kvs,rfl,S1,gd1,hI1,hl1,ht1,hk1⟩
  have:=hok.so.1
  rw [Int.toNat_natCast,<- lS]at hk1 ht1
  subst hk1
  exact ⟨_,rfl,q td H1 htd S1 gd1 hI1 (ht1 (by lia))⟩
noncomputable def TreeOk (bk:Bk):Nat->Bt->Srt->Prop
 | 0,_,_=>False
 | n+1,t,s=>(∃ m,Lst (aY bk) s m)/\ ∃ fr,fr∈bk.forms/\Frm.name fr=t.nm/\fr.own=s/\Paired (TreeOk bk n) t.ps fr.parts
theorem uu {K:PySem.W.Frag} {kvs:List (Key×V)} {pa d:Addr} {ps:List Srt} {fr:List Nat} {te:TE} {σ:St} {H:Hp} {Q:VK} (hd:H d=some (.dK kvs)) (hpa:H pa=some (.tup (bc ps))) (hl:ps.length<=1000)
  (hte: ∀ (x:Str) H' (k:VK),H' d=some (.dK kvs)->k (.bl (bi kvs (.inr x)).isSome) H'->te (some (.str x)::cf fr σ) H' k)
  (hQ: ∀ p H',H p=none->Same H H'->H' p=some (.lst ((ps.map (dB kvs)).map V.bl))->Q (.ref p) H'):dN fr te σ (Itt K pa) H Q:=by
 refine fO (by rw [bf];lia) (iu hpa) (ir hpa) (kg hpa) (hIn kvs) ?_ ?_
 ·intro v H' k hv s' hk
  obtain ⟨sr,_,rfl⟩:=eK hv
  exact hte _ _ _ (s' _ _ hd) hk
 ·intro p H' hp s' gp
  rw [kj]at gp
  exact hQ p H' hp s' gp
theorem kr {K:PySem.W.Frag} {kvs:List (Key×V)} {pa d:Addr} {ps:List Srt} {ms:List Nat} {fr:List Nat} {te:TE} {σ:St} {H:Hp} {Q:VK} (hm:Paired (Lst kvs) ps ms) (hd:H d=some (.dK kvs)) (hpa:H pa=some (.tup (bc ps))) (hl:ps.length<=1000)
  (hte: ∀ (x:Str) (m:Nat) H' (k:VK),H' d=some (.dK kvs)->bi kvs (.inr x)=some (.int (m:Int))->k (.int (m:Int)) H'->te (some (.str x)::cf fr σ) H' k)
  (hQ: ∀ p H',H p=none->Same H H'->H' p=some (.lst ((ms.map fun m=>((m:Nat):Int)).map V.int))->Q (.ref p) H'):dN fr te σ (Itt K pa) H Q:=by
 refine fO (by rw [bf];lia) (iu hpa) (ir hpa) (kg hpa) (rk kvs) ?_ ?_
 ·intro v H' k hv s' hk
  obtain ⟨sr,hsr,rfl⟩:=eK hv
  obtain ⟨i',hi'⟩:=List.getElem?_of_mem hsr
  obtain ⟨m,_,hm⟩:=bQ hm hi'
  have hm':bi kvs (.inr sr.name)=some (.int (m:Int)):=hm
  refine hte _ m _ _ (s' _ _ hd) hm' ?_
  have:rk kvs (.str sr.name)=.int (m:Int):=by
   show (bi kvs (.inr sr.name)).getD .non=_
   rw [hm']
   rfl
  rw [this]at hk
  exact hk
 ·intro p H' hp s' gp
  rw [gm hm]at gp
  exact hQ p H' hp s' gp
theorem hJ {H:Hp} {d:Addr} {kvs:List (Key×V)} {x:Str} {v:V} (g:H d=some (.dK kvs)) (e:bi kvs (.inr x)=some v):DGet H d (.str x) (some v):=by
 rw [<- e]
 exact DGet.k (k:=.inr x) g
theorem jX: ∀ (l:List Nat) (i m:Nat),l[i]? =some m->bd (l.drop i)=m+bd (l.drop (i+1))
 | [],i,m,h=>by cases i <;> cases h
 | a::r,0,m,h=>by cases h;rfl
 | a::r,i+1,m,h=>jX r i m h
inductive fX (n:Nat) (vs:List V) (H:Hp) (Q:VK) (E_:XK):Prop
 | mk: ∀ tp bv d bk s r m,(vs=[.ref tp,bv,.ref d,.str (Srt.name s),.int ((r:Nat):Int)])->(RepB H bk bv)->(BookOk bk)->(LI bk (aY bk))->(H d=some (.dK (aY bk)))->(Tp H tp)->(s∈bk.sorts)->(Lst (aY bk) s m)->(m<=r)->(r<=n)->(r<=1000)->(∀ v t H',RepT H' n t v->TreeOk bk n t s->t.sz<=r->Kp tp H H'->Tp H' tp->Q v H')->fX n vs H Q E_
noncomputable abbrev qf:List Str:=["tape","book","least","sort","room","forms","form","spare","parts","name","more"]
theorem scTree:aI qf ["tape","book","least","sort","room"] (aj i6):=fsc
theorem tw {n:Nat} (F:Fun K "_law_tree" "_law_tree" i6 f fd) (G:Gb mg) (hsum:mg "sum"=none)
  (GD:FnOk P w K mg base CX0 1 g gd ["tape","many"] cc) (bD:Binds K gd ["tape","many"] []) (kD:PySem.W.keepIn K (.ref g)=true) (mD:mg "_law_digit"=some (.ref g))
  (GT:FnOk P w K mg base CX0 (n+2) f fd ["tape","book","least","sort","room"] (fX n)) (bT:Binds K fd ["tape","book","least","sort","room"] []) (mT:mg "_law_tree"=some (.ref f)):
  FnOk P w K mg base CX0 (n+3) f fd ["tape","book","least","sort","room"] (fX (n+1)):=by
 refine F.ok scTree (fun vs H Q E h=>?_) (fun cdv A outer s H vs Q E hr h=>?_)
 ·obtain ⟨tp,bv,d,bk,sr,r,m,rfl,_⟩:=h
  rfl
 obtain ⟨tp,bv,d,bk,sr,r,m,rfl,hB,hok,hI,gd0,tt0,hsr,hm,hmr,hrn,hr1000,q⟩:=h
 have hB':=hB
 obtain ⟨a,sa,fa,fv,rfl,ha,⟨sx,hsa,hS⟩,hfa,hF⟩:=hB'
 have hu:=jy hr
 have hr1:=hr.mono (show 1<=n+2 by lia)
 refine ⟨_,af (aq (i:=5) scTree.nd rfl (Or.inl rfl) (bh ad))
  (af (cr PassesOwn.never rfl (bZ (au (r:=aV K) ax (pv 1) ae (fun _ _=>rfl))) (aS (i:=6) scTree.nd rfl (Or.inl rfl))
   (ak (a7 (PW.pt (ge (aA bV (au (r:=aV K) ax (pv 6) ae (fun _ _=>rfl)) (pv 3) (aE _))
     (eG (dQ (ao (jK rfl) rfl G.all (by decide +kernel) (aa (cW (sc0:=aj i6) (N0:=qf) (ys:=["least"]) (fr:=[2]) rfl (bZ (au (r:=aV K) ax (pv 6) ae (fun _ _=>rfl))) rfl rfl
       cok (fun C s H ex=>sY (ox hu (pv 0) (pv 1)))) ad))))))
    (ak (a7 (aA xG (ar aU ae (ao (jJ rfl) rfl hsum (by decide +kernel) (aa (cW (sc0:=aj i6) (N0:=qf) (ys:=["least"]) (fr:=[2]) rfl (bZ (au (r:=aV K) ax (pv 6) ae (fun _ _=>rfl))) rfl rfl
       cok (fun C s H ex=>dg hu (pv 1) (pv 0) (fun _ _=>rfl))) ad))) (pv 4) (aE _))
     (ak (cx (dw PySem.F.plainAttrs_list PySem.F.slot_list_append PySem.F.type_list_append bK (pv 5) (aa (pv 6) ad)))) aH)) aH)))
  (af (aq (i:=6) scTree.nd rfl (Or.inl rfl) (au (r:=cD K) aW (pv 5) (am GD hr1 rfl mD kD bD .nil aD (aa (pv 0) (aa (ao (r:=cA K) aw rfl G.len PySem.boot_len (aa (pv 5) ad)) ad))) (fun _ _=>rfl)))
  (af (aq (i:=7) scTree.nd rfl (Or.inl rfl) (ar dz (ar dz (pv 4) ae) (ao (jJ rfl) rfl hsum (by decide +kernel) (aa (cW (sc0:=aj i6) (N0:=qf) (ys:=["least"]) (fr:=[2]) rfl (bZ (au (r:=aV K) ax (pv 6) ae (fun _ _=>rfl))) rfl rfl
       cok (fun C s H ex=>dg hu (pv 1) (pv 0) (fun _ _=>rfl))) ad))))
  (af (aq (i:=8) scTree.nd rfl (Or.inl rfl) (bh ad))
  (af (cr PassesOwn.never rfl (bZ (au (r:=aV K) ax (pv 6) ae (fun _ _=>rfl))) (aS (i:=9) scTree.nd rfl (Or.inl rfl))
   (af (aq (i:=10) scTree.nd rfl (Or.inl rfl) (am GD hr1 rfl mD kD bD .nil aD (aa (pv 0) (aa (ar aU (pv 7) ae) ad))))
   (af (aq (i:=7) scTree.nd rfl (Or.inl rfl) (ar dz (pv 7) (pv 10)))
   (ak (cx (dw PySem.F.plainAttrs_list PySem.F.slot_list_append PySem.F.type_list_append bK (pv 8) (aa
    (am GT hr rfl mT F.kp bT .nil aD (aa (pv 0) (aa (pv 1) (aa (pv 2) (aa (pv 9) (aa (ar aU (dg hu (pv 2) (pv 9) (fun _ _=>rfl)) (pv 10)) ad)))))) ad)))))))
  (ak (aF (aZ (aa (au (r:=aV K) ax (pv 6) ae (fun _ _=>rfl)) (aa (bq (r:=dv K) bn rfl G.tuple (by decide +kernel) (aa (pv 8) ad)) ad)))))))))),?_⟩
 refine ⟨(by show 0<=sizeLine;decide),fun fl hfl=>?_⟩
 have s0:=ag hfl (.lst [])
 have g0:(upd H fl (.lst [])) fl=some (.lst []):=ac
 generalize upd H fl (.lst [])=H0 at s0 g0 ⊢
 have lF:=hF.len
 have h10:=hok.few
 have hfree: ∀ {fr:Frm},fr∈bk.forms->fr.own∈bk.sorts/\fr.parts.length<=3/\ ∀ p∈fr.parts,p∈bk.sorts:=fun {fr} hf=>by
  obtain ⟨mode,_,hfo⟩:=hok.fo
  obtain ⟨h1,h2,h3,_⟩:=hfo fr hf
  exact ⟨h1,h3,h2⟩
 refine ⟨_,rfl,a,_,2,.ref fa,rfl,rfl,SqT.of (s0 _ _ ha),ay (j:=2) rfl,fa,rfl,⟨fv,SqT.of (s0 _ _ hfa)⟩,?_⟩
 refine dJ (xs:=fv) (fun i σ H'=>i<=fv.length/\ ∃ o6 xs frs,σ=[some (.ref tp),some (.ref a),some (.ref d),some (.str sr.name),some (.int (r:Int)),some (.ref fl),o6,none,none,none,none]/\Same H H'/\H' fl=some (.lst xs)/\RepFs H' frs xs/\xs.length<=i/\
   (∀ fr∈frs,fr∈bk.forms/\Frm.own fr=sr/\ ∃ ms,Paired (Lst (aY bk)) fr.parts ms/\1+bd ms<=r)/\(∀ fr ms,fr∈bk.forms.take i->Frm.own fr=sr->Paired (Lst (aY bk)) fr.parts ms->1+bd ms<=r->frs≠[]))
  ⟨Nat.zero_le _,none,[],[],rfl,s0,g0,.nil,Nat.le_refl _,fun fr h=>(by cases h),fun fr ms h=>(by cases h)⟩ (fun i σ H' _ h=>by obtain ⟨_,_,_,_,_,sm,_⟩:=h;exact SqT.of (sm _ _ hfa)) ?_ ?_
 ·rintro i x σ H1 hx ⟨hi,o6,xs,frs,rfl,S1,gf1,hR1,hl1,hg1,hn1⟩
  have hil:i<fv.length:=(List.getElem?_eq_some_iff.mp hx).1
  obtain ⟨fr,hfr,b,pa,ra,rv,rfl,hb,hpa,hra,hRr⟩:=aX hF hx
  have hfm:=List.mem_of_getElem? hfr
  obtain ⟨hown,hp3,hpin⟩:=hfree hfm
  have etk:bk.forms.take (i+1)=bk.forms.take i++[fr]:=by rw [List.take_add_one,hfr];rfl
  have stay: ∀ {H2:Hp},Same H1 H2-> ¬ (fr.own=sr/\ ∃ ms,Paired (Lst (aY bk)) fr.parts ms/\1+bd ms<=r)->i+1<=fv.length/\ ∃ o6 xs' frs',[some (V.ref tp),some (.ref a),some (.ref d),some (.str sr.name),some (.int (r:Int)),some (.ref fl),some (.ref b),none,none,none,none]=[some (.ref tp),some (.ref a),some (.ref d),some (.str sr.name),some (.int (r:Int)),some (.ref fl),o6,none,none,none,none]/\Same H H2/\H2 fl=some (.lst xs')/\RepFs H2 frs' xs'/\xs'.length<=i+1/\
   (∀ fr∈frs',fr∈bk.forms/\Frm.own fr=sr/\ ∃ ms,Paired (Lst (aY bk)) fr.parts ms/\1+bd ms<=r)/\(∀ fr ms,fr∈bk.forms.take (i+1)->Frm.own fr=sr->Paired (Lst (aY bk)) fr.parts ms->1+bd ms<=r->frs'≠[]):=by
   intro H2 s2 hno
   refine ⟨hil,_,xs,frs,rfl,S1.trans s2,s2 _ _ gf1,hR1.mono (aG s2),by lia,hg1,fun fr' ms h1 h2 h3 h4=>?_⟩
   rw [etk,List.mem_append,List.mem_singleton]at h1
   rcases h1 with h1 | rfl
   ·exact hn1 fr' ms h1 h2 h3 h4
   ·exact absurd ⟨h2,ms,h3,h4⟩ hno
  refine ⟨_,rfl,b,_,1,_,rfl,rfl,SqT.of (S1 _ _ hb),ay (j:=1) rfl,_,rfl,rfl,_,rfl,?_⟩
  refine bE (fun c=>?_) (fun c=>?_)
  ·have c':fr.own.name=sr.name:=V.str.inj (of_decide_eq_true c)
   have eo:=pf hok.so.2.2.1 hown hsr c'
   refine ⟨_,rfl,b,_,2,.ref pa,rfl,rfl,SqT.of (S1 _ _ hb),ay (j:=2) rfl,pa,rfl,⟨_,SqT.of (S1 _ _ hpa)⟩,?_⟩
   refine uu (d:=d) (kvs:=aY bk) (S1 _ _ gd0) (S1 _ _ hpa) (by lia) (fun x H' k g hk=>⟨_,rfl,_,rfl,d,_,rfl,DGet.k (k:=.inr x) g,hk⟩) fun p2 H2 hp2 s2 gp2=>?_
   refine ⟨p2,_,rfl,SqL.of gp2,_,rfl,?_⟩
   refine bE (fun c2=>?_) (fun c2=>?_)
   ·obtain ⟨ms,hms⟩:=jl hI _ c2
    have hsm:=dh hI hok hms
    have lms:fr.parts.length=ms.length:=Paired.length hms
    have S2:Same H H2:=S1.trans s2
    refine ⟨_,rfl,b,_,2,.ref pa,rfl,rfl,SqT.of (S2 _ _ hb),ay (j:=2) rfl,pa,rfl,⟨_,SqT.of (S2 _ _ hpa)⟩,?_⟩
    refine kr (d:=d) hms (S2 _ _ gd0) (S2 _ _ hpa) (by lia) (fun x m H' k g e hk=>⟨_,rfl,_,rfl,d,_,rfl,hJ g e,hk⟩) fun p3 H3 hp3' s3 gp3=>?_
    refine ⟨p3,_,rfl,SqL.of gp3,by rw [List.length_map];lia,?_,?_⟩
    ·intro n' hn'
     obtain ⟨m',hm',rfl⟩:=List.mem_map.mp hn'
     have:=hsm m' hm'
     lia
    rw [gC]
    refine ⟨_,_,rfl,rfl,_,rfl,_,_,rfl,rfl,_,rfl,?_⟩
    have S3:Same H H3:=S2.trans s3
    refine bE (fun c3=>?_) (fun c3=>?_)
    ·have c3':(1:Int) + (bd ms:Int)<=(r:Int):=of_decide_eq_true c3
     have gf3:=s3 _ _ (s2 _ _ gf1)
     refine ⟨_,rfl,.inl ⟨rfl,_,SqL.of gf3⟩,_,rfl,fl,xs,.ref b,rfl,rfl,gf3,av (by lia),?_⟩
     have tk:TK H3 (upd H3 fl (.lst (xs++[.ref b]))):=TK.lst gf3
     have tk1:TK H1 (upd H3 fl (.lst (xs++[.ref b]))):=((aG s2).trans (aG s3)).trans tk
     refine ⟨hil,_,xs++[.ref b],frs++[fr],rfl,?_,ac,Paired.snoc (hR1.mono tk1) ⟨b,pa,ra,rv,rfl,tk1 _ _ (S1 _ _ hb),tk1 _ _ (S1 _ _ hpa),tk1 _ _ (S1 _ _ hra),(hRr.mono (aG S1)).mono tk1⟩,by rw [List.length_append];show xs.length+1<=i+1;lia,?_,?_⟩
     ·intro y oo h
      rw [al (ah h hfl)]
      exact S3 _ _ h
     ·intro fr' hf'
      rw [List.mem_append,List.mem_singleton]at hf'
      rcases hf' with hf' | rfl
      ·exact hg1 fr' hf'
      ·exact ⟨hfm,eo,ms,hms,by lia⟩
     ·intro _ _ _ _ _ _ z
      exact absurd (List.append_eq_nil_iff.mp z).2 (by simp)
    ·refine stay (s2.trans s3) ?_
     rintro ⟨_,ms',h1,h2⟩
     have:ms'=ms:=by
      have e1:=eJ h1
      have e2:=eJ hms
      rw [e1]at e2
      exact e2
     subst this
     exact c3 (decide_eq_true (by show (1:Int) + (bd ms':Int)<=(r:Int);lia))
   ·refine stay s2 ?_
    rintro ⟨_,ms',h1,_⟩
    refine c2 ?_
    rw [List.all_eq_true]
    intro y hy
    obtain ⟨p,hp,rfl⟩:=List.mem_map.mp hy
    obtain ⟨i',hi'⟩:=List.getElem?_of_mem hp
    obtain ⟨m',_,hm'⟩:=bQ h1 hi'
    show dB (aY bk) p=true
    unfold dB
    rw [show bi (aY bk) (.inr p.name)=some (.int (m':Int))from hm']
    rfl
  ·refine stay (fun _ _ h=>h) ?_
   rintro ⟨e,_⟩
   exact c (decide_eq_true (by rw [e]))
 ·rintro σ H1 ⟨_,o6,xs,frs,rfl,S1,gf1,hR1,hl1,hg1,hn1⟩
  rw [<- lF,List.take_length]at hn1
  obtain ⟨fr0,q1,q2,ms0,q3,q4⟩:=hI.cl _ _ hsr hm
  have hne:frs≠[]:=hn1 fr0 ms0 q1 q2 q3 (by lia)
  have lxs:=hR1.len
  have lpos:0<frs.length:=List.length_pos_iff.mpr hne
  have tt1:Tp H1 tp:=tt0.same S1
  refine ⟨_,rfl,_,rfl,_,rfl,fl,xs,rfl,.inl (SqL.of gf1),tp,_,rfl,tt1,by lia,by lia,fun dd t1 hd0 hd1=>?_⟩
  obtain ⟨x,ex,ex2⟩:=eQ hd0 hd1
  obtain ⟨fr,hfr,hRf⟩:=aX hR1 ex2
  obtain ⟨hfm,eo,ms,hms,hmsr⟩:=hg1 fr (List.mem_of_getElem? hfr)
  obtain ⟨hown,hp3,hpin⟩:=hfree hfm
  have hsm:=dh hI hok hms
  have lms:fr.parts.length=ms.length:=Paired.length hms
  have nfl:fl≠tp:=Ne.symm (dl tt0 hfl).symm
  have k2:Kp tp H (upd H1 tp (.lst [.int t1])):=(Kp.refl.same S1).trans Kp.tape
  have tt2:Tp (upd H1 tp (.lst [.int t1])) tp:=⟨t1,ac⟩
  have gf2:(upd H1 tp (.lst [.int t1])) fl=some (.lst xs):=by rw [al nfl];exact gf1
  have hRf2:RepF (upd H1 tp (.lst [.int t1])) fr x:=hRf.mono (Kp.tk Kp.tape tt1)
  generalize upd H1 tp (.lst [.int t1])=H2 at k2 tt2 gf2 hRf2 ⊢
  refine ⟨fl,xs,dd,x,rfl,rfl,SqL.of gf2,ex,?_⟩
  obtain ⟨b,pa,ra,rv,rfl,hb,hpa,hra,hRr⟩:=hRf2
  have ndt:d≠tp:=fun e=>by obtain ⟨t,ht⟩:=tt0;rw [e,ht]at gd0;cases gd0
  have gd2:H2 d=some (.dK (aY bk)):=k2 _ _ gd0 ndt
  refine ⟨_,rfl,_,_,rfl,rfl,_,rfl,b,_,2,.ref pa,rfl,rfl,SqT.of hb,ay (j:=2) rfl,pa,rfl,⟨_,SqT.of hpa⟩,?_⟩
  refine kr (d:=d) hms gd2 hpa (by lia) (fun x m H' k g e hk=>⟨_,rfl,_,rfl,d,_,rfl,hJ g e,hk⟩) fun p3 H3 hp3' s3 gp3=>?_
  refine ⟨p3,_,rfl,SqL.of gp3,by rw [List.length_map];lia,?_,?_⟩
  ·intro n' hn'
   obtain ⟨m',hm',rfl⟩:=List.mem_map.mp hn'
   have:=hsm m' hm'
   lia
  rw [gC]
  refine ⟨_,_,rfl,rfl,?_⟩
  rw [show (V.int ((r:Int) -1- (bd ms:Int)))=V.int ((r-1-bd ms:Nat):Int)from congrArg V.int (show (r:Int) -1- (bd ms:Int)=((r-1-bd ms:Nat):Int) by lia)]
  have k3:Kp tp H H3:=k2.same s3
  have tt3:=tt2.same s3
  refine ⟨(by show 0<=sizeLine;decide),fun pl hpl=>?_⟩
  have s4:=ag hpl (.lst [])
  have g4:(upd H3 pl (.lst [])) pl=some (.lst []):=ac
  have npl:pl≠tp:=dl tt3 hpl
  generalize upd H3 pl (.lst [])=H4 at s4 g4 ⊢
  have k4:Kp tp H H4:=k3.same s4
  have tt4:=tt3.same s4
  have hb4:=s4 _ _ (s3 _ _ hb)
  have hpa4:=s4 _ _ (s3 _ _ hpa)
  have hpl0:H pl=none:=by
   cases e:H pl with
   | none=>rfl
   | some o=>exact absurd (k3 _ _ e npl) (by rw [hpl];intro z;cases z)
  have nb:b≠tp:=fun e=>by obtain ⟨t,ht⟩:=tt4;rw [e,ht]at hb4;cases hb4
  have npa:pa≠tp:=fun e=>by obtain ⟨t,ht⟩:=tt4;rw [e,ht]at hpa4;cases hpa4
  have nbl:b≠pl:=ah (s3 _ _ hb) hpl
  have npal:pa≠pl:=ah (s3 _ _ hpa) hpl
  refine ⟨_,rfl,b,_,2,.ref pa,rfl,rfl,SqT.of hb4,ay (j:=2) rfl,pa,rfl,⟨_,SqT.of hpa4⟩,?_⟩
  refine dJ (xs:=bc fr.parts) (fun i σ H'=>i<=(bc fr.parts).length/\ ∃ o9 o10 sp pvs ts,σ=[some (.ref tp),some (.ref a),some (.ref d),some (.str sr.name),some (.int (r:Int)),some (.ref fl),some (.ref b),some (.int ((sp:Nat):Int)),some (.ref pl),o9,o10]/\Kp tp H H'/\Tp H' tp/\H' b=some (.tup [.str fr.name,.str fr.own.name,.ref pa,.ref ra])/\H' pa=some (.tup (bc fr.parts))/\H' pl=some (.lst pvs)/\
    Paired (RepT H' n) ts pvs/\Paired (TreeOk bk n) ts (fr.parts.take i)/\szL ts+bd (ms.drop i) +1+sp<=r)
   ⟨Nat.zero_le _,none,none,r-1-bd ms,[],[],rfl,k4,tt4,hb4,hpa4,g4,.nil,.nil,by show 0+bd ms+1+_<=r;lia⟩ (fun i σ H' _ h=>by obtain ⟨_,_,_,_,_,_,_,_,_,_,h,_⟩:=h;exact SqT.of h) ?_ ?_
  ·rintro i x σ H5 hx ⟨hi,o9,o10,sp,pvs,ts,rfl,k5,tt5,hb5,hpa5,gp5,hT5,hO5,hs5⟩
   have hil:i< (bc fr.parts).length:=(List.getElem?_eq_some_iff.mp hx).1
   rw [bf]at hil
   obtain ⟨pq,hpq⟩: ∃ pq,fr.parts[i]? =some pq:=⟨fr.parts[i],List.getElem?_eq_getElem hil⟩
   obtain ⟨mi,hmi,hLi⟩:=bQ hms hpq
   have hdrop:=jX ms i mi hmi
   have ex:x=.str pq.name:=by
    unfold bc at hx
    rw [List.getElem?_map,hpq]at hx
    exact (Option.some.inj hx).symm
   subst ex
   refine ⟨_,rfl,_,rfl,_,_,rfl,rfl,tp,_,rfl,tt5,by show (0:Int) < (sp:Int) +1;lia,by show (sp:Int) +1<_;lia,fun mo t2 hm0 hm1=>?_⟩
   obtain ⟨mo,rfl⟩: ∃ k:Nat,mo=(k:Int):=⟨mo.toNat,by lia⟩
   have hm1':mo<=sp:=by
    have:(mo:Int) < (sp:Int) +1:=hm1
    lia
   have k6:Kp tp H5 (upd H5 tp (.lst [.int t2])):=Kp.tape
   have tt6:Tp (upd H5 tp (.lst [.int t2])) tp:=⟨t2,ac⟩
   generalize upd H5 tp (.lst [.int t2])=H6 at k6 tt6 ⊢
   refine ⟨_,rfl,_,rfl,_,_,rfl,rfl,?_⟩
   rw [show (V.int ((sp:Int) - (mo:Int)))=V.int ((sp-mo:Nat):Int)from congrArg V.int (show (sp:Int) - (mo:Int)=((sp-mo:Nat):Int) by lia)]
   have k06:Kp tp H H6:=k5.trans k6
   have gp6:=k6 _ _ gp5 npl
   have gd6:=k06 _ _ gd0 ndt
   refine ⟨_,rfl,.inl ⟨rfl,_,SqL.of gp6⟩,?_⟩
   refine ⟨_,rfl,_,rfl,_,rfl,_,rfl,_,rfl,_,rfl,d,_,rfl,hJ gd6 hLi,_,rfl,_,_,rfl,rfl,?_⟩
   refine ⟨tp,_,d,bk,pq,mi+mo,mi,rfl,hB.mono (k06.tk tt0),hok,hI,gd6,tt6,hpin pq (List.mem_of_getElem? hpq),hLi,by lia,by lia,by lia,fun v t H7 rT tO tsz k7 tt7=>?_⟩
   have gp7:=k7 _ _ gp6 npl
   have lts:=Paired.length hT5
   have lto:=Paired.length hO5
   rw [List.length_take]at lto
   refine ⟨pl,pvs,v,rfl,rfl,gp7,av (by lia),?_⟩
   have tk:TK H7 (upd H7 pl (.lst (pvs++[v]))):=TK.lst gp7
   have tk5:TK H5 H7:=(k6.trans k7).tk tt5
   refine ⟨by rw [bf];exact hil,_,_,sp-mo,pvs++[v],ts++[t],rfl,?_,?_,?_,?_,ac,?_,?_,?_⟩
   ·intro y oo h hny
    rw [al (ah h hpl0)]
    exact (k06.trans k7) _ _ h hny
   ·obtain ⟨t',ht'⟩:=tt7
    exact ⟨t',by rw [al (Ne.symm npl)];exact ht'⟩
   ·exact tk _ _ (tk5 _ _ hb5)
   ·exact tk _ _ (tk5 _ _ hpa5)
   ·exact Paired.snoc (Paired.mapP hT5 fun _ _ r=>r.mono (tk5.trans tk)) (rT.mono tk)
   ·rw [List.take_add_one,hpq]
    exact Paired.snoc hO5 tO
   ·rw [eB]
    show szL ts+ (t.sz+0) +bd (ms.drop (i+1)) +1+ (sp-mo)<=r
    lia
  ·rintro σ H5 ⟨_,o9,o10,sp,pvs,ts,rfl,k5,tt5,hb5,hpa5,gp5,hT5,hO5,hs5⟩
   rw [bf,List.take_length]at hO5
   refine ⟨_,rfl,b,_,0,_,rfl,rfl,SqT.of hb5,cT,_,rfl,pl,pvs,rfl,.inl ⟨SqL.of gp5,fun pt hpt=>?_⟩⟩
   have s6:=ag hpt (.tup pvs)
   have g6:(upd H5 pt (.tup pvs)) pt=some (.tup pvs):=ac
   generalize upd H5 pt (.tup pvs)=H6 at s6 g6 ⊢
   refine ⟨(by show 2<=sizeLine;decide),fun pu hpu=>?_⟩
   have s7:=ag hpu (.tup [.str fr.name,.ref pt])
   refine q _ (.mk fr.name ts) _ ⟨pu,pt,pvs,rfl,ac,s7 _ _ g6,Paired.mapP hT5 fun _ _ r=>r.mono ((aG s6).trans (aG s7))⟩ ⟨⟨m,hm⟩,fr,hfm,rfl,eo,hO5⟩ ?_ ((k5.same s6).same s7) ((tt5.same s6).same s7)
   rw [bY]
   show szL ts+1<=r
   lia
theorem tD:FnOk P w K mg base CX0 2 f fd ["tape","book","least","sort","room"] (fX 0):=by
 have no: ∀ vs H Q E,¬ fX 0 vs H Q E:=fun vs H Q E h=>by
  obtain ⟨tp,bv,d,bk,sr,r,m,rfl,hB,hok,hI,gd0,tt0,hsr,hm,hmr,hrn,_⟩:=h
  have:=(hI.small hok hm).1
  lia
 exact ⟨fun vs H Q E h=>absurd h (no vs H Q E),fun A outer s H args us vs Q E _ _ _ _ h=>absurd h (no vs H Q E)⟩
theorem pK (F:Fun K "_law_tree" "_law_tree" i6 f fd) (G:Gb mg) (hsum:mg "sum"=none)
  (GD:FnOk P w K mg base CX0 1 g gd ["tape","many"] cc) (bD:Binds K gd ["tape","many"] []) (kD:PySem.W.keepIn K (.ref g)=true) (mD:mg "_law_digit"=some (.ref g))
  (bT:Binds K fd ["tape","book","least","sort","room"] []) (mT:mg "_law_tree"=some (.ref f)): ∀ n:Nat,FnOk P w K mg base CX0 (n+2) f fd ["tape","book","least","sort","room"] (fX n)
 | 0=>tD
 | n+1=>tw F G hsum GD bD kD mD (pK F G hsum GD bD kD mD bT mT n) bT mT
theorem uw {α:Type} {J:It} {as:List α} {xs:List V} {A:α->V->Prop} {fr:List Nat} {tc:TT} {te:TE} {σ:St} {H1:Hp} {Q:VK} (hn:xs.length<=1000) (hP:Paired A as xs)
  (hgo: ∀ i H,Same H1 H->i<xs.length->J.go i H) (hst: ∀ H,Same H1 H->J.stop xs.length H) (hy: ∀ i H v H',Same H1 H->J.yld i H v H'->H'=H/\xs[i]? =some v)
  (c:α->Bool) (R:Hp->α->V->Prop) (mono: ∀ {H H':Hp} {a:α} {v:V},TK H H'->R H a v->R H' a v)
  (htc: ∀ a v H (k:Bool->Hp->Prop),a∈as->A a v->Same H1 H->k (c a) H->tc (some v::cf fr σ) H k)
  (hte: ∀ a v H (k:VK),a∈as->A a v->c a=true->Same H1 H->(∀ u H',Same H H'->R H' a u->k u H')->te (some v::cf fr σ) H k)
  (hd: ∀ p zs H',H1 p=none->Same H1 H'->H' p=some (.lst zs)->Paired (R H') (as.filter c) zs->Q (.ref p) H'):kQ fr tc te σ J H1 Q:=by
 intro p hp
 refine ⟨fun i m zs H=>i<=xs.length/\m=xs.length-i/\Same H1 H/\H p=some (.lst zs)/\zs.length<=i/\Paired (R H) ((as.take i).filter c) zs,⟨_,Nat.zero_le _,rfl,ag hp _,ac,Nat.le_refl _,.nil⟩,?_⟩
 rintro i m zs H ⟨hi,hm,sm,gp,hz,hT⟩
 refine ⟨gp,?_⟩
 by_cases e:i=xs.length
 ·subst e
  rw [<- Paired.length hP,List.take_length]at hT
  exact .inl ⟨hst H sm,hd p zs H hp sm gp hT⟩
 ·have hlt:i<xs.length:=by lia
  refine .inr ⟨hgo i H sm hlt,av (by lia),fun v H' hv=>?_⟩
  obtain ⟨rfl,hv2⟩:=hy i H v H' sm hv
  obtain ⟨a,ha,hA⟩:=aX hP hv2
  have etk:(as.take (i+1)).filter c=(as.take i).filter c++(if c a then [a]else []):=take_succ_filter c as i a ha
  refine htc a v _ _ (List.mem_of_getElem? ha) hA sm ?_
  by_cases hc:c a=true
  ·rw [if_pos hc]at etk
   show if c a=true then _ else _
   rw [if_pos hc]
   refine hte a v _ _ (List.mem_of_getElem? ha) hA hc sm fun u H2 s2 r=>?_
   have gp2:=s2 _ _ gp
   have tk:TK H2 (upd H2 p (.lst (zs++[u]))):=TK.lst gp2
   refine ⟨gp2,xs.length- (i+1),by lia,by lia,rfl,?_,ac,by rw [List.length_append];show zs.length+1<=i+1;lia,?_⟩
   ·intro b o hb
    rw [al (ah hb hp)]
    exact s2 _ _ (sm _ _ hb)
   ·rw [etk]
    exact Paired.snoc (Paired.mapP hT fun _ _ r=>mono ((aG s2).trans tk) r) (mono tk r)
  ·rw [if_neg hc,List.append_nil]at etk
   show if c a=true then _ else _
   rw [if_neg hc]
   exact ⟨xs.length- (i+1),by lia,by lia,rfl,sm,gp,by lia,by rw [etk];exact hT⟩
theorem fK {α:Type} {h:α->V}: ∀ {l:List α} {r:List V},Paired (fun (a:α) (v:V)=>v=h a) l r->r=l.map h
 | _,_,.nil=>rfl
 | _,_,.cons a t=>by rw [a,fK t];rfl
inductive iQ (n:Nat) (vs:List V) (H:Hp) (Q:VK) (E_:XK):Prop
 | mk: ∀ tp bv bk r,(vs=[.ref tp,bv,.int ((r:Nat):Int)])->(RepB H bk bv)->(BookOk bk)->(Tp H tp)->(max r 40<=n)->(n<=1000)->(∀ v t s H',RepT H' n t v->s∈bk.sorts->TreeOk bk n t s->t.sz<=max r 40->LI bk (aY bk)->Kp tp H H'->Tp H' tp->Q v H')->iQ n vs H Q E_
noncomputable abbrev uF:List Str:=["tape","book","room","least","sort","grown"]
theorem scGrown:aI uF ["tape","book","room"] (aj lE):=fsc
theorem tL {n:Nat} (F:Fun K "_law_grown_tree" "_law_grown_tree" lE f fd) (G:Gb mg)
  (GD:FnOk P w K mg base CX0 1 g gd ["tape","many"] cc) (bD:Binds K gd ["tape","many"] []) (kD:PySem.W.keepIn K (.ref g)=true) (mD:mg "_law_digit"=some (.ref g))
  (GL:FnOk P w K mg base CX0 1 f2 fd2 ["book"] la) (bL:Binds K fd2 ["book"] []) (kL:PySem.W.keepIn K (.ref f2)=true) (mL:mg "_law_least"=some (.ref f2))
  (GT:FnOk P w K mg base CX0 (n+2) f3 fd3 ["tape","book","least","sort","room"] (fX n)) (bT:Binds K fd3 ["tape","book","least","sort","room"] []) (kT:PySem.W.keepIn K (.ref f3)=true) (mT:mg "_law_tree"=some (.ref f3)):
  FnOk P w K mg base CX0 (n+3) f fd ["tape","book","room"] (iQ n):=by
 refine F.ok scGrown (fun vs H Q E h=>?_) (fun cdv A outer s H vs Q E hr h=>?_)
 ·obtain ⟨tp,bv,bk,r,rfl,_⟩:=h
  rfl
 obtain ⟨tp,bv,bk,r,rfl,hB,hok,tt0,hrn,hn1000,q⟩:=h
 have hB':=hB
 obtain ⟨a,sa,fa,fv,rfl,ha,⟨sx,hsa,hS⟩,hfa,hF⟩:=hB'
 have hu:=jy hr
 have hr1:=hr.mono (show 1<=n+2 by lia)
 refine ⟨_,af (aq (i:=3) scGrown.nd rfl (Or.inr rfl) (am GL hr1 rfl mL kL bL .nil aD (aa (pv 1) ad)))
  (af (sO (i:=5) (sc0:=aj lE) (N0:=uF) (ys:=["least"]) (fr:=[3]) rfl scGrown.nd rfl (Or.inl rfl)
    (bZ (au (r:=aV K) ax (pv 1) ae (fun _ _=>rfl))) rfl rfl
    cok
    (fun C s H ex=>lK (ox hu (au (r:=aV K) ax (pv 0) ae (fun _ _=>rfl)) (pv 1)))
    (fun C s H ex=>au (r:=aV K) ax (pv 0) ae (fun _ _=>rfl)))
  (af (aq (i:=4) scGrown.nd rfl (Or.inl rfl) (au (r:=cD K) aW (pv 5) (am GD hr1 rfl mD kD bD .nil aD (aa (pv 0) (aa (ao (r:=cA K) aw rfl G.len PySem.boot_len (aa (pv 5) ad)) ad))) (fun _ _=>rfl)))
  (ak (aF (am GT hr rfl mT kT bT .nil aD (aa (pv 0) (aa (pv 1) (aa (pv 3) (aa (pv 4) (aa
   (ao (iA rfl) rfl G.max (by decide +kernel) (aa (pv 2) (aa (dg hu (pv 3) (pv 4) (fun _ _=>rfl)) ad))) ad)))))))))),?_⟩
 refine ⟨_,rfl,_,bk,rfl,hB,hok,fun d H1 hd s1 gd1 hI hT=>?_⟩
 have h4:=hok.so.2.1
 have lS:=hS.len
 refine ⟨_,rfl,a,_,1,.ref sa,rfl,rfl,SqT.of (s1 _ _ ha),ay (j:=1) rfl,sa,rfl,⟨sx,SqT.of (s1 _ _ hsa)⟩,?_⟩
 refine uw (by lia) hS (iu (s1 _ _ hsa)) (ir (s1 _ _ hsa)) (kg (s1 _ _ hsa)) (dB (aY bk)) (fun _ s v=>v=.str s.name) (fun _ h=>h) ?_ ?_ ?_
 ·rintro sr v H' k _ ⟨a1,b1,c1,rfl,g1,_⟩ s' hk
  exact ⟨_,rfl,a1,_,0,_,rfl,rfl,SqT.of (s' _ _ (s1 _ _ g1)),cT,_,rfl,d,_,rfl,DGet.k (k:=.inr sr.name) (s' _ _ gd1),_,rfl,hk⟩
 ·rintro sr v H' k _ ⟨a1,b1,c1,rfl,g1,_⟩ _ s' hk
  exact ⟨_,rfl,a1,_,0,_,rfl,rfl,SqT.of (s' _ _ (s1 _ _ g1)),cT,hk _ _ (fun _ _ h=>h) rfl⟩
 intro gl zs H2 hgl s2 ggl hz
 have ez:=fK hz
 subst ez
 have S2:Same H H2:=s1.trans s2
 have tt2:=tt0.same S2
 have hpos:0< (bk.sorts.filter (dB (aY bk))).length:=by
  have h1:=hok.so.1
  have h2:=hok.more
  obtain ⟨fr,hfr,m,hm⟩:=hT
  obtain ⟨mode,_,hfo⟩:=hok.fo
  have:=(hfo fr hfr).1
  refine List.length_pos_of_mem (List.mem_filter.mpr ⟨this,?_⟩)
  unfold dB
  rw [show bi (aY bk) (.inr fr.own.name)=_ from hm]
  rfl
 have hfl:(bk.sorts.filter (dB (aY bk))).length<=bk.sorts.length:=List.length_filter_le _ _
 have lmap:((bk.sorts.filter (dB (aY bk))).map fun s=>V.str (Srt.name s)).length=(bk.sorts.filter (dB (aY bk))).length:=List.length_map _
 refine ⟨_,rfl,_,rfl,_,rfl,gl,_,rfl,.inl (SqL.of ggl),tp,_,rfl,tt2,by lia,by lia,fun dd t1 hd0 hd1=>?_⟩
 obtain ⟨x,ex,ex2⟩:=eQ hd0 hd1
 have k3:Kp tp H (upd H2 tp (.lst [.int t1])):=(Kp.refl.same S2).trans Kp.tape
 have tt3:Tp (upd H2 tp (.lst [.int t1])) tp:=⟨t1,ac⟩
 have ngl:gl≠tp:=dl (tt0.same s1) hgl
 have nd:d≠tp:=dl tt0 hd
 have g3:(upd H2 tp (.lst [.int t1])) gl=some (.lst ((bk.sorts.filter (dB (aY bk))).map fun s=>V.str (Srt.name s))):=by rw [al ngl];exact ggl
 have gd3:(upd H2 tp (.lst [.int t1])) d=some (.dK (aY bk)):=by rw [al nd];exact s2 _ _ gd1
 generalize upd H2 tp (.lst [.int t1])=H3 at k3 tt3 g3 gd3 ⊢
 refine ⟨gl,_,dd,x,rfl,rfl,SqL.of g3,ex,?_⟩
 obtain ⟨sr,hsr,rfl⟩: ∃ sr,sr∈bk.sorts.filter (dB (aY bk))/\x=V.str (Srt.name sr):=by
  obtain ⟨sr,h1,h2⟩:=List.mem_map.mp (List.mem_of_getElem? ex2)
  exact ⟨sr,h1,h2.symm⟩
 obtain ⟨hsin,hshas⟩:=List.mem_filter.mp hsr
 obtain ⟨v,hv⟩:=Option.isSome_iff_exists.mp (show (bi (aY bk) (.inr sr.name)).isSome=true from hshas)
 obtain ⟨m,rfl,_⟩:=hI.val hv
 have hm40:=hI.small hok hv
 refine ⟨_,rfl,_,rfl,_,rfl,_,rfl,_,rfl,_,rfl,_,rfl,d,_,rfl,hJ gd3 hv,_,_,rfl,?_⟩
 have em:(if (m:Int) > (r:Int)then (m:Int)else (r:Int))=((max r m:Nat):Int):=by
  by_cases c:(m:Int) > (r:Int)
  ·rw [if_pos c];lia
  ·rw [if_neg c];lia
 rw [em]
 refine ⟨tp,_,d,bk,sr,max r m,m,rfl,hB.mono (k3.tk tt0),hok,hI,gd3,tt3,hsin,hv,by lia,by lia,by lia,fun v t H4 rT tO tsz k4 tt4=>?_⟩
 exact q v t sr H4 rT hsin tO (by lia) hI (k3.trans k4) tt4
section
variable {X:Cx}
theorem oB (hu:X.A.units<cLine):OpR X (compareOp .Eq) (fun x y H Q=> ∃ a b xs,x=.ref a/\y=.ref b/\SqT X.K H a xs/\SqT X.K H b []/\Q (.bl xs.isEmpty) H):=by
 intro pins s σ H x y v u Q I rx ry h
 obtain ⟨a,b,xs,rfl,rfl,ha,hb,q⟩:=h
 cases rx
 cases ry
 obtain ⟨its,r,ht,_⟩:=I.tuple ha
 obtain ⟨its2,r2,ht2,_⟩:=I.tuple hb
 cases r2
 refine SeqAt.eq_tupleAt (e:=fun _=>true) ht ht2 hu (fun j _ h2=>absurd h2 (Nat.not_lt_zero _)) ⟨.bl _,H,I,?_,q⟩
 cases r with
 | nil=>rfl
 | cons r1 t=>simp [RelV]
end
inductive Th where
 | tup (l:List Th)
 | str (x:Str)
 | lst
 | dic
 | non
 | int (i:Int)
 | bl (b:Bool)
noncomputable def RepH (H:Hp):Nat->Th->V->Prop
 | 0,_,_=>False
 | n+1,.tup l,v=> ∃ a vs,v=.ref a/\H a=some (.tup vs)/\Paired (RepH H n) l vs
 | _+1,.str x,v=>v=.str x/\x.length<=2000
 | _+1,.lst,v=> ∃ a xs,v=.ref a/\H a=some (.lst xs)
 | _+1,.dic,v=> ∃ a,v=.ref a/\H a=some (.dK [])
 | _+1,.non,v=>v=.non
 | _+1,.int i,v=>v=.int i
 | _+1,.bl b,v=>v=.bl b
theorem RepH.same {H H':Hp} (s:Same H H'): ∀ {n:Nat} {t:Th} {v:V},RepH H n t v->RepH H' n t v
 | 0,_,_,h=>h.elim
 | n+1,.tup _,_,⟨a,vs,e,h1,h2⟩=>⟨a,vs,e,s _ _ h1,Paired.mapP h2 fun _ _ r=>RepH.same s r⟩
 | _+1,.str _,_,h=>h
 | _+1,.lst,_,⟨a,xs,e,h⟩=>⟨a,xs,e,s _ _ h⟩
 | _+1,.dic,_,⟨a,e,h⟩=>⟨a,e,s _ _ h⟩
 | _+1,.non,_,h=>h
 | _+1,.int _,_,h=>h
 | _+1,.bl _,_,h=>h
theorem RepH.up {H:Hp}: ∀ {n:Nat} {t:Th} {v:V},RepH H n t v->RepH H (n+1) t v
 | 0,_,_,h=>h.elim
 | n+1,.tup _,_,⟨a,vs,e,h1,h2⟩=>⟨a,vs,e,h1,Paired.mapP h2 fun _ _ r=>RepH.up r⟩
 | _+1,.str _,_,h=>h
 | _+1,.lst,_,h=>h
 | _+1,.dic,_,h=>h
 | _+1,.non,_,h=>h
 | _+1,.int _,_,h=>h
 | _+1,.bl _,_,h=>h
theorem RepH.le {H:Hp} {n m:Nat} {t:Th} {v:V} (h:RepH H n t v) (l:n<=m):RepH H m t v:=by
 induction l with
 | refl=>exact h
 | step _ ih=>exact ih.up
theorem RepH.sh {H:Hp}: ∀ {n:Nat} {t:Th} {v:V},RepH H n t v->Sh H v
 | 0,_,_,h=>h.elim
 | n+1,.tup _,_,⟨a,vs,e,h1,h2⟩=>by subst e;exact .inr (.inl ⟨vs,h1⟩)
 | _+1,.str _,_,h=>by obtain ⟨rfl,h⟩:=h;exact h
 | _+1,.lst,_,⟨a,xs,e,h⟩=>by subst e;exact .inl ⟨xs,h⟩
 | _+1,.dic,_,⟨a,e,h⟩=>by subst e;exact .inr (.inr ⟨[],h⟩)
 | _+1,.non,_,h=>by subst h;exact True.intro
 | _+1,.int _,_,h=>by subst h;exact True.intro
 | _+1,.bl _,_,h=>by subst h;exact True.intro
noncomputable def Th.isTup:Th->Bool
 | .tup _=>true
 | _=>false
noncomputable def Th.isStr:Th->Bool
 | .str _=>true
 | _=>false
theorem RepH.isTup {H:Hp}: ∀ {n:Nat} {t:Th} {v:V},RepH H n t v->isV "tuple" H v=t.isTup
 | 0,_,_,h=>h.elim
 | n+1,.tup _,_,⟨a,vs,e,h1,h2⟩=>by subst e;simp only [isV,h1];rfl
 | _+1,.str _,_,h=>by obtain ⟨rfl,h⟩:=h;rfl
 | _+1,.lst,_,⟨a,xs,e,h⟩=>by subst e;simp only [isV,h];rfl
 | _+1,.dic,_,⟨a,e,h⟩=>by subst e;simp only [isV,h];rfl
 | _+1,.non,_,h=>by subst h;rfl
 | _+1,.int _,_,h=>by subst h;rfl
 | _+1,.bl _,_,h=>by subst h;rfl
mutual
noncomputable def Bt.th:Bt->Th
 | .mk x l=>.tup [.str x,.tup (thL l)]
noncomputable def thL:List Bt->List Th
 | []=>[]
 | t::r=>t.th::thL r
end
theorem rW (t:Bt):t.th=.tup [.str t.nm,.tup (thL t.ps)]:=by
 cases t with
 | mk x l=>rw [Bt.th];rfl
theorem kO:thL []=[]:=by rw [thL]
theorem iV (t:Bt) (r:List Bt):thL (t::r)=t.th::thL r:=by rw [thL]
theorem RepT.th {H:Hp}: ∀ {n:Nat} {t:Bt} {v:V},RepT H n t v->(∀ p∈t.places,∀ u,t.at? p=some u->u.nm.length<=2000)->RepH H (2*n) t.th v:=by
 intro n
 induction n with
 | zero=>intro t v h;exact h.elim
 | succ n ih=>
  rintro t v ⟨a,b,vs,e,h1,h2,h3⟩ hs
  rw [rW,show 2* (n+1)=2*n+1+1 by lia]
  refine ⟨a,_,e,h1,.cons ⟨rfl,hs [] (by rw [dk];exact List.mem_cons_self) t rfl⟩ (.cons ⟨b,vs,rfl,h2,?_⟩ .nil)⟩
  have go: ∀ {l:List Bt} {r:List V} (k:Nat),Paired (RepT H n) l r->(∀ u∈l,∀ p∈u.places,∀ x,u.at? p=some x->x.nm.length<=2000)->Paired (RepH H (2*n)) (thL l) r:=by
   intro l r k hp
   induction hp with
   | nil=>intro _;rw [kO];exact .nil
   | cons x _ ih2=>intro hs;rw [iV];exact .cons (ih x (hs _ List.mem_cons_self)) (ih2 fun u hu=>hs u (List.mem_cons_of_mem _ hu))
  refine go 0 h3 fun u hu p hp x hx=>?_
  obtain ⟨j,hj⟩:=List.getElem?_of_mem hu
  refine hs (j::p) ?_ x ?_
  ·rw [dk]
   refine List.mem_cons_of_mem _ ?_
   have mem: ∀ (l:List Bt) (k j:Nat) (u:Bt),l[j]? =some u->p∈u.places->((k+j)::p)∈bM k l:=by
    intro l
    induction l with
    | nil=>intro k j u h;cases j <;> cases h
    | cons t r ih3=>
     intro k j u h hp
     rw [cQ,List.mem_append]
     cases j with
     | zero=>cases h;exact .inl (List.mem_map_of_mem hp)
     | succ j=>right;have:=ih3 (k+1) j u h hp;rw [show k+ (j+1)=k+1+j by lia];exact this
   have:=mem t.ps 0 j u hj hp
   rw [Nat.zero_add]at this
   exact this
  ·show (t.ps[j]?).bind (fun u=>u.at? p)=some x
   rw [hj]
   exact hx
noncomputable def cC (c:Th->Option (Srt×Nat)):List Th->List Srt->Option Nat
 | [],[]=>some 0
 | t::r,q::qs=>match c t with
  | some (s,k)=>if s.name=q.name then (cC c r qs).map (k+ ·)else none
  | none=>none
 | _,_=>none
noncomputable def ux (bk:Bk) (c:Th->Option (Srt×Nat)):Th->Option (Srt×Nat)
 | .tup [.str nm,.tup l]=>match aK nm bk.forms with
  | some fr=>(cC c l fr.parts).map fun k=>(fr.own,k+1)
  | none=>none
 | _=>none
noncomputable def chk (bk:Bk):Nat->Th->Option (Srt×Nat)
 | 0,_=>none
 | n+1,t=>ux bk (chk bk n) t
theorem gu {c d:Th->Option (Srt×Nat)}: ∀ {l:List Th} {qs:List Srt},(∀ t∈l,c t=d t)->cC c l qs=cC d l qs
 | [],[],_=>rfl
 | [],_::_,_=>rfl
 | _::_,[],_=>rfl
 | t::r,q::qs,h=>by
  show (match c t with | some (s,k)=>if s.name=q.name then (cC c r qs).map (k+ ·)else none | none=>none)=(match d t with | some (s,k)=>if s.name=q.name then (cC d r qs).map (k+ ·)else none | none=>none)
  rw [h t List.mem_cons_self,gu fun u hu=>h u (List.mem_cons_of_mem _ hu)]
theorem fA {α β:Type} {F:α->β->Prop}: ∀ {l:List α} {r:List β} {a:α},Paired F l r->a∈l-> ∃ b,F a b
 | _,_,a,.cons h t,m=>by
  rcases List.mem_cons.mp m with rfl | m
  ·exact ⟨_,h⟩
  ·exact fA t m
theorem eN {H:Hp} {bk:Bk}: ∀ {n m:Nat} {t:Th} {v:V},RepH H n t v->n<=m->chk bk m t=chk bk n t
 | 0,_,_,_,h,_=>h.elim
 | n+1,0,_,_,_,hm=>by lia
 | n+1,m+1,t,v,h,hm=>by
  show ux bk (chk bk m) t=ux bk (chk bk n) t
  cases t with
  | tup l=>
   obtain ⟨a,vs,e,h1,h2⟩:=h
   match l with
   | []=>rfl
   | [_]=>cases ‹Th› <;> rfl
   | [.str nm,.tup l2]=>
    show (match aK nm bk.forms with | some fr=>(cC (chk bk m) l2 fr.parts).map fun k=>(fr.own,k+1) | none=>none)=(match aK nm bk.forms with | some fr=>(cC (chk bk n) l2 fr.parts).map fun k=>(fr.own,k+1) | none=>none)
    cases aK nm bk.forms with
    | none=>rfl
    | some fr=>
     have hc: ∀ u∈l2,chk bk m u=chk bk n u:=by
      intro u hu
      cases h2 with
      | cons _ t2=>
       cases t2 with
       | @cons _ b2 _ _ x _=>
        cases n with
        | zero=>exact x.elim
        | succ n=>
         obtain ⟨a2,vs2,e2,g1,g2⟩:=x
         obtain ⟨b,hb⟩:=fA g2 hu
         rw [eN hb (show n<=m by lia),eN hb (show n<=n+1 by lia)]
     show (cC (chk bk m) l2 fr.parts).map _=(cC (chk bk n) l2 fr.parts).map _
     rw [gu hc]
   | [.str _,.str _]=>rfl
   | [.str _,.lst]=>rfl
   | [.str _,.dic]=>rfl
   | [.str _,.non]=>rfl
   | [.str _,.int _]=>rfl
   | [.str _,.bl _]=>rfl
   | [.tup _,_]=>rfl
   | [.lst,_]=>rfl
   | [.dic,_]=>rfl
   | [.non,_]=>rfl
   | [.int _,_]=>rfl
   | [.bl _,_]=>rfl
   | .str _::y::_::_=>cases y <;> rfl
   | .tup _::_::_::_=>rfl
   | .lst::_::_::_=>rfl
   | .dic::_::_::_=>rfl
   | .non::_::_::_=>rfl
   | .int _::_::_::_=>rfl
   | .bl _::_::_::_=>rfl
  | str _=>rfl
  | lst=>rfl
  | dic=>rfl
  | non=>rfl
  | int _=>rfl
  | bl _=>rfl
theorem eg {nm:Str} {fr:Frm}: ∀ {l:List Frm},aK nm l=some fr->fr∈l/\fr.name=nm
 | [],h=>by cases h
 | f::r,h=>by
  have h:(match aK nm r with | some x=>some x | none=>if f.name=nm then some f else none)=some fr:=h
  cases e:aK nm r with
  | some x=>
   rw [e]at h
   cases h
   obtain ⟨h1,h2⟩:=eg e
   exact ⟨List.mem_cons_of_mem _ h1,h2⟩
  | none=>
   rw [e]at h
   have h:(if f.name=nm then some f else none)=some fr:=h
   by_cases c:f.name=nm
   ·rw [if_pos c]at h;cases h;exact ⟨List.mem_cons_self,c⟩
   ·rw [if_neg c]at h;cases h
theorem oy {α β:Type} {F:α->β->Prop} {l:List α} {v0 v1:β} (h:Paired F l [v0,v1]): ∃ t0 t1,l=[t0,t1]/\F t0 v0/\F t1 v1:=by
 cases h with
 | cons a h=>cases h with
  | cons b h=>cases h with
   | nil=>exact ⟨_,_,rfl,a,b⟩
theorem Th.tupOr (t:Th):t.isTup=false\/ ∃ l,t=.tup l:=by cases t <;> first | exact .inl rfl | exact .inr ⟨_,rfl⟩
theorem Th.strOr (t:Th):t.isStr=false\/ ∃ x,t=.str x:=by cases t <;> first | exact .inl rfl | exact .inr ⟨_,rfl⟩
theorem yD {bk:Bk} {n:Nat} {t:Th} (h:t.isTup=false):chk bk (n+1) t=none:=by cases t <;> first | rfl | cases h
theorem yE {bk:Bk} {n:Nat} {t u:Th} (h:t.isStr=false):chk bk (n+1) (.tup [t,u])=none:=by cases t <;> first | (cases u <;> rfl) | cases h
theorem w4 {bk:Bk} {n:Nat} {x:Str} {u:Th} (h:u.isTup=false):chk bk (n+1) (.tup [.str x,u])=none:=by cases u <;> first | rfl | cases h
theorem yF {bk:Bk} {n:Nat} {nm:Str} {u:Th} (h:aK nm bk.forms=none):chk bk (n+1) (.tup [.str nm,u])=none:=by
 obtain h' | ⟨l,rfl⟩:=u.tupOr
 ·exact w4 h'
 ·show (match aK nm bk.forms with | some fr=>(cC (chk bk n) l fr.parts).map fun k=>(fr.own,k+1) | none=>none)=none
  rw [h]
inductive fH  (vs:List V) (H:Hp) (Q:VK) (E_:XK):Prop
 | mk: ∀ bv bk,(vs=[bv])->(RepB H bk bv)->(∀ fa fv,H fa=some (.tup fv)->RepFs H bk.forms fv->Q (.ref fa) H)->fH vs H Q E_
inductive eE  (vs:List V) (H:Hp) (Q:VK) (E_:XK):Prop
 | mk: ∀ v fr,(vs=[v])->(RepF H fr v)->(Q (.str fr.own.name) H)->eE vs H Q E_
inductive dY  (vs:List V) (H:Hp) (Q:VK) (E_:XK):Prop
 | mk: ∀ v fr,(vs=[v])->(RepF H fr v)->(∀ pa,H pa=some (.tup (bc fr.parts))->Q (.ref pa) H)->dY vs H Q E_
theorem qy:aI ["book"] ["book"] (aj i9):=fsc
theorem oF (F:Fun K "forms_of" "forms_of" i9 f fd):FnOk P w K mg base CX0 1 f fd ["book"] fH:=by
 refine F.ok qy (fun vs H Q E h=>?_) (fun cdv A outer s H vs Q E hr h=>?_)
 ·obtain ⟨bv,bk,rfl,_⟩:=h
  rfl
 obtain ⟨bv,bk,rfl,⟨a,sa,fa,fv,rfl,ha,_,hfa,hF⟩,q⟩:=h
 refine ⟨_,ak (aF (au (r:=aV K) ax (pv 0) ae (fun _ _=>rfl))),?_⟩
 exact ⟨_,rfl,a,_,2,_,rfl,rfl,SqT.of ha,ay (j:=2) rfl,q fa fv hfa hF⟩
theorem lr:aI ["form"] ["form"] (aj fj):=fsc
theorem jP (F:Fun K "sort_of_form" "sort_of_form" fj f fd):FnOk P w K mg base CX0 1 f fd ["form"] eE:=by
 refine F.ok lr (fun vs H Q E h=>?_) (fun cdv A outer s H vs Q E hr h=>?_)
 ·obtain ⟨v,fr,rfl,_⟩:=h
  rfl
 obtain ⟨v,fr,rfl,⟨a,pa,ra,rv,rfl,ha,_⟩,q⟩:=h
 refine ⟨_,ak (aF (au (r:=aV K) ax (pv 0) ae (fun _ _=>rfl))),?_⟩
 exact ⟨_,rfl,a,_,1,_,rfl,rfl,SqT.of ha,ay (j:=1) rfl,q⟩
theorem qw:aI ["form"] ["form"] (aj i7):=fsc
theorem oD (F:Fun K "parts_of" "parts_of" i7 f fd):FnOk P w K mg base CX0 1 f fd ["form"] dY:=by
 refine F.ok qw (fun vs H Q E h=>?_) (fun cdv A outer s H vs Q E hr h=>?_)
 ·obtain ⟨v,fr,rfl,_⟩:=h
  rfl
 obtain ⟨v,fr,rfl,⟨a,pa,ra,rv,rfl,ha,hpa,_⟩,q⟩:=h
 refine ⟨_,ak (aF (au (r:=aV K) ax (pv 0) ae (fun _ _=>rfl))),?_⟩
 exact ⟨_,rfl,a,_,2,_,rfl,rfl,SqT.of ha,ay (j:=2) rfl,q pa hpa⟩
noncomputable def gk (bk:Bk):Th->Option Frm
 | .tup [.str nm,.tup l]=>match aK nm bk.forms with
  | some fr=>if fr.parts.length=l.length then some fr else none
  | none=>none
 | _=>none
theorem RepH.eqA {H:Hp}: ∀ {n:Nat} {t:Th} {v:V} (z:Str),RepH H n t v->(uQ (.str z) v=true\/ ∃ b,v=.ref b/\((∃ xs,H b=some (.lst xs))\/(∃ xs,H b=some (.tup xs))\/ ∃ kvs,H b=some (.dK kvs)))
 | 0,_,_,_,h=>h.elim
 | n+1,.tup _,_,_,⟨a,vs,e,h1,h2⟩=>.inr ⟨a,e,.inr (.inl ⟨vs,h1⟩)⟩
 | _+1,.str _,_,_,h=>by obtain ⟨rfl,h⟩:=h;exact .inl rfl
 | _+1,.lst,_,_,⟨a,xs,e,h⟩=>.inr ⟨a,e,.inl ⟨xs,h⟩⟩
 | _+1,.dic,_,_,⟨a,e,h⟩=>.inr ⟨a,e,.inr (.inr ⟨[],h⟩)⟩
 | _+1,.non,_,_,h=>by subst h;exact .inl rfl
 | _+1,.int _,_,_,h=>by subst h;exact .inl rfl
 | _+1,.bl _,_,_,h=>by subst h;exact .inl rfl
theorem RepH.isS {H:Hp}: ∀ {n:Nat} {t:Th} {v:V} (z:Str),RepH H n t v->(V.str z=v↔t=.str z)
 | 0,_,_,_,h=>h.elim
 | n+1,.tup _,_,_,⟨a,vs,e,h1,h2⟩=>by subst e;exact ⟨fun e=>(nomatch e),fun e=>(nomatch e)⟩
 | _+1,.str _,_,_,h=>by obtain ⟨rfl,h⟩:=h;exact ⟨fun e=>by rw [V.str.inj e],fun e=>by rw [Th.str.inj e]⟩
 | _+1,.lst,_,_,⟨a,xs,e,h⟩=>by subst e;exact ⟨fun e=>(nomatch e),fun e=>(nomatch e)⟩
 | _+1,.dic,_,_,⟨a,e,h⟩=>by subst e;exact ⟨fun e=>(nomatch e),fun e=>(nomatch e)⟩
 | _+1,.non,_,_,h=>by subst h;exact ⟨fun e=>(nomatch e),fun e=>(nomatch e)⟩
 | _+1,.int _,_,_,h=>by subst h;exact ⟨fun e=>(nomatch e),fun e=>(nomatch e)⟩
 | _+1,.bl _,_,_,h=>by subst h;exact ⟨fun e=>(nomatch e),fun e=>(nomatch e)⟩
inductive lh  (vs:List V) (H:Hp) (Q:VK) (E_:XK):Prop
 | mk: ∀ bv bk th v n,(vs=[bv,v])->(RepB H bk bv)->(BookOk bk)->(RepH H (n+2) th v)->((gk bk th=none->Q .non H))->((∀ fr u,gk bk th=some fr->RepF H fr u->Q u H))->lh vs H Q E_
theorem scHeadOf:aI ["book","thing","form"] ["book","thing"] (aj lD):=fsc
theorem vn {bk:Bk} {t:Th} (h:t.isTup=false):gk bk t=none:=by cases t <;> first | rfl | cases h
theorem vm {bk:Bk} {t u:Th} (h:u.isTup=false):gk bk (.tup [t,u])=none:=by cases u <;> first | (cases t <;> rfl) | cases h
theorem vo {bk:Bk} {t u:Th} (h:t.isStr=false):gk bk (.tup [t,u])=none:=by cases t <;> first | (cases u <;> rfl) | cases h
theorem qP (F:Fun K "form_of_head" "form_of_head" lD f fd) (G:Gb mg)
  (GF:FnOk P w K mg base CX0 1 f2 fd2 ["book"] fH) (bF:Binds K fd2 ["book"] []) (kF:PySem.W.keepIn K (.ref f2)=true) (mF:mg "forms_of"=some (.ref f2))
  (GP:FnOk P w K mg base CX0 1 f3 fd3 ["form"] dY) (bP:Binds K fd3 ["form"] []) (kP:PySem.W.keepIn K (.ref f3)=true) (mP:mg "parts_of"=some (.ref f3)):FnOk P w K mg base CX0 2 f fd ["book","thing"] lh:=by
 refine F.ok scHeadOf (fun vs H Q E h=>?_) (fun cdv A outer s H vs Q E hr h=>?_)
 ·obtain ⟨bv,bk,th,v,n,rfl,_⟩:=h
  rfl
 obtain ⟨bv,bk,th,v,n,rfl,hB,hok,hR,qn,qs⟩:=h
 refine ⟨_,af (a7 (PW.pt (fQ (oq (dQ (ao ck rfl G.isi (by decide +kernel) (aa (pv 1) (aa (ce (v:=.ty "tuple") rfl G.tuple (by decide +kernel) rfl) ad)))))
    (fQ (aA iH (ao (r:=cA K) aw rfl G.len PySem.boot_len (aa (pv 1) ad)) ae (aE _))
    (ft (oq (dQ (ao ck rfl G.isi (by decide +kernel) (aa (au (r:=aV K) ax (pv 1) ae (fun _ _=>rfl)) (aa (ce (v:=.ty "tuple") rfl G.tuple (by decide +kernel) rfl) ad)))))))))
   (ak (aF bA)) aH)
  (af (cr PassesOwn.never rfl (bZ (am GF hr rfl mF kF bF .nil aD (aa (pv 0) ad))) (aS (i:=2) scHeadOf.nd rfl (Or.inl rfl))
   (ak (a7 (PW.pt (ge (aA (wH hr.units0) (au (r:=aV K) ax (pv 2) ae (fun _ _=>rfl)) (au (r:=aV K) ax (pv 1) ae (fun _ _=>rfl)) (aE _))
     (eG (aA bV (ao (r:=cA K) aw rfl G.len PySem.boot_len (aa (am GP hr rfl mP kP bP .nil aD (aa (pv 2) ad)) ad)) (ao (r:=cA K) aw rfl G.len PySem.boot_len (aa (au (r:=aV K) ax (pv 1) ae (fun _ _=>rfl)) ad)) (aE _)))))
    (ak (aF (pv 2))) aH)))
  (ak (aF bA))),?_⟩
 have same0:Same H H:=fun _ _ h=>h
 refine ⟨_,rfl,_,"tuple",rfl,hR.sh,by simp,_,rfl,?_⟩
 rw [hR.isTup]
 obtain hnt | ⟨l,rfl⟩:=th.tupOr
 ·rw [hnt];exact cF (qn (vn hnt))
 ·skip
  obtain ⟨a,vs,rfl,ha,hp⟩:=hR
  have hl:=Paired.length hp
  refine cy ⟨_,rfl,a,vs,rfl,.inr (SqT.of ha),rfl,_,rfl,?_⟩
  by_cases hlen:vs.length=2
  ·rw [show (!decide (V.int ((vs.length:Nat):Int)=V.int 2))=false by rw [hlen];rfl]
   obtain ⟨v0,v1,rfl⟩: ∃ v0 v1,vs=[v0,v1]:=by
    match vs,hlen with
    | [v0,v1],_=>exact ⟨v0,v1,rfl⟩
   obtain ⟨t0,t1,rfl,r0,r1⟩:=oy hp
   refine cy ⟨_,rfl,a,_,1,v1,rfl,rfl,SqT.of ha,ay (j:=1) rfl,_,"tuple",rfl,r1.sh,by simp,_,rfl,?_⟩
   rw [r1.isTup]
   obtain hnu | ⟨l2,rfl⟩:=t1.tupOr
   ·rw [hnu];exact cF (qn (vm hnu))
   ·skip
    obtain ⟨b,ws,rfl,hb,hp2⟩:=r1
    have hl2:=Paired.length hp2
    refine cy ?_
    refine ⟨_,rfl,bv,bk,rfl,hB,fun fa fv hfa hF=>?_⟩
    have lF:=hF.len
    refine ⟨fa,rfl,⟨fv,SqT.of hfa⟩,?_⟩
    refine dJ (xs:=fv) (fun i σ H'=> ∃ o2,σ=[some bv,some (.ref a),o2]/\H'=H/\ ∀ fr∈bk.forms.take i,¬ (t0=.str (Frm.name fr)/\fr.parts.length=l2.length))
     ⟨none,rfl,rfl,fun fr h=>(by cases h)⟩ (fun i σ H' _ h=>by obtain ⟨_,_,rfl,_⟩:=h;exact SqT.of hfa) ?_ ?_
    ·rintro i x σ _ hx ⟨o2,rfl,rfl,hno⟩
     obtain ⟨fr,hfr,hRf⟩:=aX hF hx
     have hRf2:=hRf
     obtain ⟨c,pa,ra,rv,rfl,gc,gpa,_⟩:=hRf2
     have etk:bk.forms.take (i+1)=bk.forms.take i++[fr]:=by rw [List.take_add_one,hfr];rfl
     have next: ¬ (t0=.str fr.name/\fr.parts.length=l2.length)-> ∀ fr'∈bk.forms.take (i+1),¬ (t0=.str (Frm.name fr')/\fr'.parts.length=l2.length):=fun hn fr' h'=>by
      rw [etk,List.mem_append,List.mem_singleton]at h'
      rcases h' with h' | rfl
      ·exact hno fr' h'
      ·exact hn
     refine ⟨_,rfl,c,_,0,_,rfl,rfl,SqT.of gc,cT,_,rfl,a,_,0,v0,rfl,rfl,SqT.of ha,cT,fr.name,rfl,r0.eqA fr.name,_,rfl,?_⟩
     refine bE (fun c1=>?_) (fun c1=>?_)
     ·have e0:t0=.str fr.name:=(r0.isS fr.name).mp (of_decide_eq_true c1)
      refine ⟨_,rfl,_,fr,rfl,hRf,fun pa' hpa'=>?_⟩
      refine ⟨pa',_,rfl,.inr (SqT.of hpa'),_,rfl,a,_,1,_,rfl,rfl,SqT.of ha,ay (j:=1) rfl,b,ws,rfl,.inr (SqT.of hb),rfl,_,rfl,?_⟩
      refine bE (fun c2=>?_) (fun c2=>?_)
      ·have c2':(bc fr.parts).length=ws.length:=by have:=V.int.inj (of_decide_eq_true c2);lia
       rw [bf]at c2'
       refine ⟨_,rfl,qs fr _ ?_ hRf⟩
       subst e0
       show (match aK fr.name bk.forms with | some fr=>if fr.parts.length=l2.length then some fr else none | none=>none)=some fr
       rw [g9 hok.nd (List.mem_of_getElem? hfr) rfl]
       exact if_pos (by lia)
      ·refine ⟨_,rfl,rfl,next fun ⟨_,e⟩=>c2 (decide_eq_true ?_)⟩
       rw [bf,e,hl2]
     ·exact ⟨_,rfl,rfl,next fun ⟨e,_⟩=>c1 (decide_eq_true ((r0.isS fr.name).mpr e))⟩
    ·rintro σ _ ⟨o2,rfl,rfl,hno⟩
     refine qn ?_
     rw [<- lF,List.take_length]at hno
     obtain hns | ⟨nm,rfl⟩:=t0.strOr
     ·exact vo hns
     ·skip
      show (match aK nm bk.forms with | some fr=>if fr.parts.length=l2.length then some fr else none | none=>none)=none
      cases hL:aK nm bk.forms with
      | none=>rfl
      | some fr=>
       obtain ⟨m1,m2⟩:=eg hL
       exact if_neg fun e=>hno fr m1 ⟨by rw [m2],e⟩
  ·rw [show (!decide (V.int ((vs.length:Nat):Int)=V.int 2))=true by rw [decide_eq_false fun e=>hlen (by have:=V.int.inj e;lia)];rfl]
   refine cF (cF (qn ?_))
   match l,hl with
   | [],_=>rfl
   | [x],_=>cases x <;> rfl
   | [_,_],h2=>exact absurd h2.symm hlen
   | x::y::_::_,_=>cases x <;> first | rfl | (cases y <;> rfl)
noncomputable def okW (c:Th->Option (Srt×Nat)) (W:List (Th×Option Str)):Prop:= ∀ q∈W,∃ s k,c q.1=some (s,k)/\(q.2=none\/q.2=some (Srt.name s))
noncomputable def szQ (c:Th->Option (Srt×Nat)) (q:Th×Option Str):Nat:=match c q.1 with
 | some (_,k)=>k
 | none=>0
noncomputable def szW (c:Th->Option (Srt×Nat)) (W:List (Th×Option Str)):Nat:=bd (W.map (szQ c))
theorem fe: ∀ (a b:List Nat),bd (a++b)=bd a+bd b
 | [],b=>by show bd b=0+bd b;lia
 | x::r,b=>by show x+bd (r++b)=x+bd r+bd b;rw [fe r b];lia
theorem gA: ∀ (a:List Nat),bd a.reverse=bd a
 | []=>rfl
 | x::r=>by rw [List.reverse_cons,fe,gA r];show bd r+ (x+0)=x+bd r;lia
theorem nS (c:Th->Option (Srt×Nat)) (a b:List (Th×Option Str)):szW c (a++b)=szW c a+szW c b:=by unfold szW;rw [List.map_append,fe]
theorem mn (c:Th->Option (Srt×Nat)) (a:List (Th×Option Str)):szW c a.reverse=szW c a:=by unfold szW;rw [List.map_reverse,gA]
theorem fc (c:Th->Option (Srt×Nat)) (q:Th×Option Str) (a:List (Th×Option Str)):szW c (q::a)=szQ c q+szW c a:=rfl
noncomputable def ic (l:List Th) (qs:List Srt):List (Th×Option Str):=l.zip (qs.map fun q=>some (Srt.name q))
theorem ia {c:Th->Option (Srt×Nat)}: ∀ {l:List Th} {qs:List Srt} {k:Nat},l.length=qs.length->(cC c l qs=some k↔okW c (ic l qs)/\szW c (ic l qs)=k)
 | [],[],k,_=>⟨fun h=>⟨fun q hq=>(by cases hq),Option.some.inj h⟩,fun h=>congrArg some h.2⟩
 | t::r,q::qs,k,hl=>by
  have hl':r.length=qs.length:=by simpa using hl
  have ez:ic (t::r) (q::qs)=(t,some q.name)::ic r qs:=rfl
  rw [ez]
  show (match c t with | some (s,k)=>if s.name=q.name then (cC c r qs).map (k+ ·)else none | none=>none)=some k↔_
  cases hc:c t with
  | none=>
   refine ⟨fun h=>(by cases h),fun h=>?_⟩
   obtain ⟨s,k',h1,_⟩:=h.1 _ List.mem_cons_self
   rw [hc]at h1
   cases h1
  | some p=>
   obtain ⟨s,k1⟩:=p
   show (if s.name=q.name then (cC c r qs).map (k1+ ·)else none)=some k↔_
   have eq1:szQ c (t,some q.name)=k1:=by unfold szQ;rw [hc]
   rw [fc,eq1]
   by_cases e:s.name=q.name
   ·rw [if_pos e]
    constructor
    ·intro h
     obtain ⟨k2,h2,h3⟩:=Option.map_eq_some_iff.mp h
     obtain ⟨g1,g2⟩:=(ia hl').mp h2
     refine ⟨fun x hx=>?_,by lia⟩
     rcases List.mem_cons.mp hx with rfl | hx
     ·exact ⟨s,k1,hc,.inr (by rw [e])⟩
     ·exact g1 x hx
    ·rintro ⟨g1,g2⟩
     have:=(ia (k:=szW c (ic r qs)) hl').mpr ⟨fun x hx=>g1 x (List.mem_cons_of_mem _ hx),rfl⟩
     rw [this]
     show some (k1+szW c (ic r qs))=some k
     rw [g2]
   ·rw [if_neg e]
    refine ⟨fun h=>(by cases h),fun h=>?_⟩
    obtain ⟨s',k',h1,h2⟩:=h.1 _ List.mem_cons_self
    rw [hc]at h1
    cases h1
    rcases h2 with h2 | h2
    ·cases h2
    ·exact absurd (Option.some.inj h2).symm e
 | [],_::_,_,h=>by simp at h
 | _::_,[],_,h=>by simp at h
noncomputable def lH (c:Th->Option (Srt×Nat)) (W:List (Th×Option Str)) (seen:Nat):Prop:=okW c W/\seen+szW c W<=60
theorem jI {H:Hp} {bk:Bk} {M:Nat} {nm:Str} {l:List Th} {v:V} (h:RepH H (M+2) (.tup [.str nm,.tup l]) v):chk bk (M+2) (.tup [.str nm,.tup l])=match aK nm bk.forms with
  | some fr=>(cC (chk bk (M+2)) l fr.parts).map fun k=>(fr.own,k+1)
  | none=>none:=by
 show (match aK nm bk.forms with | some fr=>(cC (chk bk (M+1)) l fr.parts).map fun k=>(fr.own,k+1) | none=>none)=_
 cases aK nm bk.forms with
 | none=>rfl
 | some fr=>
  show (cC (chk bk (M+1)) l fr.parts).map _=(cC (chk bk (M+2)) l fr.parts).map _
  obtain ⟨a,vs,e,h1,h2⟩:=h
  cases h2 with
  | cons _ t2=>
   cases t2 with
   | cons x _=>
    obtain ⟨a2,vs2,e2,g1,g2⟩:=x
    rw [gu fun u hu=>by
     obtain ⟨b,hb⟩:=fA g2 hu
     rw [eN hb (show M<=M+1 by lia),<- eN hb (show M<=M+2 by lia)]]
theorem nC {c:Th->Option (Srt×Nat)}: ∀ {l:List Th} {q:List Srt},l.length≠q.length->cC c l q=none
 | [],[],h=>absurd rfl h
 | [],_::_,_=>rfl
 | _::_,[],_=>rfl
 | t::r,p::ps,h=>by
  show (match c t with | some (s,k)=>if s.name=p.name then (cC c r ps).map (k+ ·)else none | none=>none)=none
  rw [nC (l:=r) (q:=ps) fun e=>h (by rw [List.length_cons,List.length_cons,e])]
  cases c t with
  | none=>rfl
  | some x=>obtain ⟨s,k⟩:=x;show (if s.name=p.name then none else none)=none;by_cases c1:s.name=p.name <;> simp
theorem rj {H:Hp} {bk:Bk} {M:Nat} {t:Th} {v:V} (h:RepH H (M+2) t v) (hh:gk bk t=none):chk bk (M+2) t=none:=by
 cases t with
 | tup l=>
  match l,h,hh with
  | [],_,_=>rfl
  | [x],_,_=>cases x <;> rfl
  | [.str nm,.tup l2],h,hh=>
   rw [jI h]
   have hh:(match aK nm bk.forms with | some fr=>if fr.parts.length=l2.length then some fr else none | none=>none)=none:=hh
   cases hL:aK nm bk.forms with
   | none=>rfl
   | some fr=>
    rw [hL]at hh
    have hh:(if fr.parts.length=l2.length then some fr else none)=none:=hh
    show (cC (chk bk (M+2)) l2 fr.parts).map _=none
    rw [nC fun e=>by rw [if_pos e.symm]at hh;cases hh]
    rfl
  | [.str _,.str _],_,_=>rfl
  | [.str _,.lst],_,_=>rfl
  | [.str _,.dic],_,_=>rfl
  | [.str _,.non],_,_=>rfl
  | [.str _,.int _],_,_=>rfl
  | [.str _,.bl _],_,_=>rfl
  | [.tup _,_],_,_=>rfl
  | [.lst,_],_,_=>rfl
  | [.dic,_],_,_=>rfl
  | [.non,_],_,_=>rfl
  | [.int _,_],_,_=>rfl
  | [.bl _,_],_,_=>rfl
  | x::y::_::_,_,_=>cases x <;> first | rfl | (cases y <;> rfl)
 | str _=>rfl
 | lst=>rfl
 | dic=>rfl
 | non=>rfl
 | int _=>rfl
 | bl _=>rfl
theorem rh {bk:Bk} {t:Th} {fr:Frm} (hh:gk bk t=some fr): ∃ nm l,t=.tup [.str nm,.tup l]/\aK nm bk.forms=some fr/\fr.parts.length=l.length:=by
 cases t with
 | tup l=>
  match l,hh with
  | [.str nm,.tup l2],hh=>
   have hh:(match aK nm bk.forms with | some fr=>if fr.parts.length=l2.length then some fr else none | none=>none)=some fr:=hh
   cases hL:aK nm bk.forms with
   | none=>rw [hL]at hh;cases hh
   | some fr'=>
    rw [hL]at hh
    have hh:(if fr'.parts.length=l2.length then some fr' else none)=some fr:=hh
    by_cases e:fr'.parts.length=l2.length
    ·rw [if_pos e]at hh;cases hh;exact ⟨nm,l2,rfl,hL,e⟩
    ·rw [if_neg e]at hh;cases hh
  | [],hh=>cases hh
  | [x],hh=>cases x <;> cases hh
  | [.str _,.str _],hh=>cases hh
  | [.str _,.lst],hh=>cases hh
  | [.str _,.dic],hh=>cases hh
  | [.str _,.non],hh=>cases hh
  | [.str _,.int _],hh=>cases hh
  | [.str _,.bl _],hh=>cases hh
  | [.tup _,_],hh=>cases hh
  | [.lst,_],hh=>cases hh
  | [.dic,_],hh=>cases hh
  | [.non,_],hh=>cases hh
  | [.int _,_],hh=>cases hh
  | [.bl _,_],hh=>cases hh
  | x::y::_::_,hh=>cases x <;> first | cases hh | (cases y <;> cases hh)
 | str _=>cases hh
 | lst=>cases hh
 | dic=>cases hh
 | non=>cases hh
 | int _=>cases hh
 | bl _=>cases hh
theorem vG {bk:Bk} {n:Nat} {t:Th} {s:Srt} {k:Nat} (h:chk bk n t=some (s,k)):1<=k:=by
 cases n with
 | zero=>cases h
 | succ n=>
  have h:ux bk (chk bk n) t=some (s,k):=h
  unfold ux at h
  split at h
  ·split at h
   ·obtain ⟨k',_,e⟩:=Option.map_eq_some_iff.mp h
    cases e
    lia
   ·cases h
  ·cases h
theorem sH {H:Hp} {bk:Bk} {M:Nat} {nm:Str} {l:List Th} {v:V} {fr:Frm} {o:Option Str} {W:List (Th×Option Str)} {seen:Nat} (h:RepH H (M+2) (.tup [.str nm,.tup l]) v) (hL:aK nm bk.forms=some fr) (hl:fr.parts.length=l.length) (ho:o=none\/o=some fr.own.name):
  lH (chk bk (M+2)) ((.tup [.str nm,.tup l],o)::W) seen↔lH (chk bk (M+2)) ((ic l fr.parts).reverse++W) (seen+1):=by
 have e1:chk bk (M+2) (.tup [.str nm,.tup l])=(cC (chk bk (M+2)) l fr.parts).map fun k=>(fr.own,k+1):=by rw [jI h,hL]
 unfold lH
 rw [fc,nS,mn]
 constructor
 ·rintro ⟨h1,h2⟩
  obtain ⟨s,k,g1,_⟩:=h1 _ List.mem_cons_self
  have g1:chk bk (M+2) (.tup [.str nm,.tup l])=some (s,k):=g1
  have g0:=g1
  rw [e1]at g1
  obtain ⟨k',g2,g3⟩:=Option.map_eq_some_iff.mp g1
  cases g3
  obtain ⟨g4,g5⟩:=(ia hl.symm).mp g2
  have g6:szQ (chk bk (M+2)) (.tup [.str nm,.tup l],o)=k'+1:=by unfold szQ;show (match chk bk (M+2) (.tup [.str nm,.tup l])with | some (_,k)=>k | none=>0)=_;rw [g0]
  rw [g6]at h2
  refine ⟨fun q hq=>?_,by lia⟩
  rw [List.mem_append,List.mem_reverse]at hq
  rcases hq with hq | hq
  ·exact g4 q hq
  ·exact h1 q (List.mem_cons_of_mem _ hq)
 ·rintro ⟨h1,h2⟩
  have g2:=(ia (c:=chk bk (M+2)) (k:=szW (chk bk (M+2)) (ic l fr.parts)) hl.symm).mpr ⟨fun q hq=>h1 q (List.mem_append_left _ (List.mem_reverse.mpr hq)),rfl⟩
  have g1:chk bk (M+2) (.tup [.str nm,.tup l])=some (fr.own,szW (chk bk (M+2)) (ic l fr.parts) +1):=by rw [e1,g2];rfl
  have g6:szQ (chk bk (M+2)) (.tup [.str nm,.tup l],o)=szW (chk bk (M+2)) (ic l fr.parts) +1:=by unfold szQ;show (match chk bk (M+2) (.tup [.str nm,.tup l])with | some (_,k)=>k | none=>0)=_;rw [g1]
  rw [g6]
  refine ⟨fun q hq=>?_,by lia⟩
  rcases List.mem_cons.mp hq with rfl | hq
  ·exact ⟨_,_,g1,ho⟩
  ·exact h1 q (List.mem_append_right _ hq)
noncomputable def oV:Option Str->V
 | none=>.non
 | some x=>.str x
inductive RepQ (H0 H:Hp) (N:Nat) (q:Th×Option Str) (z:V):Prop
 | mk: ∀ T v,(z=.ref T)->(H T=some (.tup [v,oV q.2]))->(RepH H0 N q.1 v)->RepQ H0 H N q z
theorem RepQ.mono {H0 H H':Hp} (s:TK H H') {N:Nat} {q:Th×Option Str} {z:V}:RepQ H0 H N q z->RepQ H0 H' N q z:=fun ⟨T,v,e,h1,h2⟩=>⟨T,v,e,s _ _ h1,h2⟩
theorem dR {α β:Type} {F:α->β->Prop}: ∀ {a c:List α} {b d:List β},Paired F a b->Paired F c d->Paired F (a++c) (b++d)
 | _,_,_,_,.nil,h=>h
 | _,_,_,_,.cons x t,h=>.cons x (dR t h)
theorem dy {α β:Type} {F:α->β->Prop}: ∀ {a:List α} {b:List β},Paired F a b->Paired F a.reverse b.reverse
 | _,_,.nil=>.nil
 | _,_,.cons x t=>by rw [List.reverse_cons,List.reverse_cons];exact dR (dy t) (.cons x .nil)
theorem wT (o:Option Str) (x:Str):inV (oV o) [.non,.str x]=decide (o=none\/o=some x):=by
 unfold inV
 cases o with
 | none=>simp [oV,eqV]
 | some y=>
  simp only [List.any_cons,List.any_nil,Bool.or_false,eqV,oV,Bool.false_or]
  by_cases e:x=y
  ·subst e;simp
  ·have: ¬ (some y=none\/some y=some x):=by rintro (h | h);cases h;exact e (Option.some.inj h).symm
   rw [decide_eq_false this]
   simpa using e
theorem ui (o:Option Str):hX (oV o)=true:=by cases o <;> rfl
inductive iY (M:Nat) (vs:List V) (H:Hp) (Q:VK) (E_:XK):Prop
 | mk: ∀ bv bk th v,(vs=[bv,v])->(RepB H bk bv)->(BookOk bk)->(RepH H (M+2) th v)->(∀ b:Bool,(b=true↔lH (chk bk (M+2)) [(th,none)] 0)-> ∀ H',Same H H'->Q (.bl b) H')->iY M vs H Q E_
noncomputable abbrev vK:List Str:=["book","thing","waiting","seen","pair","form"]
theorem scIsTree:aI vK ["book","thing"] (aj lC):=fsc
theorem qO {M:Nat} {tM:Tok} (F:Fun K "is_tree" "is_tree" lC f fd) (G:Gb mg) (hlist:mg "list"=none) (hzip:mg "zip"=none) (mM:mg "MOST_PLACES"=some (.int 60 tM))
  (GH:FnOk P w K mg base CX0 2 f2 fd2 ["book","thing"] lh) (bH:Binds K fd2 ["book","thing"] []) (kH:PySem.W.keepIn K (.ref f2)=true) (mH:mg "form_of_head"=some (.ref f2))
  (GS:FnOk P w K mg base CX0 1 f3 fd3 ["form"] eE) (bS:Binds K fd3 ["form"] []) (kS:PySem.W.keepIn K (.ref f3)=true) (mS:mg "sort_of_form"=some (.ref f3))
  (GP:FnOk P w K mg base CX0 1 f4 fd4 ["form"] dY) (bP:Binds K fd4 ["form"] []) (kP:PySem.W.keepIn K (.ref f4)=true) (mP:mg "parts_of"=some (.ref f4)):FnOk P w K mg base CX0 3 f fd ["book","thing"] (iY M):=by
 refine F.ok scIsTree (fun vs H Q E h=>?_) (fun cdv A outer s H vs Q E hr h=>?_)
 ·obtain ⟨bv,bk,th,v,rfl,_⟩:=h
  rfl
 obtain ⟨bv,bk,th,v,rfl,hB,hok,hR,q⟩:=h
 have hr1:=hr.mono (show 1<=2 by lia)
 refine ⟨_,af (aq (i:=2) scIsTree.nd rfl (Or.inl rfl) (bh (aa (aZ (aa (pv 1) (aa bA ad))) ad)))
  (af (aq (i:=3) scIsTree.nd rfl (Or.inl rfl) ae)
  (af (gN PassesOwn.never (jd (pv 2) (fun _=>rfl))
   (af (aq (i:=4) scIsTree.nd rfl (Or.inl rfl) (jk PySem.F.plainAttrs_list PySem.F.slot_list_pop PySem.F.type_list_pop jq (pv 2)))
   (af (aq (i:=5) scIsTree.nd rfl (Or.inl rfl) (am GH hr rfl mH kH bH .nil aD (aa (pv 0) (aa (au (r:=aV K) ax (pv 4) ae (fun _ _=>rfl)) ad))))
   (af (a7 (PW.pt (fQ (aA bV (pv 3) (bw (v:=.int 60) rfl mM ⟨_,rfl⟩) (aE _))
     (fQ (aA gi (pv 5) bA (aE _))
     (ft (aA lM (au (r:=aV K) ax (pv 4) ae (fun _ _=>rfl)) (aZ (aa bA (aa (am GS hr1 rfl mS kS bS .nil aD (aa (pv 5) ad)) ad))) (by with_unfolding_all rfl)))))) (ak (aF j8)) aH)
   (af (wx (i:=3) scIsTree.nd rfl (Or.inl rfl) ae wS)
   (ak (cx (dw PySem.F.plainAttrs_list PySem.F.slot_list_extend PySem.F.type_list_extend fL (pv 2) (aa
    (ow rfl rfl hlist rfl hzip (aa (au (r:=aV K) ax (au (r:=aV K) ax (pv 4) ae (fun _ _=>rfl)) ae (fun _ _=>rfl)) (aa (am GP hr1 rfl mP kP bP .nil aD (aa (pv 5) ad)) ad))) ad)))))))))
  (ak (aF j8)))),?_⟩
 refine ⟨_,rfl,(by show 2<=sizeLine;decide),fun T0 hT0=>?_⟩
 have s0:=ag hT0 (.tup [v,.non])
 have g0:(upd H T0 (.tup [v,.non])) T0=some (.tup [v,.non]):=ac
 generalize upd H T0 (.tup [v,.non])=H0 at s0 g0 ⊢
 refine ⟨(by show 1<=sizeLine;decide),fun l hl=>?_⟩
 have s1:=ag hl (.lst [.ref T0])
 have g1:(upd H0 l (.lst [.ref T0])) l=some (.lst [.ref T0]):=ac
 have g01:=s1 _ _ g0
 generalize upd H0 l (.lst [.ref T0])=H1 at s1 g1 g01 ⊢
 have hl0:H l=none:=s0.free hl
 refine ⟨fun m σ H'=> ∃ (W:List (Th×Option Str)) (ws:List V) (seen:Nat) (o4 o5:Option V),σ=[some bv,some v,some (.ref l),some (.int ((seen:Nat):Int)),o4,o5]/\H' l=some (.lst ws.reverse)/\Same H H'/\Paired (RepQ H H' (M+2)) W ws/\seen<=60/\ws.length<=1+3*seen/\
   (lH (chk bk (M+2)) W seen↔lH (chk bk (M+2)) [(th,none)] 0)/\m=60-seen,⟨60,[(th,none)],[.ref T0],0,none,none,rfl,g1,s0.trans s1,.cons ⟨T0,v,rfl,g01,hR⟩ .nil,by lia,by show 1<=1+3*0;lia,Iff.rfl,rfl⟩,?_⟩
 rintro m σ H2 ⟨W,ws,seen,o4,o5,rfl,gl,S2,hP,hs60,hwl,hres,rfl⟩
 refine ⟨_,rfl,_,.inl ⟨ws.reverse,SqL.of gl,rfl⟩,?_⟩
 cases hP with
 | nil=>
  refine cy ?_
  exact q true ⟨fun _=>hres.mp ⟨fun x hx=>(by cases hx),by show seen+0<=60;lia⟩,fun _=>rfl⟩ H2 S2
 | @cons qh z W' rs hz hP'=>
  have ne:(!((z::rs).reverse).isEmpty)=true:=by simp
  refine bE (fun _=>?_) (fun c=>absurd ne c)
  refine ⟨_,fun σ' H'' h=>h,?_⟩
  rw [List.reverse_cons]at gl
  refine ⟨_,rfl,.inl ⟨rfl,_,SqL.of gl⟩,l,_,z,rfl,rfl,gl,by simp,?_⟩
  rw [List.dropLast_concat]
  obtain ⟨t,o⟩:=qh
  obtain ⟨T,tv,rfl,hT,hRt⟩:=hz
  have tk3:TK H2 (upd H2 l (.lst rs.reverse)):=TK.lst gl
  have S3:Same H (upd H2 l (.lst rs.reverse)):=fun y oo h=>by
   rw [al (ah h hl0)]
   exact S2 _ _ h
  have gl3:(upd H2 l (.lst rs.reverse)) l=some (.lst rs.reverse):=ac
  have hT3:=tk3 _ _ hT
  have hP3:Paired (RepQ H (upd H2 l (.lst rs.reverse)) (M+2)) W' rs:=Paired.mapP hP' fun _ _ r=>r.mono tk3
  generalize upd H2 l (.lst rs.reverse)=H3 at tk3 S3 gl3 hT3 hP3 ⊢
  have hB3:=hB.mono (aG S3)
  have hR3:=hRt.same S3
  rw [List.length_cons]at hwl
  have bad: ¬ lH (chk bk (M+2)) ((t,o)::W') seen-> ∀ H',Same H H'->Q (.bl false) H':=fun hn H' s'=>q false ⟨fun e=>(by cases e),fun e=>absurd (hres.mpr e) hn⟩ H' s'
  refine ⟨_,rfl,_,rfl,T,_,0,tv,rfl,rfl,SqT.of hT3,cT,bv,bk,t,tv,M,rfl,hB3,hok,hR3,fun hn=>?_,fun fr u hh hRu=>?_⟩
  ·have hno: ¬ lH (chk bk (M+2)) ((t,o)::W') seen:=fun ⟨h1,_⟩=>by
    obtain ⟨s',k,h2,_⟩:=h1 _ List.mem_cons_self
    rw [show chk bk (M+2) t=none from rj hRt hn]at h2
    cases h2
   refine ⟨_,rfl,rfl,_,rfl,?_⟩
   refine bE (fun _=>?_) (fun _=>?_)
   ·exact cF (bad hno H3 S3)
   ·refine ⟨_,rfl,rfl,_,rfl,?_⟩
    rw [decide_eq_true rfl]
    exact cF (cF (bad hno H3 S3))
  ·obtain ⟨nm,l2,rfl,hL,hpl⟩:=rh hh
   have hRu':=hRu
   obtain ⟨fa,fpa,fra,frv,rfl,gfa,gfp,_⟩:=hRu'
   refine ⟨_,rfl,rfl,_,rfl,?_⟩
   by_cases hs:seen=60
   ·rw [show decide (V.int ((seen:Nat):Int)=V.int 60)=true by rw [hs];rfl]
    refine cF (cF (bad ?_ H3 S3))
    rintro ⟨h1,h2⟩
    obtain ⟨s',k,h3,_⟩:=h1 _ List.mem_cons_self
    have:=vG h3
    rw [fc]at h2
    have e:szQ (chk bk (M+2)) (.tup [.str nm,.tup l2],o)=k:=by
     unfold szQ
     show (match chk bk (M+2) (.tup [.str nm,.tup l2])with | some (_,k)=>k | none=>0)=k
     rw [show chk bk (M+2) (.tup [.str nm,.tup l2])=some (s',k)from h3]
    lia
   ·rw [show decide (V.int ((seen:Nat):Int)=V.int 60)=false from decide_eq_false fun e=>hs (by have:=V.int.inj e;lia)]
    refine cy ⟨_,rfl,rfl,_,rfl,?_⟩
    rw [show decide (V.ref fa=V.non)=false from decide_eq_false fun e=>nomatch e]
    refine cy ?_
    refine ⟨_,rfl,T,_,1,_,rfl,rfl,SqT.of hT3,ay (j:=1) rfl,_,rfl,_,fr,rfl,hRu,(by show 2<=sizeLine;decide),fun p4 h4=>?_⟩
    have s4:=ag h4 (.tup [.non,.str fr.own.name])
    have g4:(upd H3 p4 (.tup [.non,.str fr.own.name])) p4=some (.tup [.non,.str fr.own.name]):=ac
    generalize upd H3 p4 (.tup [.non,.str fr.own.name])=H4 at s4 g4 ⊢
    have S4:=S3.trans s4
    refine ⟨p4,_,rfl,.inr (SqT.of g4),ui o,rfl,_,rfl,?_⟩
    rw [if_pos rfl,wT]
    by_cases ho:o=none\/o=some fr.own.name
    ·rw [decide_eq_true ho]
     refine cy ?_
     refine ⟨_,rfl,_,_,rfl,rfl,?_⟩
     rw [show V.int (((seen:Nat):Int) +1)=V.int ((seen+1:Nat):Int)from rfl]
     have gl4:=s4 _ _ gl3
     obtain ⟨a,vs,rfl,ha,hp⟩:=hRt
     obtain ⟨t0,b,x0,rfl,hb,hp2⟩: ∃ x0 b ws2,vs=[x0,.ref b]/\H b=some (.tup ws2)/\Paired (RepH H M) l2 ws2:=by
      cases hp with
      | cons r0 hp=>cases hp with
       | cons r1 hp=>cases hp with
        | nil=>obtain ⟨b,ws2,rfl,h1,h2⟩:=r1;exact ⟨_,b,ws2,rfl,h1,h2⟩
     refine ⟨_,rfl,.inl ⟨rfl,_,SqL.of gl4⟩,?_⟩
     refine ⟨_,rfl,T,_,0,_,rfl,rfl,SqT.of (s4 _ _ hT3),cT,a,_,1,_,rfl,rfl,SqT.of (S4 _ _ ha),ay (j:=1) rfl,_,rfl,_,fr,rfl,hRu.mono (aG s4),fun pa hpa=>?_⟩
     have lp2:=Paired.length hp2
     have lpv:=bf fr.parts
     have hp3:fr.parts.length<=3:=by
      obtain ⟨mode,_,hf⟩:=hok.fo
      exact (hf fr (eg hL).1).2.2.1
     refine ⟨true,b,pa,x0,bc fr.parts,rfl,S4 _ _ hb,hpa,by lia,fun p5 zs H5 h5 s5 g5 hZ=>?_⟩
     have gl5:=s5 _ _ gl4
     have lz:zs.length=l2.length:=by
      have:=Paired.length hZ
      rw [List.length_zip]at this
      lia
     refine ⟨l,p5,rs.reverse,zs,rfl,rfl,gl5,g5,Nat.le_of_lt (av (by rw [List.length_reverse];lia)),?_⟩
     have tk6:TK H5 (upd H5 l (.lst (rs.reverse++zs))):=TK.lst gl5
     have S6:Same H (upd H5 l (.lst (rs.reverse++zs))):=fun y oo h=>by
      rw [al (ah h hl0)]
      exact s5 _ _ (S4 _ _ h)
     refine ⟨60- (seen+1),by lia,(ic l2 fr.parts).reverse++W',zs.reverse++rs,seen+1,_,_,rfl,by rw [List.reverse_append,List.reverse_reverse];exact ac,S6,?_,by lia,by rw [List.length_append,List.length_reverse];lia,?_,rfl⟩
     ·refine dR (dy (Paired.mapP (F:=RepQ H H5 (M+2)) ?_ fun _ _ r=>r.mono tk6)) (Paired.mapP hP3 fun _ _ r=>r.mono (((aG s4).trans (aG s5)).trans tk6))
      refine fJ (by unfold ic;rw [List.length_zip,List.length_map];lia) fun i qq z hq hz=>?_
      unfold ic at hq
      rw [List.getElem?_zip_eq_some]at hq
      obtain ⟨h1,h2⟩:=hq
      obtain ⟨y,hy,ry⟩:=bQ hp2 h1
      rw [List.getElem?_map]at h2
      obtain ⟨pq,hpq,epq⟩:=Option.map_eq_some_iff.mp h2
      have hzz:(x0.zip (bc fr.parts))[i]? =some (y,.str pq.name):=by
       rw [List.getElem?_zip_eq_some]
       refine ⟨hy,?_⟩
       unfold bc
       rw [List.getElem?_map,hpq]
       rfl
      obtain ⟨z',hz',T5,e5,gT5⟩:=bQ hZ hzz
      rw [hz]at hz'
      cases hz'
      refine ⟨T5,y,e5,?_,ry.le (by lia)⟩
      rw [<- epq]
      exact gT5
     ·rw [<- hres]
      exact (sH ⟨a,_,rfl,ha,hp⟩ hL hpl ho).symm
    ·rw [decide_eq_false ho]
     refine cF (bad ?_ H4 S4)
     rintro ⟨h1,_⟩
     obtain ⟨s',k,h3,h4'⟩:=h1 _ List.mem_cons_self
     have h3:chk bk (M+2) (.tup [.str nm,.tup l2])=some (s',k):=h3
     rw [jI hRt,hL]at h3
     obtain ⟨k',_,e⟩:=Option.map_eq_some_iff.mp h3
     cases e
     exact ho h4'
theorem sv:aI ["found"] ["found"] (aj lA):=fsc
theorem qM (F:Fun K "_law_whole" "_law_whole" lA f fd) (G:Gb mg):FnOk P w K mg base CX0 1 f fd ["found"] kY:=by
 refine F.ok sv (fun vs H Q E h=>?_) (fun cdv A outer s H vs Q E hr h=>?_)
 ·obtain ⟨v,rfl,_⟩:=h
  rfl
 obtain ⟨v,rfl,hS,q⟩:=h
 refine ⟨_,ak (aF (gh (ao ck rfl G.isi (by decide +kernel) (aa (pv 0) (aa (ce (v:=.ty "int") rfl G.int (by decide +kernel) rfl) ad)))
  (gf (wD (ao ck rfl G.isi (by decide +kernel) (aa (pv 0) (aa (ce (v:=.ty "bool") rfl G.bool (by decide +kernel) rfl) ad))))))),?_⟩
 have e:=vi hS
 refine ⟨_,rfl,v,"int",rfl,hS,by simp,_,rfl,?_⟩
 refine bE (fun c=>?_) (fun c=>?_)
 ·rw [if_pos c]at e
  refine ⟨_,rfl,v,"bool",rfl,hS,by simp,_,rfl,?_⟩
  exact qb q e.symm
 ·rw [if_neg c]at e
  exact qb q e.symm
noncomputable def SameV (H:Hp):Nat->V->V->Prop
 | 0,_,_=>False
 | n+1,v,u=>(∃ x:Str,v=.str x/\u=.str x/\x.length<=2000)\/(∃ i:Int,v=.int i/\u=.int i)\/
  ∃ (c:Bool) (a b:Addr) (xs ys:List V),v=.ref a/\u=.ref b/\H a=some (dP c xs)/\H b=some (dP c ys)/\xs.length<=1000/\Paired (SameV H n) xs ys
theorem SameV.mono {H H':Hp} (s:Same H H'): ∀ {n:Nat} {v u:V},SameV H n v u->SameV H' n v u
 | 0,_,_,h=>h
 | n+1,_,_,h=>by
  rcases h with h | h | ⟨c,a,b,xs,ys,e1,e2,h1,h2,hl,hp⟩
  ·exact .inl h
  ·exact .inr (.inl h)
  ·exact .inr (.inr ⟨c,a,b,xs,ys,e1,e2,s _ _ h1,s _ _ h2,hl,Paired.mapP hp fun _ _ h=>SameV.mono s h⟩)
inductive fY (n:Nat) (vs:List V) (H:Hp) (Q:VK) (E_:XK):Prop
 | mk: ∀ v u,(vs=[v,u])->(SameV H n v u)->(∀ H',Same H H'->Q (.bl true) H')->fY n vs H Q E_
theorem pU {H:Hp} {c:Bool} {a:Addr} {xs:List V} (h:H a=some (dP c xs)):isV "tuple" H (.ref a)=c/\isV "list" H (.ref a)= !c/\isV "bool" H (.ref a)=false:=by
 cases c with
 | true=>
  have h':H a=some (.tup xs):=h
  simp only [isV,h']
  exact ⟨rfl,rfl,rfl⟩
 | false=>
  have h':H a=some (.lst xs):=h
  simp only [isV,h']
  exact ⟨rfl,rfl,rfl⟩
theorem lp {H:Hp} {c:Bool} {a:Addr} {xs:List V} (h:H a=some (dP c xs)):Sh H (.ref a):=by
 cases c with
 | true=>exact .inr (.inl ⟨xs,h⟩)
 | false=>exact .inl ⟨xs,h⟩
theorem vX {H:Hp} {c:Bool} {a:Addr} {xs:List V} (h:H a=some (dP c xs)):TL H (.ref a) true:=by
 cases c with
 | true=>exact .tup (show H a=some (.tup xs)from h)
 | false=>exact .lst (show H a=some (.lst xs)from h)
theorem sf {K:PySem.W.Frag} {H:Hp} {c:Bool} {a:Addr} {xs:List V} (h:H a=some (dP c xs)):SqL K H a xs\/SqT K H a xs:=by
 cases c with
 | true=>exact .inr (SqT.of h)
 | false=>exact .inl (SqL.of h)
theorem wq:aI ["found","due"] ["found","due"] (aj mw):=fsc
theorem tF {n:Nat} (F:Fun K "_law_same" "_law_same" mw f fd) (G:Gb mg) (hlist:mg "list"=none) (hzip:mg "zip"=none)
  (GS:FnOk P w K mg base CX0 (n+2) f fd ["found","due"] (fY n)) (bS:Binds K fd ["found","due"] []) (mS:mg "_law_same"=some (.ref f))
  (GW:FnOk P w K mg base CX0 1 f2 fd2 ["found"] kY) (bW:Binds K fd2 ["found"] []) (kW:PySem.W.keepIn K (.ref f2)=true) (mW:mg "_law_whole"=some (.ref f2)):
  FnOk P w K mg base CX0 (n+3) f fd ["found","due"] (fY (n+1)):=by
 refine F.ok wq (fun vs H Q E h=>?_) (fun cdv A outer s H vs Q E hr h=>?_)
 ·obtain ⟨v,u,rfl,_⟩:=h
  rfl
 obtain ⟨v,u,rfl,hS,q⟩:=h
 have hr1:=hr.mono (show 1<=n+2 by lia)
 refine ⟨_,af (a7 (dQ (ao rH rfl G.isi (by decide +kernel) (aa (pv 1) (aa (aZ (aa (ce (v:=.ty "tuple") rfl G.tuple (by decide +kernel) rfl) (aa (ce (v:=.ty "list") rfl hlist (by decide +kernel) rfl) ad))) ad))))
   (af (a7 (PW.pt (fQ (aA iH (ao ck rfl G.isi (by decide +kernel) (aa (pv 1) (aa (ce (v:=.ty "tuple") rfl G.tuple (by decide +kernel) rfl) ad))) (ao ck rfl G.isi (by decide +kernel) (aa (pv 0) (aa (ce (v:=.ty "tuple") rfl G.tuple (by decide +kernel) rfl) ad))) (aE _))
     (ft (aA iH (ao ck rfl G.isi (by decide +kernel) (aa (pv 1) (aa (ce (v:=.ty "list") rfl hlist (by decide +kernel) rfl) ad))) (ao ck rfl G.isi (by decide +kernel) (aa (pv 0) (aa (ce (v:=.ty "list") rfl hlist (by decide +kernel) rfl) ad))) (aE _)))))
    (ak (aF j8)) aH)
   (ak (aF (gh (cG bV (ao (r:=cA K) aw rfl G.len PySem.boot_len (aa (pv 0) ad)) (ao (r:=cA K) aw rfl G.len PySem.boot_len (aa (pv 1) ad)) (aE _))
    (gf (ao (jK rfl) rfl G.all (by decide +kernel) (aa (sX (sc0:=aj mw) (N0:=["found","due"]) (ys:=[]) (fr:=[]) rfl (wA rfl hzip (aa (pv 0) (aa (pv 1) ad))) rfl rfl
     ⟨rfl,by decide +kernel,by decide +kernel,by decide +kernel,by decide +kernel,by decide +kernel,by decide +kernel,rfl,by decide +kernel⟩ (fun C s H ex=>am GS hr rfl mS F.kp bS .nil aD (aa (pv 0) (aa (pv 1) ad)))) ad)))))))
   aH)
  (af (a7 (aA gi (pv 1) bA (aE _)) (ak (aF (cG gi (pv 0) bA (aE _)))) aH)
  (af (a7 (dQ (ao ck rfl G.isi (by decide +kernel) (aa (pv 1) (aa (ce (v:=.ty "bool") rfl G.bool (by decide +kernel) rfl) ad))))
   (ak (aF (gh (ao ck rfl G.isi (by decide +kernel) (aa (pv 0) (aa (ce (v:=.ty "bool") rfl G.bool (by decide +kernel) rfl) ad))) (gf (cG bV (pv 0) (pv 1) (aE _)))))) aH)
  (af (a7 (dQ (ao ck rfl G.isi (by decide +kernel) (aa (pv 1) (aa (ce (v:=.ty "str") rfl G.str (by decide +kernel) rfl) ad))))
   (ak (aF (gh (ao ck rfl G.isi (by decide +kernel) (aa (pv 0) (aa (ce (v:=.ty "str") rfl G.str (by decide +kernel) rfl) ad))) (gf (cG bV (pv 0) (pv 1) (aE _)))))) aH)
  (ak (aF (gh (am GW hr1 rfl mW kW bW .nil aD (aa (pv 0) ad)) (gf (cG bV (pv 0) (pv 1) (aE _))))))))),?_⟩
 refine ⟨_,rfl,(by show 2<=sizeLine;decide),fun p0 h0=>?_⟩
 have s0:=ag h0 (.tup [.ty "tuple",.ty "list"])
 have g0:(upd H p0 (.tup [.ty "tuple",.ty "list"])) p0=some (.tup [.ty "tuple",.ty "list"]):=ac
 generalize upd H p0 (.tup [.ty "tuple",.ty "list"])=H0 at s0 g0 ⊢
 have hS0:=SameV.mono s0 hS
 rcases hS0 with ⟨x,rfl,rfl,hx⟩ | ⟨i,rfl,rfl⟩ | ⟨c,a,b,xs,ys,rfl,rfl,ha,hb,hl,hp⟩
 ·refine ⟨_,p0,false,rfl,g0,.str x,_,rfl,?_⟩
  refine cy ⟨_,rfl,rfl,_,rfl,?_⟩
  rw [show decide (V.str x=V.non)=false from decide_eq_false fun e=>nomatch e]
  refine cy ⟨_,rfl,_,"bool",rfl,hx,by simp,_,rfl,?_⟩
  rw [show isV "bool" H0 (V.str x)=false from rfl]
  refine cy ⟨_,rfl,_,"str",rfl,hx,by simp,_,rfl,?_⟩
  rw [show isV "str" H0 (V.str x)=true from rfl]
  refine cF ⟨_,rfl,_,"str",rfl,hx,by simp,_,rfl,?_⟩
  rw [show isV "str" H0 (V.str x)=true from rfl]
  refine cF ⟨_,rfl,_,rfl,rfl,?_⟩
  rw [decide_eq_true rfl]
  exact q H0 s0
 ·refine ⟨_,p0,false,rfl,g0,.int i,_,rfl,?_⟩
  refine cy ⟨_,rfl,rfl,_,rfl,?_⟩
  rw [show decide (V.int i=V.non)=false from decide_eq_false fun e=>nomatch e]
  refine cy ⟨_,rfl,_,"bool",rfl,True.intro,by simp,_,rfl,?_⟩
  rw [show isV "bool" H0 (V.int i)=false from rfl]
  refine cy ⟨_,rfl,_,"str",rfl,True.intro,by simp,_,rfl,?_⟩
  rw [show isV "str" H0 (V.int i)=false from rfl]
  refine cy ⟨_,rfl,_,rfl,True.intro,_,rfl,?_⟩
  rw [show nJ (V.int i)=true from rfl]
  refine cF ⟨_,rfl,_,rfl,rfl,?_⟩
  rw [decide_eq_true rfl]
  exact q H0 s0
 ·obtain ⟨a1,a2,_⟩:=pU ha
  obtain ⟨b1,b2,_⟩:=pU hb
  have hlen:xs.length=ys.length:=Paired.length hp
  refine ⟨_,p0,true,rfl,g0,vX hb,_,rfl,?_⟩
  refine cF ⟨_,rfl,_,"tuple",rfl,lp hb,by simp,_,rfl,_,"tuple",rfl,lp ha,by simp,rfl,_,rfl,?_⟩
  rw [a1,b1,decide_eq_true rfl]
  refine cy ⟨_,rfl,_,"list",rfl,lp hb,by simp,_,rfl,_,"list",rfl,lp ha,by simp,rfl,_,rfl,?_⟩
  rw [a2,b2,decide_eq_true rfl]
  refine cy ⟨_,rfl,a,xs,rfl,sf ha,_,rfl,b,ys,rfl,sf hb,rfl,_,rfl,?_⟩
  rw [hlen,decide_eq_true rfl]
  refine cF ⟨_,rfl,_,rfl,c,a,b,xs,ys,rfl,ha,hb,fun l hl0=>?_⟩
  refine ⟨fun i m zs H'=>i<=xs.length/\m=xs.length-i/\Same H0 H'/\H' l=some (.lst zs)/\zs=List.replicate i (.bl true),⟨_,Nat.zero_le _,rfl,ag hl0 _,ac,rfl⟩,?_⟩
  rintro i m zs H' ⟨hi,hm,sm,gl,rfl⟩
  refine ⟨gl,?_⟩
  by_cases e:i=xs.length
  ·refine .inl ⟨⟨xs,ys,sm _ _ ha,sm _ _ hb,e.symm,by lia⟩,l,List.replicate i true,rfl,SqL.of (by rw [List.map_replicate];exact gl),?_⟩
   rw [show (List.replicate i true).all id=true by simp]
   exact q H' (s0.trans sm)
  ·have hlt:i<xs.length:=by lia
   refine .inr ⟨⟨xs,ys,xs[i],ys[i],sm _ _ ha,sm _ _ hb,List.getElem?_eq_getElem hlt,List.getElem?_eq_getElem (by lia)⟩,av (by rw [List.length_replicate];lia),?_⟩
   rintro _ _ ⟨T,x,y,fT,rfl,rfl,hxy⟩
   obtain ⟨ex,ey⟩:=hxy xs ys (sm _ _ ha) (sm _ _ hb)
   obtain ⟨y',ey',hs⟩:=bQ hp ex
   rw [ey]at ey'
   cases ey'
   have sT:=sm.trans (ag fT (.tup [x,y]))
   refine ⟨T,x,y,rfl,ac,_,rfl,_,rfl,x,y,rfl,SameV.mono sT hs,fun H4 s4=>?_⟩
   have gl4:=s4 _ _ (ag fT (.tup [x,y]) _ _ gl)
   refine ⟨gl4,_,(by lia:xs.length- (i+1) <m),by lia,rfl,fun c' o h=>?_,ac,?_⟩
   ·rw [al (ah h hl0)]
    exact s4 _ _ (sT _ _ h)
   ·exact List.replicate_succ'.symm
theorem tG:FnOk P w K mg base CX0 2 f fd ["found","due"] (fY 0):=by
 have no: ∀ vs H Q E,¬ fY 0 vs H Q E:=fun vs H Q E h=>by
  obtain ⟨v,u,_,h,_⟩:=h
  exact h
 exact ⟨fun vs H Q E h=>absurd h (no vs H Q E),fun A outer s H args us vs Q E _ _ _ _ h=>absurd h (no vs H Q E)⟩
theorem pL (F:Fun K "_law_same" "_law_same" mw f fd) (G:Gb mg) (hlist:mg "list"=none) (hzip:mg "zip"=none) (bS:Binds K fd ["found","due"] []) (mS:mg "_law_same"=some (.ref f))
  (GW:FnOk P w K mg base CX0 1 f2 fd2 ["found"] kY) (bW:Binds K fd2 ["found"] []) (kW:PySem.W.keepIn K (.ref f2)=true) (mW:mg "_law_whole"=some (.ref f2)): ∀ n:Nat,FnOk P w K mg base CX0 (n+2) f fd ["found","due"] (fY n)
 | 0=>tG
 | n+1=>tF F G hlist hzip (pL F G hlist hzip bS mS GW bW kW mW n) bS mS GW bW kW mW
mutual
noncomputable def Bt.subs:Bt->List Bt
 | .mk x l=>.mk x l::bg l
noncomputable def bg:List Bt->List Bt
 | []=>[]
 | t::r=>t.subs++bg r
end
theorem be (t:Bt):t.subs=t::bg t.ps:=by
 cases t with
 | mk x l=>rw [Bt.subs];rfl
theorem bo:bg []=[]:=by rw [bg]
theorem aL (t:Bt) (r:List Bt):bg (t::r)=t.subs++bg r:=by rw [bg]
theorem gD: ∀ (a b:List Bt),bg (a++b)=bg a++bg b
 | [],b=>by rw [bo];rfl
 | t::r,b=>by rw [List.cons_append,aL,aL,gD r b,List.append_assoc]
theorem dX (t:Bt) (r:List Bt):bg (t::r)=t::bg (t.ps++r):=by
 rw [aL,be,gD];rfl
theorem ie (t:Bt):bg [t]=t.subs:=by rw [aL,bo,List.append_nil]
theorem mq: ∀ (n:Nat) (t:Bt),t.sz<=n->t.subs.length=t.sz:=by
 intro n
 induction n with
 | zero=>intro t h;have:=dO t;lia
 | succ n ih=>
  intro t h
  rw [be,bY,List.length_cons]
  have go: ∀ l:List Bt,szL l<=n->(bg l).length=szL l:=by
   intro l
   induction l with
   | nil=>intro _;rw [bo];rfl
   | cons u r ih2=>
    intro hl
    have e:szL (u::r)=u.sz+szL r:=rfl
    rw [aL,List.length_append,ih u (by lia),ih2 (by lia),e]
  rw [go t.ps (by have:=bY t;lia)]
theorem kU: ∀ (n:Nat) (t:Bt),t.sz<=n-> ∀ u∈t.subs,u.sz<=t.sz:=by
 intro n
 induction n with
 | zero=>intro t h;have:=dO t;lia
 | succ n ih=>
  intro t h u hu
  rw [be]at hu
  rcases List.mem_cons.mp hu with rfl | hu
  ·exact Nat.le_refl _
  have go: ∀ l:List Bt,szL l<=n-> ∀ u∈bg l,u.sz<=szL l:=by
   intro l
   induction l with
   | nil=>intro _ u h;rw [bo]at h;cases h
   | cons x r ih2=>
    intro hl u hu
    have e:szL (x::r)=x.sz+szL r:=rfl
    rw [aL]at hu
    rcases List.mem_append.mp hu with hu | hu
    ·have:=ih x (by lia) u hu;lia
    ·have:=ih2 (by lia) u hu;lia
  have e:=bY t
  have:=go t.ps (by lia) u hu
  lia
noncomputable def wJ:List Bt->List Bt
 | []=>[]
 | t::r=>t.ps++r
noncomputable def cB (t:Bt):Nat->List Bt
 | 0=>[t]
 | j+1=>wJ (cB t j)
theorem dL (t:Bt): ∀ j,t.subs.drop j=bg (cB t j)
 | 0=>(ie t).symm
 | j+1=>by
  rw [<- List.tail_drop,dL t j]
  show (bg (cB t j)).tail=bg (wJ (cB t j))
  cases cB t j with
  | nil=>rw [bo];show []=bg [];rw [bo]
  | cons u r=>rw [dX];rfl
theorem rm {t u:Bt} {j:Nat} (h:t.subs[j]? =some u): ∃ r,cB t j=u::r/\cB t (j+1)=u.ps++r:=by
 have e:=dL t j
 have hj:=(List.getElem?_eq_some_iff.mp h)
 rw [List.drop_eq_getElem_cons hj.1,hj.2]at e
 show ∃ r,cB t j=u::r/\wJ (cB t j)=u.ps++r
 cases hf:cB t j with
 | nil=>rw [hf,bo]at e;cases e
 | cons x r=>
  rw [hf,dX]at e
  have:=(List.cons.inj e).1
  subst this
  exact ⟨r,rfl,rfl⟩
theorem oN (t:Bt):cB t t.subs.length=[]:=by
 have e:=dL t t.subs.length
 rw [List.drop_length]at e
 cases hf:cB t t.subs.length with
 | nil=>rfl
 | cons x r=>rw [hf,dX]at e;cases e
theorem jz {t:Bt}: ∀ j,(cB t j).length<=t.sz:=fun j=>by
 have e:=congrArg List.length (dL t j)
 have h1: ∀ l:List Bt,l.length<=(bg l).length:=by
  intro l
  induction l with
  | nil=>exact Nat.zero_le _
  | cons u r ih=>rw [aL,List.length_append,be,List.length_cons,List.length_cons];lia
 have:=h1 (cB t j)
 rw [<- e,List.length_drop,mq _ t (Nat.le_refl _)]at this
 lia
noncomputable def txt (nm:Str) (ws:List Str):Str:=if ws.isEmpty=true then nm else nm++"("++Builtin.Str.glued ", " ws++")"
mutual
noncomputable def Bt.wr:Bt->Str
 | .mk x l=>txt x (wrL l)
noncomputable def wrL:List Bt->List Str
 | []=>[]
 | t::r=>t.wr::wrL r
end
theorem oW: ∀ l:List Bt,wrL l=l.map Bt.wr
 | []=>by rw [wrL];rfl
 | t::r=>by rw [wrL,oW r];rfl
theorem iU (t:Bt):t.wr=txt t.nm (t.ps.map Bt.wr):=by
 cases t with
 | mk x l=>rw [Bt.wr,oW];rfl
theorem kl (sep:Str) (ws:List Str):(Builtin.Str.glued sep ws).length<=(ws.map (·.length)).sum+ws.length*sep.length:=by
 rw [StrLaws.glued_eq_join];exact StrLaws.join_length_le sep ws
theorem rL: ∀ (n:Nat) (t:Bt),t.sz<=n->(∀ u∈t.subs,bj u.nm=true)->t.wr.length+2<=12*t.sz:=by
 intro n
 induction n with
 | zero=>intro t h;have:=dO t;lia
 | succ n ih=>
  intro t h hw
  have e:=bY t
  have hn:t.nm.length<=8:=by
   have:=hw t (by rw [be];exact List.mem_cons_self)
   unfold bj at this
   simp only [Bool.and_eq_true,decide_eq_true_eq]at this
   exact this.1.2
  have go: ∀ l:List Bt,szL l<=n->(∀ u∈bg l,bj u.nm=true)->((l.map Bt.wr).map (·.length)).sum+2* (l.map Bt.wr).length<=12*szL l:=by
   intro l
   induction l with
   | nil=>intro _ _;exact Nat.zero_le _
   | cons u r ih2=>
    intro hl hs
    have e:szL (u::r)=u.sz+szL r:=rfl
    have a:=ih u (by lia) fun x hx=>hs x (by rw [aL];exact List.mem_append_left _ hx)
    have b:=ih2 (by lia) fun x hx=>hs x (by rw [aL];exact List.mem_append_right _ hx)
    rw [e,List.map_cons,List.map_cons,List.sum_cons,List.length_cons]
    lia
  have g:=go t.ps (by lia) fun u hu=>hw u (by rw [be];exact List.mem_cons_of_mem _ hu)
  rw [iU]
  unfold txt
  split
  ·lia
  ·have k:=kl ", " (t.ps.map Bt.wr)
   have l2:((", ":Str)).length=2:=by decide +kernel
   have l3:(("(":Str)).length=1:=by decide +kernel
   have l4:((")":Str)).length=1:=by decide +kernel
   rw [l2]at k
   rw [Str.length_append,Str.length_append,Str.length_append,l3,l4]
   lia
noncomputable def spl:List Nat->List (List Nat)
 | []=>[[]]
 | c::r=>if c=32 then []::spl r else match spl r with
  | p::ps=>(c::p)::ps
  | []=>[[c]]
theorem wn: ∀ l,spl l≠[]
 | []=>by intro h;cases h
 | c::r=>by
  unfold spl
  split
  ·intro h;cases h
  ·split <;> (intro h;cases h)
theorem ph (b:List Nat): ∀ a:List Nat,spl (a++32::b)=spl a++spl b
 | []=>by
  show (if 32=32 then []::spl b else _)=[[]]++spl b
  rw [if_pos rfl];rfl
 | c::r=>by
  have ih:=ph b r
  show (if c=32 then []::spl (r++32::b)else match spl (r++32::b)with | p::ps=>(c::p)::ps | []=>[[c]])=(if c=32 then []::spl r else match spl r with | p::ps=>(c::p)::ps | []=>[[c]])++spl b
  by_cases h:c=32
  ·rw [if_pos h,if_pos h,ih];rfl
  ·rw [if_neg h,if_neg h,ih]
   cases hs:spl r with
   | nil=>exact absurd hs (wn r)
   | cons p ps=>rfl
theorem gE: ∀ a:List Nat,32∉a->spl a=[a]
 | [],_=>rfl
 | c::r,h=>by
  have h1: ¬ c=32:=fun e=>h (e▸List.mem_cons_self)
  unfold spl
  rw [if_neg h1,gE r fun m=>h (List.mem_cons_of_mem _ m)]
noncomputable def wds (l:List Nat):List (List Nat):=(spl l).filter fun p=> !p.isEmpty
theorem gy (a b:List Nat):wds (a++32::b)=wds a++wds b:=by
 unfold wds;rw [ph,List.filter_append]
theorem oX:wds []=[]:=rfl
theorem ma {a:List Nat} (h:32∉a) (hn:a≠[]):wds a=[a]:=by
 unfold wds
 rw [gE a h]
 cases a with
 | nil=>exact absurd rfl hn
 | cons _ _=>rfl
theorem md: ∀ parts:List Str,(∀ p∈parts,32∉p.cps.toList)->wds (Str.join ⟨#[32]⟩ parts).cps.toList=(parts.map fun p=>p.cps.toList).filter fun p=> !p.isEmpty
 | [],_=>rfl
 | [p],h=>by
  show wds p.cps.toList=_
  unfold wds
  rw [gE _ (h p List.mem_cons_self)];rfl
 | p::q::r,h=>by
  have ih:=md (q::r) fun a ha=>h a (List.mem_cons_of_mem _ ha)
  show wds (p++⟨#[32]⟩++Str.join ⟨#[32]⟩ (q::r)).cps.toList=_
  simp only [Str.cps_append,Array.toList_append,List.append_assoc]
  show wds (p.cps.toList++32::(Str.join ⟨#[32]⟩ (q::r)).cps.toList)=_
  rw [gy,ih]
  unfold wds
  rw [gE _ (h p List.mem_cons_self),<- List.filter_append]
  rfl
theorem qt (x:Str):((Txt.split x ⟨#[32]⟩).filter fun (p:Str)=> !decide (p="")).map (fun p=>p.cps.toList)=wds x.cps.toList:=by
 have h:=md _ (StrLaws.split_free x 32)
 rw [StrLaws.join_split]at h
 rw [h,List.filter_map]
 congr 1
 refine List.filter_congr fun p _=>?_
 show (!decide (p=""))= !p.cps.toList.isEmpty
 congr 1
 rw [Bool.eq_iff_iff,decide_eq_true_eq,List.isEmpty_iff]
 constructor
 ·rintro rfl;rfl
 ·intro h
  refine Str.ext' (Array.toList_inj.mp ?_)
  rw [h];rfl
noncomputable def lJ (c d k:Nat):Nat:=if k=c then d else k
theorem io (c d:Nat): ∀ l:List Nat,c∉l->l.map (lJ c d)=l
 | [],_=>rfl
 | k::r,h=>by
  have h1: ¬ k=c:=fun e=>h (e▸List.mem_cons_self)
  rw [List.map_cons,io c d r fun m=>h (List.mem_cons_of_mem _ m)]
  unfold lJ
  rw [if_neg h1]
theorem j6 (c d:Nat): ∀ parts:List Str,(∀ p∈parts,c∉p.cps.toList)->((Str.join ⟨#[c]⟩ parts).cps.toList).map (lJ c d)=(Str.join ⟨#[d]⟩ parts).cps.toList
 | [],_=>rfl
 | [p],h=>io c d _ (h p (List.mem_singleton.mpr rfl))
 | p::q::r,h=>by
  have ih:=j6 c d (q::r) fun a ha=>h a (List.mem_cons_of_mem _ ha)
  show ((p++⟨#[c]⟩++Str.join ⟨#[c]⟩ (q::r)).cps.toList).map (lJ c d)=(p++⟨#[d]⟩++Str.join ⟨#[d]⟩ (q::r)).cps.toList
  simp only [Str.cps_append,Array.toList_append,List.map_append]
  rw [ih,io c d _ (h p List.mem_cons_self)]
  show p.cps.toList++[if c=c then d else c]++_=_
  rw [if_pos rfl]
theorem gM (x:Str) (c d:Nat):(Txt.replace x ⟨#[c]⟩ ⟨#[d]⟩).cps.toList=x.cps.toList.map (lJ c d):=by
 rw [StrLaws.replace_one,<- j6 c d _ (StrLaws.split_free x c),StrLaws.join_split]
theorem jb (x:Str) (c d:Nat):(Txt.replace x ⟨#[c]⟩ ⟨#[d]⟩).length=x.length:=by
 show (Txt.replace x ⟨#[c]⟩ ⟨#[d]⟩).cps.size=x.cps.size
 rw [<- Array.length_toList,gM,List.length_map,Array.length_toList]
noncomputable def m32 (k:Nat):Nat:=lJ 44 32 (lJ 41 32 (lJ 40 32 k))
noncomputable def plain (x:Str):Str:=Txt.replace (Txt.replace (Txt.replace x "(" " ") ")" " ") "," " "
theorem qF (x:Str):(plain x).cps.toList=x.cps.toList.map m32:=by
 unfold plain
 rw [show (Txt.replace (Txt.replace (Txt.replace x "(" " ") ")" " ") "," " ")=Txt.replace (Txt.replace (Txt.replace x ⟨#[40]⟩ ⟨#[32]⟩) ⟨#[41]⟩ ⟨#[32]⟩) ⟨#[44]⟩ ⟨#[32]⟩from rfl,gM,gM,gM,List.map_map,List.map_map]
 rfl
theorem tW {k:Nat} (h:cE k=true):m32 k=k:=by
 unfold cE at h
 rw [decide_eq_true_eq]at h
 unfold m32 lJ
 rw [if_neg (show ¬ k=40 by lia),if_neg (show ¬ k=41 by lia),if_neg (show ¬ k=44 by lia)]
theorem rM {x:Str} (h:bj x=true):x.cps.toList.map m32=x.cps.toList/\32∉x.cps.toList/\x.cps.toList≠[]:=by
 unfold bj at h
 simp only [Bool.and_eq_true,decide_eq_true_eq,List.all_eq_true]at h
 refine ⟨?_,fun z=>?_,fun z=>?_⟩
 ·have: ∀ l:List Nat,(∀ k∈l,cE k=true)->l.map m32=l:=by
   intro l
   induction l with
   | nil=>intro _;rfl
   | cons a r ih=>intro h;rw [List.map_cons,tW (h a List.mem_cons_self),ih fun k hk=>h k (List.mem_cons_of_mem _ hk)]
  exact this _ h.2
 ·have:=h.2 32 z
  revert this;decide
 ·have h1:1<=x.cps.size:=h.1.1
  rw [<- Array.length_toList,z]at h1
  exact absurd h1 (by decide)
theorem jS: ∀ (ws:List Str),wds ((Str.join ", " ws).cps.toList.map m32++[32])=(ws.map fun w=>wds (w.cps.toList.map m32)).flatten
 | []=>rfl
 | [w]=>by
  show wds (w.cps.toList.map m32++32::[])=_
  rw [gy,oX,List.append_nil]
  show _=wds (w.cps.toList.map m32)++[]
  rw [List.append_nil]
 | w::v::r=>by
  have ih:=jS (v::r)
  show wds ((w++", "++Str.join ", " (v::r)).cps.toList.map m32++[32])=_
  simp only [Str.cps_append,Array.toList_append,List.map_append,List.append_assoc]
  show wds (w.cps.toList.map m32++32::([]++32::((Str.join ", " (v::r)).cps.toList.map m32++[32])))=_
  rw [gy,gy,ih,oX]
  rfl
theorem uK {nm:Str} (h:bj nm=true) (ws:List Str):wds ((txt nm ws).cps.toList.map m32)=nm.cps.toList::(ws.map fun w=>wds (w.cps.toList.map m32)).flatten:=by
 obtain ⟨h1,h2,h3⟩:=rM h
 unfold txt
 cases ws with
 | nil=>
  rw [if_pos (show ([]:List Str).isEmpty=true from rfl),h1,ma h2 h3];rfl
 | cons w r=>
  rw [if_neg (by intro z;cases z),StrLaws.glued_eq_join]
  simp only [Str.cps_append,Array.toList_append,List.map_append,List.append_assoc]
  rw [h1]
  show wds (nm.cps.toList++32::((Str.join ", " (w::r)).cps.toList.map m32++[32]))=_
  rw [gy,ma h2 h3,jS];rfl
theorem vV: ∀ (n:Nat) (t:Bt),t.sz<=n->(∀ u∈t.subs,bj u.nm=true)->wds (t.wr.cps.toList.map m32)=t.subs.map fun u=>u.nm.cps.toList:=by
 intro n
 induction n with
 | zero=>intro t h;have:=dO t;lia
 | succ n ih=>
  intro t h hw
  have e:=bY t
  have go: ∀ l:List Bt,szL l<=n->(∀ u∈bg l,bj u.nm=true)->((l.map Bt.wr).map fun w=>wds (w.cps.toList.map m32)).flatten=(bg l).map fun u=>u.nm.cps.toList:=by
   intro l
   induction l with
   | nil=>intro _ _;rw [bo];rfl
   | cons u r ih2=>
    intro hl hs
    have e:szL (u::r)=u.sz+szL r:=rfl
    have a:=ih u (by lia) fun x hx=>hs x (by rw [aL];exact List.mem_append_left _ hx)
    have b:=ih2 (by lia) fun x hx=>hs x (by rw [aL];exact List.mem_append_right _ hx)
    rw [List.map_cons,List.map_cons,List.flatten_cons,a,b,aL,List.map_append]
  rw [iU,uK (hw t (by rw [be];exact List.mem_cons_self)),go t.ps (by lia) fun u hu=>hw u (by rw [be];exact List.mem_cons_of_mem _ hu),be]
  rfl
theorem tS {t:Bt} (hw: ∀ u∈t.subs,bj u.nm=true):(Txt.split (plain t.wr) " ").filter (fun (p:Str)=> !decide (p=""))=t.subs.map Bt.nm:=by
 have h:=qt (plain t.wr)
 rw [qF,vV t.sz t (Nat.le_refl _) hw]at h
 have inj: ∀ (a b:List Str),a.map (fun p=>p.cps.toList)=b.map (fun p=>p.cps.toList)->a=b:=by
  intro a
  induction a with
  | nil=>intro b h;cases b with
   | nil=>rfl
   | cons _ _=>cases h
  | cons x r ih=>intro b h;cases b with
   | nil=>cases h
   | cons y q=>
    rw [List.map_cons,List.map_cons]at h
    have:=List.cons.inj h
    rw [ih q this.2,show x=y from Str.ext' (Array.toList_inj.mp this.1)]
 refine inj _ _ ?_
 rw [show (" ":Str)=⟨#[32]⟩from rfl,h,List.map_map]
 rfl
theorem TreeOk.sub {bk:Bk}: ∀ {n:Nat} {t:Bt} {s:Srt},TreeOk bk n t s-> ∀ u∈t.subs,∃ fr,fr∈bk.forms/\Frm.name fr=u.nm/\fr.parts.length=u.ps.length:=by
 intro n
 induction n with
 | zero=>intro t s h;exact h.elim
 | succ n ih=>
  rintro t s ⟨_,fr,h1,h2,h3,h4⟩ u hu
  rw [be]at hu
  rcases List.mem_cons.mp hu with rfl | hu
  ·exact ⟨fr,h1,h2,(Paired.length h4).symm⟩
  have go: ∀ {l:List Bt} {q:List Srt},Paired (TreeOk bk n) l q-> ∀ u∈bg l,∃ fr,fr∈bk.forms/\Frm.name fr=u.nm/\fr.parts.length=u.ps.length:=by
   intro l q hp
   induction hp with
   | nil=>intro u h;rw [bo]at h;cases h
   | cons x _ ih2=>
    intro u hu
    rw [aL]at hu
    rcases List.mem_append.mp hu with hu | hu
    ·exact ih x u hu
    ·exact ih2 u hu
  exact go h4 u hu
theorem TreeOk.words {bk:Bk} (hk:BookOk bk) {n:Nat} {t:Bt} {s:Srt} (h:TreeOk bk n t s): ∀ u∈t.subs,bj u.nm=true:=fun u hu=>by
 obtain ⟨fr,h1,h2,_⟩:=h.sub u hu
 rw [<- h2];exact hk.wd fr h1
noncomputable def ot (H:Hp) (v:V):List V:=match v with
 | .ref a=>(match H a with
  | some (.tup [_,.ref b])=>(match H b with
   | some (.tup vs)=>vs
   | _=>[])
  | _=>[])
 | _=>[]
theorem RepT.prt {H:Hp} {n:Nat} {t:Bt} {v:V} (h:RepT H n t v): ∃ a b,v=.ref a/\H a=some (.tup [.str t.nm,.ref b])/\H b=some (.tup (ot H v))/\Paired (RepT H n) t.ps (ot H v):=by
 cases n with
 | zero=>exact h.elim
 | succ n=>
  obtain ⟨a,b,vs,rfl,h1,h2,h3⟩:=h
  have e:ot H (.ref a)=vs:=by simp only [ot,h1,h2]
  rw [e]
  exact ⟨a,b,rfl,h1,h2,Paired.mapP h3 fun _ _ r=>RepT.up r⟩
theorem j9 {α β:Type} {F:α->β->Prop}: ∀ {l:List α} {r:List β},l.length=r.length->(∀ (i:Nat) a b,l[i]? =some a->r[i]? =some b->F a b)->Paired F l r
 | [],[],_,_=>.nil
 | [],_::_,h,_=>by cases h
 | _::_,[],h,_=>by cases h
 | a::l,b::r,h,k=>.cons (k 0 a b rfl rfl) (j9 (by rw [List.length_cons,List.length_cons]at h;lia) fun i x y e1 e2=>k (i+1) x y e1 e2)
theorem Paired.appendP {α β:Type} {F:α->β->Prop}: ∀ {a c:List α} {b d:List β},Paired F a b->Paired F c d->Paired F (a++c) (b++d)
 | _,_,_,_,.nil,h=>h
 | _,_,_,_,.cons r t,h=>.cons r (Paired.appendP t h)
theorem rD {l:Addr} {xs:List V} {fr:List Nat} {te:TE} {σ:St} {H1:Hp} {Q:VK} {α:Type} (hn:xs.length<=1000) (hl:H1 l=some (.tup xs))
  (R:Hp->α->V->Prop) (mono: ∀ {H H':Hp} {a:α} {v:V},TK H H'->R H a v->R H' a v) (g:Nat->V->α)
  (hte: ∀ i v H (k:VK),xs[i]? =some v->Same H1 H->(∀ u H',Same H H'->R H' (g i v) u->k u H')->te (some (.int ((i:Nat):Int))::some v::cf fr σ) H k)
  (hd: ∀ p zs H',H1 p=none->Same H1 H'->H' p=some (.lst zs)->zs.length=xs.length->(∀ (i:Nat) v z,xs[i]? =some v->zs[i]? =some z->R H' (g i v) z)->Q (.ref p) H'):pc fr te σ (Ite l) H1 Q:=by
 intro p hp
 refine ⟨fun i m zs H=>i<=xs.length/\m=xs.length-i/\Same H1 H/\H p=some (.lst zs)/\zs.length=i/\(∀ (j:Nat) v z,xs[j]? =some v->zs[j]? =some z->R H (g j v) z),⟨_,Nat.zero_le _,rfl,ag hp _,ac,rfl,fun j v z _ h=>by cases j <;> cases h⟩,?_⟩
 rintro i m zs H ⟨hi,hm,sm,gp,hz,hT⟩
 refine ⟨gp,?_⟩
 by_cases e:i=xs.length
 ·subst e
  exact .inl ⟨⟨xs,sm _ _ hl,rfl⟩,hd p zs H hp sm gp hz hT⟩
 ·have hlt:i<xs.length:=by lia
  refine .inr ⟨⟨xs,xs[i],sm _ _ hl,List.getElem?_eq_getElem hlt⟩,av (by lia),fun v H' hv=>?_⟩
  obtain ⟨T,x,hT0,rfl,rfl,hx⟩:=hv
  have hx:=hx xs (sm _ _ hl)
  have sT:=ag hT0 (.tup [.int ((i:Nat):Int),x])
  have gT:(upd H T (.tup [.int ((i:Nat):Int),x])) T=some (.tup [.int ((i:Nat):Int),x]):=ac
  generalize upd H T (.tup [.int ((i:Nat):Int),x])=H2 at sT gT ⊢
  refine ⟨T,_,_,rfl,gT,?_⟩
  refine hte i x H2 _ hx (sm.trans sT) fun u H3 s3 r=>?_
  have gp3:=s3 _ _ (sT _ _ gp)
  have tk:TK H3 (upd H3 p (.lst (zs++[u]))):=TK.lst gp3
  refine ⟨gp3,xs.length- (i+1),by lia,by lia,rfl,?_,ac,by rw [List.length_append,hz];rfl,fun j v z e1 e2=>?_⟩
  ·intro b o hb
   rw [al (ah hb hp)]
   exact s3 _ _ (sT _ _ (sm _ _ hb))
  ·by_cases c:j<zs.length
   ·rw [List.getElem?_append_left c]at e2
    exact mono (((aG sT).trans (aG s3)).trans tk) (hT j v z e1 e2)
   ·rw [List.getElem?_append_right (by lia)]at e2
    have:j-zs.length=0:=by
     have:=(List.getElem?_eq_some_iff.mp e2).1
     have l1:([u]:List V).length=1:=rfl
     lia
    rw [this]at e2
    cases e2
    have:j=i:=by lia
    subst this
    rw [hx]at e1
    cases e1
    exact mono tk r
noncomputable def cR (pl:List Nat):List Key:=pl.map fun (k:Nat)=>(Sum.inl ((k:Nat):Int):Key)
theorem t8 (pl:List Nat):(cR pl).map kV=plV pl:=by
 unfold cR plV
 rw [List.map_map]
 rfl
theorem ke: ∀ {a b:List Nat},cR a=cR b->a=b
 | [],[],_=>rfl
 | [],_::_,h=>by cases h
 | _::_,[],h=>by cases h
 | x::a,y::b,h=>by
  have h:(Sum.inl ((x:Nat):Int):Key)::cR a=(Sum.inl ((y:Nat):Int):Key)::cR b:=h
  rw [List.cons.injEq]at h
  have e:((x:Nat):Int)=((y:Nat):Int):=Sum.inl.inj h.1
  rw [ke h.2,show x=y by lia]
noncomputable def cN:List (List Nat×Bt)->List (List Nat)
 | []=>[]
 | (pl,u)::r=>u.places.map (fun p=>pl++p)++cN r
theorem gL: ∀ (a b:List (List Nat×Bt)),cN (a++b)=cN a++cN b
 | [],b=>rfl
 | (pl,u)::r,b=>by
  show u.places.map _++cN (r++b)=(u.places.map _++cN r)++cN b
  rw [gL r b,List.append_assoc]
noncomputable def jR (pl:List Nat):Nat->List Bt->List (List Nat×Bt)
 | _,[]=>[]
 | k,x::r=>(pl++[k],x)::jR pl (k+1) r
theorem nn (pl:List Nat): ∀ (l:List Bt) (k:Nat),(jR pl k l).length=l.length
 | [],_=>rfl
 | _::r,k=>by show (jR pl (k+1) r).length+1=r.length+1;rw [nn pl r (k+1)]
theorem nk (pl:List Nat): ∀ (l:List Bt) (k:Nat),(jR pl k l).map (·.2)=l
 | [],_=>rfl
 | t::r,k=>by
  show t::(jR pl (k+1) r).map (·.2)=t::r
  rw [nk pl r (k+1)]
theorem nq (pl:List Nat): ∀ (l:List Bt) (k i:Nat) (q:List Nat×Bt),(jR pl k l)[i]? =some q-> ∃ x,l[i]? =some x/\q=(pl++[k+i],x)
 | [],_,i,q,h=>by cases i <;> cases h
 | x::r,k,0,q,h=>by cases h;exact ⟨x,rfl,rfl⟩
 | x::r,k,i+1,q,h=>by
  obtain ⟨y,h1,h2⟩:=nq pl r (k+1) i q h
  exact ⟨y,h1,by rw [h2,show k+1+i=k+ (i+1) by lia]⟩
theorem ja (pl:List Nat): ∀ (l:List Bt) (k:Nat),cN (jR pl k l)=(bM k l).map (fun p=>pl++p)
 | [],k=>by rw [dH];rfl
 | x::r,k=>by
  show x.places.map (fun p=>(pl++[k])++p)++cN (jR pl (k+1) r)=_
  rw [ja pl r (k+1),cQ,List.map_append,List.map_map]
  congr 1
  refine List.map_congr_left fun p _=>?_
  show (pl++[k])++p=pl++(k::p)
  rw [List.append_assoc];rfl
theorem j4: ∀ (l:List (List Nat×Bt)),l.length<=(cN l).length
 | []=>Nat.le_refl _
 | (pl,u)::r=>by
  show r.length+1<=(u.places.map _++cN r).length
  rw [List.length_append,List.length_map]
  have:=j4 r
  have h:=dO u
  unfold Bt.sz at h
  lia
theorem gR {l:List Bt} {k:Nat} {p:List Nat} (h:p∈bM k l): ∃ j p',p=(k+j)::p':=by
 obtain ⟨j,u,p',_,e,_⟩:=fw h
 exact ⟨j,p',e⟩
theorem fS {α β:Type} {g:α->β} (hg: ∀ a b,g a=g b->a=b): ∀ {l:List α},l.Nodup->(l.map g).Nodup
 | [],_=>List.nodup_nil
 | a::l,h=>by
  rw [List.map_cons,List.nodup_cons]
  rw [List.nodup_cons]at h
  refine ⟨fun z=>?_,fS hg h.2⟩
  obtain ⟨b,hb,e⟩:=List.mem_map.mp z
  exact h.1 (hg _ _ e▸hb)
theorem fR: ∀ (l:List Bt),(∀ x∈l,x.places.Nodup)-> ∀ k,(bM k l).Nodup
 | [],_,k=>by rw [dH];exact List.nodup_nil
 | x::r,h,k=>by
  rw [cQ,List.nodup_append]
  refine ⟨fS (fun a b e=>(List.cons.inj e).2) (h x List.mem_cons_self),fR r (fun y hy=>h y (List.mem_cons_of_mem _ hy)) (k+1),fun a ha b hb e=>?_⟩
  obtain ⟨p,_,rfl⟩:=List.mem_map.mp ha
  obtain ⟨j,p',rfl⟩:=gR hb
  have:=(List.cons.inj e).1
  lia
theorem gQ: ∀ (n:Nat) (t:Bt),t.sz<=n->t.places.Nodup
 | 0,t,h=>by have:=dO t;lia
 | n+1,t,h=>by
  have e:=bY t
  rw [dk,List.nodup_cons]
  refine ⟨fun z=>?_,fR _ (fun x hx=>gQ n x ?_) 0⟩
  ·obtain ⟨j,p',q⟩:=gR z
   cases q
  ·have:=iO hx
   lia
noncomputable def RepP (H:Hp) (n:Nat) (q:List Nat×Bt) (z:V):Prop:= ∃ c a u,z=.ref c/\H c=some (.tup [.ref a,u])/\H a=some (.tup (plV q.1))/\RepT H n q.2 u
theorem RepP.mono {H H':Hp} {n:Nat} {q:List Nat×Bt} {z:V} (t:TK H H') (h:RepP H n q z):RepP H' n q z:=by
 obtain ⟨c,a,u,e,h1,h2,h3⟩:=h
 exact ⟨c,a,u,e,t _ _ h1,t _ _ h2,h3.mono t⟩
inductive ik  (vs:List V) (H:Hp) (Q:VK) (E_:XK):Prop
 | mk: ∀ n t tv,(vs=[tv])->(RepT H n t tv)->(t.sz<=1000)->(∀ d kvs H',H d=none->Same H H'->H' d=some (.dT kvs)->kvs.length=t.sz->Paired (RepT H' n) t.subs (kvs.map (·.2))->Q (.ref d) H')->ik vs H Q E_
noncomputable abbrev nH:List Str:=["tree","boughs","waiting","pair","below"]
theorem scByPlace:aI nH ["tree"] (aj gK):=fsc
theorem oG (F:Fun K "boughs_by_place" "boughs_by_place" gK f fd) (hen:mg "enumerate"=none):FnOk P w K mg base CX0 1 f fd ["tree"] ik:=by
 refine F.ok scByPlace (fun vs H Q E h=>?_) (fun cdv A outer s H vs Q E hr h=>?_)
 ·obtain ⟨n,t,tv,rfl,_⟩:=h
  rfl
 obtain ⟨n,t,tv,rfl,hT,hsz,q⟩:=h
 have hu:=jy hr
 refine ⟨_,af (aq (i:=1) scByPlace.nd rfl (Or.inl rfl) sU)
  (af (aq (i:=2) scByPlace.nd rfl (Or.inl rfl) (bh (aa (aZ (aa (aZ ad) (aa (pv 0) ad))) ad)))
  (af (gN PassesOwn.never (jd (pv 2) (fun _=>rfl))
   (af (aq (i:=3) scByPlace.nd rfl (Or.inr rfl) (jk PySem.F.plainAttrs_list PySem.F.slot_list_pop PySem.F.type_list_pop jq (pv 2)))
   (af (gO hu (pv 1) (au (r:=aV K) ax (pv 3) ae (fun _ _=>rfl)) (au (r:=aV K) ax (pv 3) ae (fun _ _=>rfl)) rfl)
   (af (sP (i:=4) (sc0:=aj gK) (N0:=nH) (ys:=["pair"]) (fr:=[3]) rfl scByPlace.nd rfl (Or.inl rfl) (uY rfl hen (aa (au (r:=aV K) ax (au (r:=aV K) ax (pv 3) ae (fun _ _=>rfl)) ae (fun _ _=>rfl)) ad)) rfl rfl
    ⟨rfl,by decide +kernel,by decide +kernel,by decide +kernel,by decide +kernel,by decide +kernel,by decide +kernel,rfl,by decide +kernel⟩
    (fun C s H ex=>aZ (aa (ar (r:=on K) mK (au (r:=aV K) ax (pv 2) ae (fun _ _=>rfl)) (aZ (aa (pv 0) ad))) (aa (pv 1) ad))))
   (ak (cx (dw PySem.F.plainAttrs_list PySem.F.slot_list_extend PySem.F.type_list_extend fL (pv 2) (aa (pI (pv 4) (pH kM ae)) ad))))))))
  (ak (aF (pv 1))))),?_⟩
 refine fun d hd=>?_
 have s0:=ag hd (.dT [])
 have g0:(upd H d (.dT [])) d=some (.dT []):=ac
 generalize upd H d (.dT [])=H0 at s0 g0 ⊢
 refine ⟨(by show 0<=sizeLine;decide),fun e0 he0=>?_⟩
 have s1:=ag he0 (.tup [])
 have g1:(upd H0 e0 (.tup [])) e0=some (.tup []):=ac
 generalize upd H0 e0 (.tup [])=H1 at s1 g1 ⊢
 refine ⟨_,rfl,(by show 2<=sizeLine;decide),fun c0 hc0=>?_⟩
 have s2:=ag hc0 (.tup [.ref e0,tv])
 have g2:(upd H1 c0 (.tup [.ref e0,tv])) c0=some (.tup [.ref e0,tv]):=ac
 generalize upd H1 c0 (.tup [.ref e0,tv])=H2 at s2 g2 ⊢
 refine ⟨(by show 1<=sizeLine;decide),fun l hl=>?_⟩
 have s3:=ag hl (.lst [.ref c0])
 have g3:(upd H2 l (.lst [.ref c0])) l=some (.lst [.ref c0]):=ac
 generalize upd H2 l (.lst [.ref c0])=H3 at s3 g3 ⊢
 have S3:Same H H3:=((s0.trans s1).trans s2).trans s3
 have hl0:H l=none:=((s0.trans s1).trans s2).free hl
 have hld:l≠d:=fun z=>by rw [z,s2 _ _ (s1 _ _ g0)]at hl;cases hl
 refine ⟨fun m σ H'=> ∃ (Wt:List (List Nat×Bt)) (ws:List V) (kvs:List (List Key×V)) (done:List (List Nat)) (dn:List Bt) (o3 o4:Option V),σ=[some tv,some (.ref d),some (.ref l),o3,o4]/\Same H H'/\H' d=some (.dT kvs)/\H' l=some (.lst ws.reverse)/\
   Paired (RepP H' n) Wt ws/\kvs.map (·.1)=done.map cR/\done++cN Wt=t.places/\Paired (RepT H' n) dn (kvs.map (·.2))/\dn++bg (Wt.map (·.2))=t.subs/\m=(cN Wt).length,
  ⟨_,[([],t)],[.ref c0],[],[],[],none,none,rfl,S3,s3 _ _ (s2 _ _ (s1 _ _ g0)),g3,.cons ⟨c0,e0,tv,rfl,s3 _ _ g2,s3 _ _ (s2 _ _ g1),hT.mono (aG S3)⟩ .nil,rfl,?_,.nil,ie t,rfl⟩,?_⟩
 ·show []++(t.places.map (fun p=>[]++p)++[])=t.places
  rw [List.append_nil,List.nil_append]
  exact List.map_id _
 clear g3 S3 s3 g2 s2 g1 s1 g0 s0 hl hc0 he0
 rintro m σ H4 ⟨Wt,ws,kvs,done,dn,o3,o4,rfl,S4,gd,gl,hP,hk,hall,hdn,hsub,rfl⟩
 have hlen:done.length+ (cN Wt).length=t.sz:=by
  have:=congrArg List.length hall
  rw [List.length_append]at this
  exact this
 refine ⟨_,rfl,_,.inl ⟨ws.reverse,SqL.of gl,rfl⟩,?_⟩
 cases hP with
 | nil=>
  refine cy ?_
  have e:done=t.places:=by rw [<- hall];exact (List.append_nil _).symm
  have e2:dn=t.subs:=by rw [<- hsub];show dn=dn++bg [];rw [bo,List.append_nil]
  have e3:kvs.length=t.sz:=by
   have:=congrArg List.length hk
   rw [List.length_map,List.length_map,e]at this
   exact this
  exact ⟨_,rfl,q d kvs H4 hd S4 gd e3 (by rw [<- e2];exact hdn)⟩
 | @cons qh z W' rs hz hP'=>
  have ne:(!((z::rs).reverse).isEmpty)=true:=by simp
  refine bE (fun _=>?_) (fun c=>absurd ne c)
  refine ⟨_,fun σ' H'' h=>h,?_⟩
  rw [List.reverse_cons]at gl
  refine ⟨_,rfl,.inl ⟨rfl,_,SqL.of gl⟩,l,_,z,rfl,rfl,gl,by simp,?_⟩
  rw [List.dropLast_concat]
  obtain ⟨pl,u⟩:=qh
  have tk5:TK H4 (upd H4 l (.lst rs.reverse)):=TK.lst gl
  have S5:Same H (upd H4 l (.lst rs.reverse)):=fun y oo h=>by
   rw [al (ah h hl0)]
   exact S4 _ _ h
  have gl5:(upd H4 l (.lst rs.reverse)) l=some (.lst rs.reverse):=ac
  have gd5:(upd H4 l (.lst rs.reverse)) d=some (.dT kvs):=by rw [al (Ne.symm hld)];exact gd
  have hz5:=RepP.mono tk5 hz
  have hP5:Paired (RepP (upd H4 l (.lst rs.reverse)) n) W' rs:=Paired.mapP hP' fun _ _ r=>r.mono tk5
  have hd5:Paired (RepT (upd H4 l (.lst rs.reverse)) n) dn (kvs.map (·.2)):=Paired.mapP hdn fun _ _ r=>r.mono tk5
  generalize upd H4 l (.lst rs.reverse)=H5 at tk5 S5 gl5 gd5 hz5 hP5 hd5 ⊢
  clear hz hP' gl gd S4 tk5 hdn
  obtain ⟨c,a,uv,rfl,hc,ha,hu5⟩:=hz5
  have hrest:cN ((pl,u)::W')=pl::((bM 0 u.ps).map (fun p=>pl++p)++cN W'):=by
   show u.places.map (fun p=>pl++p)++cN W'=_
   rw [dk,List.map_cons,List.append_nil];rfl
  rw [hrest]at hall hlen ⊢
  rw [List.length_cons]at hlen
  have hnew:bi kvs (cR pl)=none:=by
   cases hv:bi kvs (cR pl)with
   | none=>rfl
   | some v=>
    have hm:=uN hv
    rw [hk]at hm
    obtain ⟨p',hp',e⟩:=List.mem_map.mp hm
    rw [ke e]at hp'
    have nd:=gQ t.sz t (Nat.le_refl _)
    rw [<- hall,List.nodup_append]at nd
    exact absurd rfl (nd.2.2 pl hp' pl List.mem_cons_self)
  have lkv:kvs.length=done.length:=by
   have:=congrArg List.length hk
   rw [List.length_map,List.length_map]at this
   exact this
  refine ⟨_,rfl,c,_,1,uv,rfl,rfl,SqT.of hc,ay (j:=1) rfl,_,rfl,_,rfl,c,_,0,.ref a,rfl,rfl,SqT.of hc,ay (j:=0) rfl,d,_,rfl,DPut.t gd5 (k:=cR pl) (by rw [t8];exact ha) (av (by lia)),?_⟩
  rw [sL _ hnew]
  have tk6:TK H5 (upd H5 d (.dT (kvs++[(cR pl,uv)]))):=fun b xs e=>by
   rw [al (fun z=>by rw [z,gd5]at e;cases e)];exact e
  have S6:Same H (upd H5 d (.dT (kvs++[(cR pl,uv)]))):=fun y oo h=>by
   rw [al (ah h hd)]
   exact S5 _ _ h
  have gl6:(upd H5 d (.dT (kvs++[(cR pl,uv)]))) l=some (.lst rs.reverse):=by rw [al hld];exact gl5
  have gd6:(upd H5 d (.dT (kvs++[(cR pl,uv)]))) d=some (.dT (kvs++[(cR pl,uv)])):=ac
  have hc6:=tk6 _ _ hc
  have ha6:=tk6 _ _ ha
  have hu6:=hu5.mono tk6
  have hP6:Paired (RepP (upd H5 d (.dT (kvs++[(cR pl,uv)]))) n) W' rs:=Paired.mapP hP5 fun _ _ r=>r.mono tk6
  have hd6:Paired (RepT (upd H5 d (.dT (kvs++[(cR pl,uv)]))) n) dn (kvs.map (·.2)):=Paired.mapP hd5 fun _ _ r=>r.mono tk6
  generalize upd H5 d (.dT (kvs++[(cR pl,uv)]))=H6 at tk6 S6 gl6 gd6 hc6 ha6 hu6 hP6 hd6 ⊢
  clear hc ha hu5 hP5 hd5 gl5 gd5 S5 tk6
  obtain ⟨ua,ub,rfl,hua,hub,hps⟩:=hu6.prt
  have hpl:u.ps.length=(ot H6 (.ref ua)).length:=Paired.length hps
  have hszu:(bM 0 u.ps).length=szL u.ps:=fz _ _
  have hkl:=iP u.ps
  rw [List.length_append,List.length_map]at hlen
  refine ⟨_,rfl,c,_,1,.ref ua,rfl,rfl,SqT.of hc6,ay (j:=1) rfl,ua,_,1,.ref ub,rfl,rfl,SqT.of hua,ay (j:=1) rfl,ub,_,rfl,hub,?_⟩
  refine rD (by lia) hub (fun H q z=> ∃ c a,z=.ref c/\H c=some (.tup [.ref a,q.2])/\H a=some (.tup q.1)) (fun t ⟨c,a,e,h1,h2⟩=>⟨c,a,e,t _ _ h1,t _ _ h2⟩) (fun i v=>(plV pl++[V.int ((i:Nat):Int)],v)) ?_ ?_
  ·intro i v H7 k hv s7 hk7
   refine ⟨_,rfl,c,_,0,.ref a,rfl,rfl,SqT.of (s7 _ _ hc6),ay (j:=0) rfl,_,rfl,(by show 1<=sizeLine;decide),fun q1 hq1=>?_⟩
   have s8:=ag hq1 (.tup [V.int ((i:Nat):Int)])
   have g8:(upd H7 q1 (.tup [V.int ((i:Nat):Int)])) q1=some (.tup [V.int ((i:Nat):Int)]):=ac
   generalize upd H7 q1 (.tup [V.int ((i:Nat):Int)])=H8 at s8 g8 ⊢
   have ha8:=s8 _ _ (s7 _ _ ha6)
   have lpl:(plV pl).length=pl.length:=List.length_map _
   have hplm:pl∈t.places:=by rw [<- hall];exact List.mem_append_right _ List.mem_cons_self
   have hshort:=gP t.sz t (Nat.le_refl _) pl hplm
   have fin: ∀ (b:Addr) (H9:Hp),Same H8 H9->H9 b=some (.tup (plV pl++[V.int ((i:Nat):Int)]))-> ∀ p,H9 p=none->k (.ref p) (upd H9 p (.tup [.ref b,v])):=fun b H9 s9 gb p hp=>
    hk7 _ _ ((s8.trans s9).trans (ag hp _)) ⟨p,b,rfl,ac,(ag hp _) _ _ gb⟩
   refine ⟨a,q1,_,_,rfl,rfl,SqT.of ha8,SqT.of g8,?_,fun e=>?_,fun _ e=>(by cases e),fun _ _ b hb=>?_⟩
   ·rw [lpl];exact Nat.le_of_lt (av (by show pl.length+1<=1000;lia))
   ·refine ⟨_,rfl,(by show 2<=sizeLine;decide),fun p hp=>fin q1 H8 (fun _ _ h=>h) (by rw [e];exact g8) p hp⟩
   ·refine ⟨_,rfl,(by show 2<=sizeLine;decide),fun p hp=>fin b _ (ag hb _) ac p hp⟩
  ·intro pb zb H7 hpb s7 gpb lzb hzb
   have gl7:=s7 _ _ gl6
   refine ⟨_,rfl,.inl ⟨rfl,_,SqL.of gl7⟩,_,rfl,_,rfl,pb,zb,-1,rfl,rfl,SqL.of gpb,by decide,fun b hb=>?_⟩
   rw [jY]
   have s8:=ag hb (.lst zb.reverse)
   have g8:(upd H7 b (.lst zb.reverse)) b=some (.lst zb.reverse):=ac
   generalize upd H7 b (.lst zb.reverse)=H8 at s8 g8 ⊢
   have gl8:=s8 _ _ gl7
   have S8:Same H6 H8:=s7.trans s8
   have lrs:W'.length=rs.length:=Paired.length hP6
   have lW:=j4 W'
   refine ⟨l,b,_,_,rfl,rfl,gl8,g8,?_,?_⟩
   ·rw [List.length_reverse,List.length_reverse]
    exact Nat.le_of_lt (av (by lia))
   have tk9:TK H8 (upd H8 l (.lst (rs.reverse++zb.reverse))):=TK.lst gl8
   have hrk:cN (jR pl 0 u.ps++W')=(bM 0 u.ps).map (fun p=>pl++p)++cN W':=by rw [gL,ja]
   refine ⟨_,?_,jR pl 0 u.ps++W',zb++rs,kvs++[(cR pl,.ref ua)],done++[pl],dn++[u],_,_,rfl,?_,?_,?_,?_,?_,?_,?_,?_,rfl⟩
   ·rw [hrk,List.length_cons];lia
   ·intro y oo h
    rw [al (ah h hl0)]
    exact S8 _ _ (S6 _ _ h)
   ·rw [al (Ne.symm hld)];exact S8 _ _ gd6
   ·rw [ac,List.reverse_append]
   ·refine Paired.appendP (j9 (by rw [nn,lzb];exact hpl) fun i qq z e1 e2=>?_) (Paired.mapP hP6 fun _ _ r=>(r.mono (aG S8)).mono tk9)
    obtain ⟨x,hx,rfl⟩:=nq pl u.ps 0 i qq e1
    obtain ⟨xv,hxv,rx⟩:=bQ hps hx
    obtain ⟨c',a',rfl,h1,h2⟩:=hzb i xv z hxv e2
    refine ⟨c',a',xv,rfl,tk9 _ _ (s8 _ _ h1),tk9 _ _ (s8 _ _ ?_),(rx.mono (aG S8)).mono tk9⟩
    rw [h2]
    show some (HO.tup (plV pl++[V.int ((i:Nat):Int)]))=some (HO.tup (plV (pl++[0+i])))
    rw [Nat.zero_add]
    unfold plV
    rw [List.map_append];rfl
   ·rw [List.map_append,List.map_append,hk];rfl
   ·rw [hrk,List.append_assoc];exact hall
   ·rw [List.map_append]
    exact Paired.appendP (Paired.mapP hd6 fun _ _ r=>(r.mono (aG S8)).mono tk9) (.cons ((hu6.mono (aG S8)).mono tk9) .nil)
   ·rw [<- hsub,List.map_append,nk,List.map_cons,dX,List.append_assoc];rfl
theorem kq {J:It} {n:Nat} {fr:List Nat} {te:TE} {σ:St} {H1:Hp} {Q:VK} {pl:Addr} {rest top:List V} (hn:n<=1000) (ht:top.length=n) (gpl:H1 pl=some (.lst (rest++top.reverse)))
  (hgo: ∀ i H,Kp pl H1 H->i<n->J.go i H) (hst: ∀ H,Kp pl H1 H->J.stop n H) (hy: ∀ i H v H',J.yld i H v H'->H'=H)
  (hte: ∀ x H (k:VK) xs y,H pl=some (.lst xs)->xs[xs.length-1]? =some y->k y (upd H pl (.lst xs.dropLast))->te (some x::cf fr σ) H k)
  (hd: ∀ p H',H1 p=none->Kp pl H1 H'->H' pl=some (.lst rest)->H' p=some (.lst top)->Q (.ref p) H'):dN fr te σ J H1 Q:=by
 intro p hp
 have npl:pl≠p:=fun z=>by rw [<- z,gpl]at hp;cases hp
 refine ⟨fun i m ys H=>i<=n/\m=n-i/\Kp pl H1 H/\ys=top.take i/\H p=some (.lst ys)/\H pl=some (.lst (rest++(top.drop i).reverse)),⟨_,Nat.zero_le _,rfl,Kp.refl.new hp,rfl,ac,by rw [al npl];exact gpl⟩,?_⟩
 rintro i m ys H ⟨hi,hm,kp,rfl,gp,gl⟩
 refine ⟨gp,?_⟩
 by_cases e:i=n
 ·subst e
  rw [<- ht,List.drop_length,List.reverse_nil,List.append_nil]at gl
  rw [<- ht,List.take_length]at gp
  exact .inl ⟨hst H kp,hd p H hp kp gl gp⟩
 ·have hlt:i<n:=by lia
  have hx:top[i]? =some (top[i]'(by lia)):=List.getElem?_eq_getElem (by lia)
  refine .inr ⟨hgo i H kp hlt,av (by rw [List.length_take];lia),fun v H' hv=>?_⟩
  cases hy i H v H' hv
  have ed:rest++(top.drop i).reverse=(rest++(top.drop (i+1)).reverse)++[top[i]'(by lia)]:=by
   rw [List.drop_eq_getElem_cons (by lia),List.reverse_cons,List.append_assoc]
  rw [ed]at gl
  refine hte v H _ _ (top[i]'(by lia)) gl (by simp) ?_
  rw [List.dropLast_concat]
  refine ⟨by rw [al (Ne.symm npl)];exact gp,n- (i+1),by lia,by lia,rfl,?_,?_,ac,by rw [al npl,ac]⟩
  ·intro b o hb hne
   rw [al (ah hb hp),al hne]
   exact kp b o hb hne
  ·rw [List.take_add_one,hx];rfl
theorem Kp.tkL {tp:Addr} {H H':Hp} {xs:List V} (a:Kp tp H H') (t:H tp=some (.lst xs)):TK H H':=fun b ys h=>a b _ h fun e=>by
 rw [e,t]at h;cases h
noncomputable def wrV (u:Bt):V:=.str u.wr
theorem qZ:(("(":Str)).length=1:=by decide +kernel
theorem xL:((")":Str)).length=1:=by decide +kernel
theorem xK:((", ":Str)).length=2:=by decide +kernel
theorem oU {u:Bt} (hs:u.sz<=80) (hw: ∀ x∈u.subs,bj x.nm=true):u.nm.length<=8/\((u.ps.map Bt.wr).map (·.length)).sum+2* (u.ps.map Bt.wr).length<=960:=by
 refine ⟨?_,?_⟩
 ·have:=hw u (by rw [be];exact List.mem_cons_self)
  unfold bj at this
  simp only [Bool.and_eq_true,decide_eq_true_eq]at this
  exact this.1.2
 ·have go: ∀ l:List Bt,(∀ x∈bg l,bj x.nm=true)->((l.map Bt.wr).map (·.length)).sum+2* (l.map Bt.wr).length<=12*szL l:=by
   intro l
   induction l with
   | nil=>intro _;exact Nat.zero_le _
   | cons u r ih2=>
    intro hs
    have e:szL (u::r)=u.sz+szL r:=rfl
    have a:=rL u.sz u (Nat.le_refl _) fun x hx=>hs x (by rw [aL];exact List.mem_append_left _ hx)
    have b:=ih2 fun x hx=>hs x (by rw [aL];exact List.mem_append_right _ hx)
    rw [e,List.map_cons,List.map_cons,List.sum_cons,List.length_cons]
    lia
  have:=go u.ps fun x hx=>hw x (by rw [be];exact List.mem_cons_of_mem _ hx)
  have e:=bY u
  lia
theorem pR {ws:List Str} (h:(ws.map (·.length)).sum+2*ws.length<=960):Builtin.Str.tooLong (ws.toArray.foldl (· + ·.length+ ((", ":Str)).length) 0)=false/\(Builtin.Str.glued ", " ws).length<=960:=by
 have k:=kl ", " ws
 have t:=StrLaws.joinTotal ", " ws
 rw [xK]at k
 refine ⟨?_,by lia⟩
 rw [t,xK]
 unfold Builtin.Str.tooLong
 exact decide_eq_false (by rw [sizeLine_eq];lia)
theorem fW: ∀ (n:Nat) {t u:Bt},t.sz<=n->u∈t.subs-> ∀ x∈u.subs,x∈t.subs:=by
 intro n
 induction n with
 | zero=>intro t u h;have:=dO t;lia
 | succ n ih=>
  intro t u h hu x hx
  rw [be]at hu
  rcases List.mem_cons.mp hu with rfl | hu
  ·exact hx
  rw [be]
  refine List.mem_cons_of_mem _ ?_
  have go: ∀ l:List Bt,szL l<=n->u∈bg l->x∈bg l:=by
   intro l
   induction l with
   | nil=>intro _ h;rw [bo]at h;cases h
   | cons y r ih2=>
    intro hl hu
    have e:szL (y::r)=y.sz+szL r:=rfl
    rw [aL]at hu ⊢
    rcases List.mem_append.mp hu with hu | hu
    ·exact List.mem_append_left _ (ih (by lia) hu x hx)
    ·exact List.mem_append_right _ (ih2 (by lia) hu)
  have e:=bY t
  exact go t.ps (by lia) hu
inductive nX  (vs:List V) (H:Hp) (Q:VK) (E_:XK):Prop
 | mk: ∀ n t tv,(vs=[tv])->(RepT H n t tv)->(t.sz<=60)->((∀ u∈t.subs,bj u.nm=true))->(∀ H',Same H H'->Q (.str t.wr) H')->nX vs H Q E_
noncomputable abbrev vT:List Str:=["tree","pile","bough","parts"]
theorem scShow:aI vT ["tree"] (aj pj):=fsc
theorem u7 (F:Fun K "show_tree" "show_tree" pj f fd) (hlist:mg "list"=none) (hrev:mg "reversed"=none) (GB:FnOk P w K mg base CX0 1 g gd ["tree"] ik) (bB:Binds K gd ["tree"] []) (kB:PySem.W.keepIn K (.ref g)=true) (mB:mg "boughs_by_place"=some (.ref g)):
  FnOk P w K mg base CX0 2 f fd ["tree"] nX:=by
 refine F.ok scShow (fun vs H Q E h=>?_) (fun cdv A outer s H vs Q E hr h=>?_)
 ·obtain ⟨n,t,tv,rfl,_⟩:=h
  rfl
 obtain ⟨n,t,tv,rfl,hT,hsz,hw,q⟩:=h
 refine ⟨_,af (aq (i:=1) scShow.nd rfl (Or.inr rfl) (bh ad))
  (af (cr PassesOwn.never rfl (sS rfl hrev (mz rfl rfl hlist (am GB hr rfl mB kB bB .nil aD (aa (pv 0) ad)))) (aS (i:=2) scShow.nd rfl (Or.inl rfl))
   (af (eI (i:=3) (te:=wj K "list" uV (qp 1)) (sc0:=aj pj) (N0:=vT) (ys:=["pile"]) (fr:=[1]) rfl scShow.nd rfl (Or.inl rfl) (bZ (au (r:=aV K) ax (pv 2) ae (fun _ _=>rfl))) rfl rfl
    cok
    (fun C s H ex=>jk PySem.F.plainAttrs_list PySem.F.slot_list_pop PySem.F.type_list_pop jq (pv 1)))
   (ak (cx (dw PySem.F.plainAttrs_list PySem.F.slot_list_append PySem.F.type_list_append bK (pv 1) (aa
    (ji (jd (pv 3) (fun _=>rfl))
     (ar aJ (ar aJ (ar aJ (au (r:=aV K) ax (pv 2) ae (fun _ _=>rfl)) aN) (dw PySem.F.plainAttrs_str PySem.F.slot_str_join PySem.F.type_str_join pN aN (aa (pv 3) ad))) aN)
     (au (r:=aV K) ax (pv 2) ae (fun _ _=>rfl))) ad))))))
  (ak (aF (jk PySem.F.plainAttrs_list PySem.F.slot_list_pop PySem.F.type_list_pop jq (pv 1))))),?_⟩
 refine ⟨(by show 0<=sizeLine;decide),fun pl hpl=>?_⟩
 have s0:=ag hpl (.lst [])
 have g0:(upd H pl (.lst [])) pl=some (.lst []):=ac
 generalize upd H pl (.lst [])=H0 at s0 g0 ⊢
 refine ⟨_,rfl,n,t,tv,rfl,hT.mono (aG s0),by lia,fun d kvs H1 hd S1 gd hkl hP=>?_⟩
 refine ⟨d,kvs,rfl,gd,fun lv hlv=>?_⟩
 have hvl:(kvs.map (·.2)).length=t.sz:=by rw [List.length_map];exact hkl
 generalize kvs.map (·.2)=vs at hP hvl ⊢
 have s2:=ag hlv (.lst vs)
 have g2:(upd H1 lv (.lst vs)) lv=some (.lst vs):=ac
 have gp2:(upd H1 lv (.lst vs)) pl=some (.lst []):=s2 _ _ (S1 _ _ g0)
 have nlp:lv≠pl:=fun z=>by rw [z,S1 _ _ g0]at hlv;cases hlv
 have hP2:Paired (RepT (upd H1 lv (.lst vs)) n) t.subs vs:=Paired.mapP hP fun _ _ r=>r.mono (aG s2)
 have hlv0:H lv=none:=(s0.trans S1).free hlv
 have S2:Same H (upd H1 lv (.lst vs)):=(s0.trans S1).trans s2
 generalize upd H1 lv (.lst vs)=H2 at s2 g2 gp2 hP2 S2 ⊢
 have hsl:t.subs.length=t.sz:=mq _ t (Nat.le_refl _)
 refine ⟨lv,vs,rfl,SqL.of g2,?_⟩
 refine pW (fun i σ H'=>i<=vs.length/\ ∃ o2 o3,σ=[some tv,some (.ref pl),o2,o3]/\Same H H'/\H' lv=some (.lst vs)/\Paired (RepT H' n) t.subs vs/\H' pl=some (.lst ((cB t (vs.length-i)).map wrV).reverse))
  ⟨Nat.zero_le _,none,none,rfl,S2,g2,hP2,?_⟩ (fun i σ H' _ h=>by obtain ⟨_,_,_,_,_,g,_⟩:=h;exact SqL.of g) ?_ ?_
 ·rw [Nat.sub_zero,hvl,<- hsl,oN];exact gp2
 ·rintro i x σ H3 hi hx ⟨_,o2,o3,rfl,S3,g3,hP3,gp3⟩
  obtain ⟨u,hu,hR⟩:=aX hP3 hx
  obtain ⟨r,f1,f2⟩:=rm hu
  have hum:u∈t.subs:=List.mem_of_getElem? hu
  have husz:u.sz<=60:=Nat.le_trans (kU _ t (Nat.le_refl _) u hum) hsz
  have huw: ∀ y∈u.subs,bj y.nm=true:=fun y hy=>hw y (fW _ (Nat.le_refl _) hum y hy)
  obtain ⟨hnm,hsum⟩:=oU (by lia) huw
  obtain ⟨a,b,rfl,ha,hb,hps⟩:=hR.prt
  have hlps:u.ps.length=(ot H3 (.ref a)).length:=Paired.length hps
  have hfl:=jz (t:=t) (vs.length-1-i)
  have hfl2:=jz (t:=t) (vs.length-i)
  rw [show vs.length-i=vs.length-1-i+1 by lia,f2]at gp3 hfl2
  rw [f1]at hfl
  rw [List.length_append]at hfl2
  rw [List.length_cons]at hfl
  rw [List.map_append,List.reverse_append]at gp3
  refine ⟨_,rfl,a,_,1,.ref b,rfl,rfl,SqT.of ha,ay (j:=1) rfl,b,rfl,⟨_,SqT.of hb⟩,?_⟩
  have kb: ∀ H,Kp pl H3 H->H b=some (.tup (ot H3 (.ref a))):=fun H k=>k b _ hb (fun z=>by rw [z,gp3]at hb;cases hb)
  refine kq (n:=u.ps.length) (by lia) (List.length_map _) gp3 (fun i H k h=>⟨_,_,SqT.of (kb H k),List.getElem?_eq_getElem (by lia)⟩) (fun H k=>⟨_,SqT.of (kb H k),by lia⟩) (fun i H v H' h=>h.1)
   (fun x H k xs y h1 h2 h3=>⟨_,rfl,.inl ⟨rfl,xs,SqL.of h1⟩,pl,xs,y,rfl,rfl,h1,h2,h3⟩) ?_
  intro p4 H4 hp4 k4 gp4 g4
  have tk4:TK H3 H4:=k4.tkL gp3
  have ha4:=tk4 _ _ ha
  have np:p4≠pl:=fun z=>by rw [z,gp3]at hp4;cases hp4
  have fin: ∀ H5,H5=upd H4 pl (.lst ((r.map wrV).reverse++[.str u.wr]))->i+1<=vs.length/\ ∃ o2 o3,[some tv,some (V.ref pl),some (.ref a),some (.ref p4)]=[some tv,some (.ref pl),o2,o3]/\Same H H5/\H5 lv=some (.lst vs)/\Paired (RepT H5 n) t.subs vs/\H5 pl=some (.lst ((cB t (vs.length- (i+1))).map wrV).reverse):=by
   rintro H5 rfl
   have tk5:TK H4 (upd H4 pl (.lst ((r.map wrV).reverse++[.str u.wr]))):=TK.lst gp4
   refine ⟨hi,_,_,rfl,?_,?_,Paired.mapP hP3 fun _ _ r=>(r.mono tk4).mono tk5,?_⟩
   ·intro y oo h
    rw [al (ah h hpl)]
    exact k4 _ _ (S3 _ _ h) (ah h hpl)
   ·rw [al nlp];exact k4 _ _ g3 nlp
   ·rw [ac,show vs.length- (i+1)=vs.length-1-i by lia,f1,List.map_cons,List.reverse_cons];rfl
  refine ⟨_,rfl,.inl ⟨rfl,_,SqL.of gp4⟩,_,rfl,_,.inl ⟨_,SqL.of g4,rfl⟩,?_⟩
  have hlen:((r.map wrV).reverse).length<sizeLine:=av (by rw [List.length_reverse,List.length_map];lia)
  refine bE (fun c=>?_) (fun c=>?_)
  ·have hne: ¬ (u.ps.map Bt.wr).isEmpty=true:=by
    intro z
    cases hu2:u.ps with
    | nil=>rw [hu2]at c;cases c
    | cons y l=>rw [hu2]at z;cases z
   obtain ⟨j1,j2⟩:=pR hsum
   have em:u.ps.map wrV=(u.ps.map Bt.wr).map V.str:=by rw [List.map_map];rfl
   rw [em]at g4
   refine ⟨_,rfl,a,_,0,.str u.nm,rfl,rfl,SqT.of ha4,ay (j:=0) rfl,_,_,rfl,rfl,by rw [qZ];exact Nat.le_of_lt (av (by lia)),rfl,_,rfl,", ",p4,_,rfl,rfl,SqL.of g4,j1,Nat.le_of_lt (av (by lia)),?_⟩
   refine ⟨_,_,rfl,rfl,by rw [Str.length_append,qZ];exact Nat.le_of_lt (av (by lia)),_,_,rfl,rfl,by rw [Str.length_append,Str.length_append,qZ,xL];exact Nat.le_of_lt (av (by lia)),?_⟩
   refine ⟨pl,_,_,rfl,rfl,gp4,hlen,fin _ ?_⟩
   rw [iU u,txt,if_neg hne]
  ·have hem:(u.ps.map Bt.wr).isEmpty=true:=by
    cases hu2:u.ps with
    | nil=>rfl
    | cons y l=>rw [hu2]at c;exact absurd rfl c
   refine ⟨_,rfl,a,_,0,.str u.nm,rfl,rfl,SqT.of ha4,ay (j:=0) rfl,pl,_,_,rfl,rfl,gp4,hlen,fin _ ?_⟩
   rw [iU u,txt,if_pos hem]
 ·rintro σ H3 ⟨_,o2,o3,rfl,S3,g3,hP3,gp3⟩
  rw [Nat.sub_self]at gp3
  refine ⟨_,rfl,.inl ⟨rfl,_,SqL.of gp3⟩,pl,_,.str t.wr,rfl,rfl,gp3,rfl,q _ fun y oo h=>?_⟩
  rw [al (ah h hpl)]
  exact S3 _ _ h
noncomputable def da (cnt:Str->Nat):List Str->List Bt->Option (List Bt)
 | [],pile=>some pile
 | w::r,pile=>if pile.length<cnt w then none else da cnt r (Bt.mk w (pile.take (cnt w))::pile.drop (cnt w))
theorem j3 (cnt:Str->Nat) {r:List Str}: ∀ (l:List Bt),(∀ t∈l,∀ r pile,da cnt ((t.subs.map Bt.nm).reverse++r) pile=da cnt r (t::pile))-> ∀ pile,da cnt (((bg l).map Bt.nm).reverse++r) pile=da cnt r (l++pile)
 | [],_,pile=>by rw [bo];rfl
 | t::l,h,pile=>by
  rw [aL,List.map_append,List.reverse_append,List.append_assoc,j3 cnt l (fun x hx=>h x (List.mem_cons_of_mem _ hx)),h t List.mem_cons_self]
  rfl
theorem qA (cnt:Str->Nat): ∀ (n:Nat) (t:Bt),t.sz<=n->(∀ u∈t.subs,cnt u.nm=u.ps.length)-> ∀ r pile,da cnt ((t.subs.map Bt.nm).reverse++r) pile=da cnt r (t::pile):=by
 intro n
 induction n with
 | zero=>intro t h;have:=dO t;lia
 | succ n ih=>
  intro t h hc r pile
  have hk: ∀ c∈t.ps,∀ r pile,da cnt ((c.subs.map Bt.nm).reverse++r) pile=da cnt r (c::pile):=fun c hcm=>by
   have hin: ∀ u∈c.subs,u∈t.subs:=fun u hu=>by
    rw [be]
    refine List.mem_cons_of_mem _ ?_
    have: ∀ l:List Bt,c∈l->u∈bg l:=by
     intro l
     induction l with
     | nil=>intro z;cases z
     | cons a l ihl=>
      intro z
      rw [aL]
      rcases List.mem_cons.mp z with z | z
      ·rw [<- z];exact List.mem_append_left _ hu
      ·exact List.mem_append_right _ (ihl z)
    exact this _ hcm
   refine ih c ?_ (fun u hu=>hc u (hin u hu))
   have h2:=iO hcm
   rw [bY]at h
   lia
  rw [be,List.map_cons,List.reverse_cons,List.append_assoc,j3 cnt t.ps hk]
  show da cnt (t.nm::r) (t.ps++pile)=_
  have hn:=hc t (by rw [be];exact List.mem_cons_self)
  rw [show da cnt (t.nm::r) (t.ps++pile)=if (t.ps++pile).length<cnt t.nm then none else da cnt r (Bt.mk t.nm ((t.ps++pile).take (cnt t.nm))::(t.ps++pile).drop (cnt t.nm))from rfl]
  rw [hn,if_neg (by rw [List.length_append];lia),List.take_left,List.drop_left]
  cases t
  rfl
theorem qz {cnt:Str->Nat} {t:Bt} (h: ∀ u∈t.subs,cnt u.nm=u.ps.length):da cnt (t.subs.map Bt.nm).reverse []=some [t]:=by
 have:=qA cnt _ t (Nat.le_refl _) h [] []
 rw [List.append_nil]at this
 exact this
theorem pk (cnt:Str->Nat): ∀ (ws:List Str) (pile:List Bt) {l:List Bt},da cnt ws pile=some l->szL l=szL pile+ws.length
 | [],pile,l,h=>by cases h;rfl
 | w::r,pile,l,h=>by
  unfold da at h
  by_cases c:pile.length<cnt w
  ·rw [if_pos c]at h;cases h
  ·rw [if_neg c]at h
   have e1:szL (Bt.mk w (pile.take (cnt w))::pile.drop (cnt w))=szL (pile.take (cnt w)) +1+szL (pile.drop (cnt w)):=by
    rw [show Bt.mk w (pile.take (cnt w))::pile.drop (cnt w)=[Bt.mk w (pile.take (cnt w))]++pile.drop (cnt w)from rfl,eB]
    have:szL [Bt.mk w (pile.take (cnt w))]=(Bt.mk w (pile.take (cnt w))).sz:=by
     show szL (_::[])=_
     simp only [szL]
     lia
    rw [this,bY]
    rfl
   have e2:=eB (pile.take (cnt w)) (pile.drop (cnt w))
   rw [List.take_append_drop]at e2
   rw [pk cnt r _ h,e1,List.length_cons]
   lia
noncomputable def wrc (t:Bt):List Nat:=t.wr.cps.toList
noncomputable def sgn (k:Nat):List Nat:=if k=0 then [40]else [44,32]
noncomputable def pT:Nat->List Bt->List Nat
 | _,[]=>[]
 | k,t::r=>sgn k++(wrc t++pT (k+1) r)
noncomputable def clo (l:List Bt):List Nat:=if l.isEmpty=true then []else [41]
theorem nu: ∀ (t:Bt) (r:List Bt) (k:Nat),(Str.join ", " ((t::r).map Bt.wr)).cps.toList=wrc t++pT (k+1) r
 | t,[],k=>by
  show t.wr.cps.toList=wrc t++[]
  rw [List.append_nil];rfl
 | t,u::r,k=>by
  show ((t.wr.cps++(", ":Str).cps)++(Str.join ", " ((u::r).map Bt.wr)).cps).toList=wrc t++(sgn (k+1)++(wrc u++pT (k+1+1) r))
  rw [Array.toList_append,Array.toList_append,nu u r (k+1),List.append_assoc]
  rfl
theorem kK (t:Bt):wrc t=t.nm.cps.toList++(pT 0 t.ps++clo t.ps):=by
 unfold wrc
 rw [iU]
 unfold txt
 cases h:t.ps with
 | nil=>show t.nm.cps.toList=_++[];rw [List.append_nil]
 | cons u r=>
  show ((((t.nm.cps++("(":Str).cps)++(Builtin.Str.glued ", " ((u::r).map Bt.wr)).cps)++(")":Str).cps)).toList=t.nm.cps.toList++((sgn 0++(wrc u++pT 1 r))++[41])
  rw [StrLaws.glued_eq_join,Array.toList_append,Array.toList_append,Array.toList_append,nu u r 0]
  simp only [List.append_assoc]
  rfl
noncomputable def Vld (bk:Bk):Nat->Bt->Srt->Prop
 | 0,_,_=>False
 | n+1,t,s=> ∃ fr,fr∈bk.forms/\Frm.name fr=t.nm/\fr.own=s/\Paired (Vld bk n) t.ps fr.parts
noncomputable def dF (bk:Bk) (g:Nat->Nat->Option (Bt×Nat×Nat)) (X:List Nat):Nat->Nat->Nat->List Srt->Option (List Bt×Nat×Nat)
 | _,e,room,[]=>some ([],e,room)
 | k,e,room,q::qs=>if (X.drop e).take (sgn k).length=sgn k then
   match g (e+ (sgn k).length) room with
   | none=>none
   | some (t,e',room')=>if (aK t.nm bk.forms).map (fun fr=>fr.own.name)=some q.name then (dF bk g X (k+1) e' room' qs).map fun r=>(t::r.1,r.2)else none
  else none
noncomputable def rdg (bk:Bk) (X:List Nat):Nat->Nat->Nat->Option (Bt×Nat×Nat)
 | 0,_,_=>none
 | f+1,at_,room=>match aK ⟨((X.drop at_).takeWhile cE).toArray⟩ bk.forms with
  | none=>none
  | some fr=>if room<1 then none else
   match dF bk (rdg bk X f) X 0 (at_+ ((X.drop at_).takeWhile cE).length) (room-1) fr.parts with
   | none=>none
   | some (ts,e,room')=>if ts.isEmpty=true then some (.mk fr.name ts,e,room')else if X[e]? =some 41 then some (.mk fr.name ts,e+1,room')else none
theorem rR {p:Nat->Bool}: ∀ {a b:List Nat},(∀ c∈a,p c=true)->(∀ c,b.head?=some c->p c=false)->(a++b).takeWhile p=a
 | [],[],_,_=>rfl
 | [],c::b,_,h=>by
  show (c::b).takeWhile p=[]
  rw [List.takeWhile_cons,h c rfl]
  rfl
 | x::a,b,ha,h=>by
  rw [List.cons_append,List.takeWhile_cons,ha x List.mem_cons_self,rR (fun c hc=>ha c (List.mem_cons_of_mem _ hc)) h]
  rfl
theorem pJ {k:Nat} {l:List Bt} {tl:List Nat} (h: ∀ c,tl.head?=some c->cE c=false): ∀ c,(pT k l++tl).head?=some c->cE c=false:=by
 cases l with
 | nil=>exact h
 | cons t r=>
  intro c hc
  have hc:(sgn k++_++tl).head?=some c:=hc
  unfold sgn at hc
  split at hc
  ·cases hc;decide
  ·cases hc;decide
theorem fP {bk:Bk} {X:List Nat} {f:Nat} (hF: ∀ fr∈bk.forms,aK (Frm.name fr) bk.forms=some fr)
  (ih: ∀ t s at_ room rest,Vld bk f t s->X.drop at_=wrc t++rest->(∀ c,rest.head?=some c->cE c=false)->t.sz<=room->rdg bk X f at_ room=some (t,at_+ (wrc t).length,room-t.sz)):
  ∀ {ps:List Bt} {qs:List Srt} (k e room:Nat) (tl:List Nat),Paired (Vld bk f) ps qs->X.drop e=pT k ps++tl->(∀ c,tl.head?=some c->cE c=false)->szL ps<=room->dF bk (rdg bk X f) X k e room qs=some (ps,e+ (pT k ps).length,room-szL ps)
 | _,_,k,e,room,tl,.nil,_,_,_=>rfl
 | t::r,q::qs,k,e,room,tl,.cons hv hp,hx,ht,hs=>by
  have hs:t.sz+szL r<=room:=hs
  have hx:X.drop e=sgn k++((wrc t++pT (k+1) r))++tl:=hx
  have hx2:X.drop (e+ (sgn k).length)=wrc t++(pT (k+1) r++tl):=by
   rw [<- List.drop_drop,hx,List.append_assoc,List.drop_left,List.append_assoc]
  have hx3:X.drop (e+ (sgn k).length+ (wrc t).length)=pT (k+1) r++tl:=by
   rw [<- List.drop_drop,hx2,List.drop_left]
  have h1:=ih t q _ room _ hv hx2 (pJ ht) (by lia)
  have hq:(aK t.nm bk.forms).map (fun fr=>fr.own.name)=some q.name:=by
   cases f with
   | zero=>exact absurd hv id
   | succ n=>
    obtain ⟨fr,a,b,c,_⟩:=hv
    rw [<- b,hF fr a,<- c]
    rfl
  have h2:=fP hF ih (k+1) _ (room-t.sz) tl hp hx3 ht (by lia)
  unfold dF
  rw [if_pos (by rw [hx,List.append_assoc,List.take_left]),h1]
  show (if _ then _ else _)=_
  rw [if_pos hq,h2]
  show some (t::r,_,_)=some (t::r,_,_)
  congr 3
  ·show _=e+ (sgn k++(wrc t++pT (k+1) r)).length
   rw [List.length_append,List.length_append]
   lia
  ·show _=room- (t.sz+szL r)
   lia
theorem lI {bk:Bk} {X:List Nat} (hF: ∀ fr∈bk.forms,aK (Frm.name fr) bk.forms=some fr) (hW: ∀ fr∈bk.forms,bj (Frm.name fr)=true): ∀ (f:Nat) (t:Bt) (s:Srt) (at_ room:Nat) (rest:List Nat),Vld bk f t s->X.drop at_=wrc t++rest->(∀ c,rest.head?=some c->cE c=false)->t.sz<=room->rdg bk X f at_ room=some (t,at_+ (wrc t).length,room-t.sz):=by
 intro f
 induction f with
 | zero=>intro t s at_ room rest h;exact absurd h id
 | succ f ih=>
  intro t s at_ room rest hv hx hr hs
  obtain ⟨fr,hm,hn,ho,hp⟩:=hv
  have hwl: ∀ c∈t.nm.cps.toList,cE c=true:=by rw [<- hn];exact List.all_eq_true.mp (Bool.and_eq_true_iff.mp (hW fr hm)).2
  rw [kK,List.append_assoc,List.append_assoc]at hx
  have hcl: ∀ c,(clo t.ps++rest).head?=some c->cE c=false:=by
   intro c hc
   unfold clo at hc
   split at hc
   ·exact hr c hc
   ·cases hc;decide
  have htw:(X.drop at_).takeWhile cE=t.nm.cps.toList:=by
   rw [hx]
   exact rR hwl (pJ hcl)
  have hx2:X.drop (at_+t.nm.cps.toList.length)=pT 0 t.ps++(clo t.ps++rest):=by rw [<- List.drop_drop,hx,List.drop_left]
  have h1:=fP hF ih 0 _ (room-1) _ hp hx2 hcl (by rw [bY]at hs;lia)
  have hx3:X.drop (at_+t.nm.cps.toList.length+ (pT 0 t.ps).length)=clo t.ps++rest:=by rw [<- List.drop_drop,hx2,List.drop_left]
  have hsz:=bY t
  have hlen:(wrc t).length=t.nm.cps.toList.length+ ((pT 0 t.ps).length+ (clo t.ps).length):=by rw [kK,List.length_append,List.length_append]
  unfold rdg
  rw [htw,show (⟨t.nm.cps.toList.toArray⟩:Str)=t.nm from rfl,<- hn,hF fr hm]
  show (if room<1 then none else _)=_
  rw [if_neg (by lia),hn,h1]
  show (if t.ps.isEmpty=true then _ else _)=_
  have e0:Bt.mk t.nm t.ps=t:=by cases t;rfl
  by_cases c:t.ps.isEmpty=true
  ·rw [if_pos c,e0]
   have:clo t.ps=[]:=by unfold clo;rw [if_pos c]
   rw [hlen,this,List.length_nil]
   exact congrArg some (congrArg (Prod.mk t) (Prod.ext (by show _=_;lia) (by show _=_;lia)))
  ·have hc1:clo t.ps=[41]:=by unfold clo;rw [if_neg c]
   rw [if_neg c,if_pos,e0]
   ·rw [hlen,hc1,List.length_singleton]
    exact congrArg some (congrArg (Prod.mk t) (Prod.ext (by show _=_;lia) (by show _=_;lia)))
   ·rw [hc1]at hx3
    have:=congrArg (·[0]?) hx3
    simp only [List.getElem?_drop,Nat.add_zero]at this
    exact this
theorem lU {X a:List Nat} {e:Nat} (h:(X.drop e).take a.length=a):X.drop e=a++X.drop (e+a.length):=by
 rw [<- List.drop_drop]
 conv=>lhs;rw [<- List.take_append_drop a.length (X.drop e)]
 rw [h]
theorem mf {p:Nat->Bool} (l:List Nat):l=l.takeWhile p++l.drop (l.takeWhile p).length:=by
 induction l with
 | nil=>rfl
 | cons x l ih=>
  rw [List.takeWhile_cons]
  cases h:p x with
  | false=>rfl
  | true=>
   show x::l=x::(l.takeWhile p++(x::l).drop ((l.takeWhile p).length+1))
   rw [List.drop_succ_cons,<- ih]
theorem jc {bk:Bk} {X:List Nat} {f:Nat} (hS: ∀ nm fr,aK nm bk.forms=some fr->fr∈bk.forms/\Frm.name fr=nm) (hU: ∀ fr∈bk.forms,∀ fr'∈bk.forms,Frm.name fr=Frm.name fr'->fr=fr'):
  ∀ (qs:List Srt) (k e room:Nat) {ts:List Bt} {e' room':Nat},(∀ q∈qs,∀ fr∈bk.forms,fr.own.name=q.name->fr.own=q)->
  (∀ at_ room t e room',rdg bk X f at_ room=some (t,e,room')-> ∃ s,Vld bk f t s/\X.drop at_=wrc t++X.drop e/\room=room'+t.sz/\e=at_+ (wrc t).length)->
  dF bk (rdg bk X f) X k e room qs=some (ts,e',room')->Paired (Vld bk f) ts qs/\X.drop e=pT k ts++X.drop e'/\room=room'+szL ts/\e'=e+ (pT k ts).length
 | [],k,e,room,ts,e',room',_,_,h=>by
  cases h
  exact ⟨.nil,rfl,rfl,rfl⟩
 | q::qs,k,e,room,ts,e',room',hq,ih,h=>by
  unfold dF at h
  by_cases c:(X.drop e).take (sgn k).length=sgn k
  ·rw [if_pos c]at h
   have hd:=lU c
   cases hg:rdg bk X f (e+ (sgn k).length) room with
   | none=>rw [hg]at h;cases h
   | some w=>
    obtain ⟨t,e1,r1⟩:=w
    rw [hg]at h
    obtain ⟨s,v1,v2,v3,v4⟩:=ih _ _ _ _ _ hg
    have h:(if (aK t.nm bk.forms).map (fun fr=>fr.own.name)=some q.name then (dF bk (rdg bk X f) X (k+1) e1 r1 qs).map fun r=>(t::r.1,r.2)else none)=some (ts,e',room'):=h
    by_cases c2:(aK t.nm bk.forms).map (fun fr=>fr.own.name)=some q.name
    ·rw [if_pos c2]at h
     cases hr:dF bk (rdg bk X f) X (k+1) e1 r1 qs with
     | none=>rw [hr]at h;cases h
     | some w=>
      obtain ⟨ts1,e2,r2⟩:=w
      rw [hr]at h
      cases h
      obtain ⟨a1,a2,a3,a4⟩:=jc hS hU qs (k+1) e1 r1 (fun q' h'=>hq q' (List.mem_cons_of_mem _ h')) ih hr
      have hsq:s=q:=by
       cases f with
       | zero=>exact absurd v1 id
       | succ n=>
        obtain ⟨fr,b1,b2,b3,b4⟩:=v1
        cases hl:aK t.nm bk.forms with
        | none=>rw [hl]at c2;cases c2
        | some fr2=>
         rw [hl]at c2
         obtain ⟨d1,d2⟩:=hS _ _ hl
         have c2:=hq q List.mem_cons_self fr2 d1 (Option.some.inj c2)
         rw [<- b3,<- c2]
         exact congrArg Frm.own (hU fr b1 fr2 d1 (b2.trans d2.symm))
      subst hsq
      refine ⟨.cons v1 a1,?_,?_,?_⟩
      ·rw [hd,v2,a2]
       show _=(sgn k++(wrc t++pT (k+1) ts1))++_
       simp only [List.append_assoc]
      ·show room=room'+ (t.sz+szL ts1)
       lia
      ·show e'=e+ (sgn k++(wrc t++pT (k+1) ts1)).length
       rw [List.length_append,List.length_append]
       lia
    ·rw [if_neg c2]at h;cases h
  ·rw [if_neg c]at h;cases h
theorem j5 {bk:Bk} {X:List Nat} (hS: ∀ nm fr,aK nm bk.forms=some fr->fr∈bk.forms/\Frm.name fr=nm) (hU: ∀ fr∈bk.forms,∀ fr'∈bk.forms,Frm.name fr=Frm.name fr'->fr=fr')
  (hq: ∀ fr'∈bk.forms,∀ q∈fr'.parts,∀ fr∈bk.forms,fr.own.name=q.name->fr.own=q): ∀ (f at_ room:Nat) (t:Bt) (e room':Nat),rdg bk X f at_ room=some (t,e,room')-> ∃ s,Vld bk f t s/\X.drop at_=wrc t++X.drop e/\room=room'+t.sz/\e=at_+ (wrc t).length:=by
 intro f
 induction f with
 | zero=>intro at_ room t e room' h;cases h
 | succ f ih=>
  intro at_ room t e room' h
  unfold rdg at h
  cases hl:aK ⟨((X.drop at_).takeWhile cE).toArray⟩ bk.forms with
  | none=>rw [hl]at h;cases h
  | some fr=>
   rw [hl]at h
   obtain ⟨d1,d2⟩:=hS _ _ hl
   have hnm:fr.name.cps.toList=(X.drop at_).takeWhile cE:=by rw [d2]
   have h:(if room<1 then none else match dF bk (rdg bk X f) X 0 (at_+ ((X.drop at_).takeWhile cE).length) (room-1) fr.parts with
    | none=>none
    | some (ts,e,room')=>if ts.isEmpty=true then some (Bt.mk fr.name ts,e,room')else if X[e]? =some 41 then some (Bt.mk fr.name ts,e+1,room')else none)=some (t,e,room'):=h
   by_cases c:room<1
   ·rw [if_pos c]at h;cases h
   ·rw [if_neg c]at h
    cases hr:dF bk (rdg bk X f) X 0 (at_+ ((X.drop at_).takeWhile cE).length) (room-1) fr.parts with
    | none=>rw [hr]at h;cases h
    | some w=>
     obtain ⟨ts,e1,r1⟩:=w
     rw [hr]at h
     obtain ⟨a1,a2,a3,a4⟩:=jc hS hU fr.parts _ _ _ (hq fr d1) ih hr
     have hd:X.drop at_=fr.name.cps.toList++X.drop (at_+ ((X.drop at_).takeWhile cE).length):=by
      rw [hnm,<- List.drop_drop]
      exact mf _
     rw [<- hnm]at hd a2 a4
     have h:(if ts.isEmpty=true then some (Bt.mk fr.name ts,e1,r1)else if X[e1]? =some 41 then some (Bt.mk fr.name ts,e1+1,r1)else none)=some (t,e,room'):=h
     by_cases c1:ts.isEmpty=true
     ·rw [if_pos c1]at h
      cases h
      have hcl:clo ts=[]:=by unfold clo;rw [if_pos c1]
      have hw:=kK (Bt.mk fr.name ts)
      have hz:=bY (Bt.mk fr.name ts)
      change wrc (Bt.mk fr.name ts)=fr.name.cps.toList++(pT 0 ts++clo ts)at hw
      change (Bt.mk fr.name ts).sz=szL ts+1 at hz
      rw [hcl,List.append_nil]at hw
      refine ⟨fr.own,⟨fr,d1,rfl,rfl,a1⟩,?_,by lia,?_⟩
      ·rw [hd,a2,hw,List.append_assoc]
      ·rw [hw,List.length_append];lia
     ·rw [if_neg c1]at h
      by_cases c2:X[e1]? =some 41
      ·rw [if_pos c2]at h
       cases h
       have hcl:clo ts=[41]:=by unfold clo;rw [if_neg c1]
       have hw:=kK (Bt.mk fr.name ts)
       have hz:=bY (Bt.mk fr.name ts)
       change wrc (Bt.mk fr.name ts)=fr.name.cps.toList++(pT 0 ts++clo ts)at hw
       change (Bt.mk fr.name ts).sz=szL ts+1 at hz
       rw [hcl]at hw
       have h41:X.drop e1=41::X.drop (e1+1):=by
        obtain ⟨hlt,hv⟩:=List.getElem?_eq_some_iff.mp c2
        rw [List.drop_eq_getElem_cons hlt,hv]
       refine ⟨fr.own,⟨fr,d1,rfl,rfl,a1⟩,?_,by lia,?_⟩
       ·rw [hd,a2,hw,h41]
        simp only [List.append_assoc]
        rfl
       ·rw [hw,List.length_append,List.length_append,List.length_singleton];lia
      ·rw [if_neg c2]at h;cases h
theorem Vld.fit {bk:Bk}: ∀ (n:Nat) {t:Bt} {s:Srt},Vld bk n t s-> ∀ m,t.sz<=m->Vld bk m t s:=by
 intro n
 induction n with
 | zero=>intro t s h;exact absurd h id
 | succ n ih=>
  intro t s h m hm
  obtain ⟨fr,a,b,c,d⟩:=h
  have hz:=bY t
  cases m with
  | zero=>lia
  | succ m=>
   refine ⟨fr,a,b,c,?_⟩
   have go: ∀ {l:List Bt} {qs:List Srt},Paired (Vld bk n) l qs->szL l<=m->Paired (Vld bk m) l qs:=by
    intro l
    induction l with
    | nil=>intro qs h _;cases h;exact .nil
    | cons t l ihl=>
     intro qs h hs
     cases h with
     | cons h1 h2=>
      have hs:t.sz+szL l<=m:=hs
      exact .cons (ih h1 m (by lia)) (ihl h2 (by lia))
   exact go d (by lia)
noncomputable def uD (H:Hp) (u:Bt) (v:V):Prop:=RepT H u.sz u v
theorem gW {α β:Type} {F:α->β->Prop}: ∀ {a c:List α} {l:List β},Paired F (a++c) l-> ∃ b d,l=b++d/\Paired F a b/\Paired F c d
 | [],_,_,h=>⟨[],_,rfl,.nil,h⟩
 | _::_,_,_,.cons h t=>by
  obtain ⟨b,d,rfl,h1,h2⟩:=gW t
  exact ⟨_::b,d,rfl,.cons h h1,h2⟩
theorem fI {H:Hp}: ∀ {l:List Bt} {vs:List V} {m:Nat},szL l<=m->Paired (uD H) l vs->Paired (RepT H m) l vs
 | _,_,_,_,.nil=>.nil
 | u::r,_,m,hm,.cons h t=>by
  have e:szL (u::r)=u.sz+szL r:=rfl
  exact .cons (RepT.le (show RepT H u.sz u _ from h) (by lia)) (fI (by lia) t)
theorem iG {α:Type} (h:α->V): ∀ l:List α,Paired (fun (a:α) (v:V)=>v=h a) l (l.map h)
 | []=>.nil
 | a::r=>.cons rfl (iG h r)
noncomputable def dC (l:List Frm) (w:Str):Nat:=match aK w l with
 | some fr=>fr.parts.length
 | none=>0
theorem rF {l:List Frm} {fr:Frm} {w:Str}:dC (l++[fr]) w=if fr.name=w then fr.parts.length else dC l w:=by
 unfold dC
 rw [eM]
 by_cases c:fr.name=w
 ·rw [if_pos c,if_pos c]
 ·rw [if_neg c,if_neg c]
theorem jA {α:Type}: ∀ {l:List α} {i:Nat} {x:α},l[i]? =some x->l.drop i=x::l.drop (i+1)
 | [],_,_,h=>by cases h
 | y::l,0,x,h=>by cases h;rfl
 | y::l,i+1,x,h=>by
  rw [List.drop_succ_cons,List.drop_succ_cons]
  exact jA (by simpa using h)
theorem BookOk.p3 {bk:Bk} (h:BookOk bk) {fr:Frm} (m:fr∈bk.forms):fr.parts.length<=3:=by
 obtain ⟨mode,_,hf⟩:=h.fo
 obtain ⟨_,_,h3,_⟩:=hf fr m
 exact h3
noncomputable def iC (ws:List Str):List Str:=ws.filter fun (p:Str)=> !decide (p="")
theorem bz {n:Nat} (h:n<=100000):n<sizeLine:=Nat.lt_of_le_of_lt h (by decide)
theorem rE {α:Type} {J:It} {as:List α} {xs:List V} {A:α->V->Prop} {fr:List Nat} {tc:TT} {te:TE} {σ:St} {H1:Hp} {Q:VK} (hn:xs.length<=10000) (hP:Paired A as xs)
  (hgo: ∀ i H,Same H1 H->i<xs.length->J.go i H) (hst: ∀ H,Same H1 H->J.stop xs.length H) (hy: ∀ i H v H',Same H1 H->J.yld i H v H'->H'=H/\xs[i]? =some v)
  (c:α->Bool) (R:Hp->α->V->Prop) (mono: ∀ {H H':Hp} {a:α} {v:V},TK H H'->R H a v->R H' a v)
  (htc: ∀ a v H (k:Bool->Hp->Prop),a∈as->A a v->Same H1 H->k (c a) H->tc (some v::cf fr σ) H k)
  (hte: ∀ a v H (k:VK),a∈as->A a v->c a=true->Same H1 H->(∀ u H',Same H H'->R H' a u->k u H')->te (some v::cf fr σ) H k)
  (hd: ∀ p zs H',H1 p=none->Same H1 H'->H' p=some (.lst zs)->Paired (R H') (as.filter c) zs->Q (.ref p) H'):kQ fr tc te σ J H1 Q:=by
 intro p hp
 refine ⟨fun i m zs H=>i<=xs.length/\m=xs.length-i/\Same H1 H/\H p=some (.lst zs)/\zs.length<=i/\Paired (R H) ((as.take i).filter c) zs,⟨_,Nat.zero_le _,rfl,ag hp _,ac,Nat.le_refl _,.nil⟩,?_⟩
 rintro i m zs H ⟨hi,hm,sm,gp,hz,hT⟩
 refine ⟨gp,?_⟩
 by_cases e:i=xs.length
 ·subst e
  rw [<- Paired.length hP,List.take_length]at hT
  exact .inl ⟨hst H sm,hd p zs H hp sm gp hT⟩
 ·have hlt:i<xs.length:=by lia
  refine .inr ⟨hgo i H sm hlt,bz (by lia),fun v H' hv=>?_⟩
  obtain ⟨rfl,hv2⟩:=hy i H v H' sm hv
  obtain ⟨a,ha,hA⟩:=aX hP hv2
  have etk:(as.take (i+1)).filter c=(as.take i).filter c++(if c a then [a]else []):=take_succ_filter c as i a ha
  refine htc a v _ _ (List.mem_of_getElem? ha) hA sm ?_
  by_cases hc:c a=true
  ·rw [if_pos hc]at etk
   show if c a=true then _ else _
   rw [if_pos hc]
   refine hte a v _ _ (List.mem_of_getElem? ha) hA hc sm fun u H2 s2 r=>?_
   have gp2:=s2 _ _ gp
   have tk:TK H2 (upd H2 p (.lst (zs++[u]))):=TK.lst gp2
   refine ⟨gp2,xs.length- (i+1),by lia,by lia,rfl,?_,ac,by rw [List.length_append];show zs.length+1<=i+1;lia,?_⟩
   ·intro b o hb
    rw [al (ah hb hp)]
    exact s2 _ _ (sm _ _ hb)
   ·rw [etk]
    exact Paired.snoc (Paired.mapP hT fun _ _ r=>mono ((aG s2).trans tk) r) (mono tk r)
  ·rw [if_neg hc,List.append_nil]at etk
   show if c a=true then _ else _
   rw [if_neg hc]
   exact ⟨xs.length- (i+1),by lia,by lia,rfl,sm,gp,by lia,by rw [etk];exact hT⟩
inductive ij  (vs:List V) (H:Hp) (Q:VK) (E_:XK):Prop
 | mk: ∀ bv bk nl ws,(vs=[bv,.ref nl])->(RepB H bk bv)->(BookOk bk)->(H nl=some (.lst (List.map V.str ws)))->(ws.length<=5000)->((∀ t v H',da (dC bk.forms) (iC ws).reverse []=some [t]->Same H H'->RepT H' t.sz t v->Q v H'))->(((∀ t,da (dC bk.forms) (iC ws).reverse []≠some [t])-> ∀ H',Same H H'->Q .non H'))->ij vs H Q E_
noncomputable abbrev jM:List Str:=["book","names","counts","form","pile","name","many"]
theorem scOfNames:aI jM ["book","names"] (aj fk):=fsc
theorem oE (F:Fun K "tree_of_names" "tree_of_names" fk f fd) (G:Gb mg) (hrev:mg "reversed"=none)
  (GF:FnOk P w K mg base CX0 1 f2 fd2 ["book"] fH) (bF:Binds K fd2 ["book"] []) (kF:PySem.W.keepIn K (.ref f2)=true) (mF:mg "forms_of"=some (.ref f2))
  (GP:FnOk P w K mg base CX0 1 f3 fd3 ["form"] dY) (bP:Binds K fd3 ["form"] []) (kP:PySem.W.keepIn K (.ref f3)=true) (mP:mg "parts_of"=some (.ref f3)):FnOk P w K mg base CX0 2 f fd ["book","names"] ij:=by
 refine F.ok scOfNames (fun vs H Q E h=>?_) (fun cdv A outer s H vs Q E hr h=>?_)
 ·obtain ⟨bv,bk,nl,ws,rfl,_⟩:=h
  rfl
 obtain ⟨bv,bk,nl,ws,rfl,hB,hok,hnl,hwl,q,qn⟩:=h
 have hu:=jy hr
 refine ⟨_,af (aq (i:=2) scOfNames.nd rfl (Or.inl rfl) gV)
  (af (cr PassesOwn.never rfl (bZ (am GF hr rfl mF kF bF .nil aD (aa (pv 0) ad))) (aS (i:=3) scOfNames.nd rfl (Or.inl rfl))
   (ak (gO hu (pv 2) (au (r:=aV K) ax (pv 3) ae (fun _ _=>rfl)) (ao (r:=cA K) aw rfl G.len PySem.boot_len (aa (am GP hr rfl mP kP bP .nil aD (aa (pv 3) ad)) ad)) rfl)))
  (af (aq (i:=4) scOfNames.nd rfl (Or.inr rfl) (bh ad))
  (af (cr PassesOwn.never rfl (sS rfl hrev (sW (sc0:=aj fk) (N0:=jM) (ys:=[]) (fr:=[]) rfl (pG (pv 1)) rfl rfl
     cok
     (fun C s H ex=>aA iH (pv 0) aN (aE _)) (fun C s H ex=>pv 0))) (aS (i:=5) scOfNames.nd rfl (Or.inl rfl))
   (af (aq (i:=6) scOfNames.nd rfl (Or.inl rfl) (mE hu (pv 2) (pv 5) ae ⟨rfl,rfl,rfl,rfl⟩))
   (af (a7 (lK (xF (pv 6) (ao (r:=cA K) aw rfl G.len PySem.boot_len (aa (pv 4) ad)))) (ak (aF bA)) aH)
   (ak (cx (dw PySem.F.plainAttrs_list PySem.F.slot_list_append PySem.F.type_list_append bK (pv 4) (aa (aZ (aa (pv 5) (aa
    (bq (r:=dv K) bn rfl G.tuple (by decide +kernel) (aa (cW (te:=wj K "list" uV (qp 1)) (sc0:=aj fk) (N0:=jM) (ys:=["pile"]) (fr:=[4]) rfl (bp rfl G.range (aa (pv 6) ad)) rfl rfl
     cok
     (fun C s H ex=>jk PySem.F.plainAttrs_list PySem.F.slot_list_pop PySem.F.type_list_pop jq (pv 1))) ad)) ad))) ad)))))))
  (ak (aF (ji (lK (tm (ao (r:=cA K) aw rfl G.len PySem.boot_len (aa (pv 4) ad)) ae)) (au (r:=cD K) aW (pv 4) ae (fun _ _=>rfl)) bA)))))),?_⟩
 refine fun cd hcd=>?_
 have s0:=ag hcd (.dK [])
 have g0:(upd H cd (.dK [])) cd=some (.dK []):=ac
 generalize upd H cd (.dK [])=H0 at s0 g0 ⊢
 refine ⟨_,rfl,_,bk,rfl,hB.mono (aG s0),fun fa fv hfa hF=>?_⟩
 refine ⟨fa,rfl,⟨fv,SqT.of hfa⟩,?_⟩
 have lF:=hF.len
 have h10:=hok.few
 refine dJ (xs:=fv) (fun j σ H'=>j<=fv.length/\ ∃ o3 kvs,σ=[some bv,some (.ref nl),some (.ref cd),o3,none,none,none]/\Same H H'/\H' fa=some (.tup fv)/\RepFs H' bk.forms fv/\H' cd=some (.dK kvs)/\kvs.length<=j/\ ∀ w:Str,(bi kvs (.inr w)).getD (.int 0)=.int ((dC (bk.forms.take j) w:Nat):Int))
  ⟨Nat.zero_le _,none,[],rfl,s0,hfa,hF,g0,Nat.le_refl _,fun w=>rfl⟩ (fun j σ H' _ h=>by obtain ⟨_,_,_,_,_,g,_⟩:=h;exact SqT.of g) ?_ ?_
 ·rintro j x σ H1 hx ⟨hj,o3,kvs,rfl,S1,gf1,hF1,gc1,hl1,hv1⟩
  have hjl:j<fv.length:=(List.getElem?_eq_some_iff.mp hx).1
  obtain ⟨fr,hfr,hRF⟩:=aX hF1 hx
  have hRF':=hRF
  obtain ⟨b,pa,ra,rv,rfl,hb,hpa,hra,hR⟩:=hRF'
  have hfm:=List.mem_of_getElem? hfr
  refine ⟨_,rfl,_,fr,rfl,hRF,fun pa' hpa'=>⟨pa',_,rfl,.inr (SqT.of hpa'),_,rfl,_,rfl,b,_,0,.str fr.name,rfl,rfl,SqT.of hb,cT,cd,_,rfl,DPut.k (k:=.inr fr.name) gc1 (av (by lia)),?_⟩⟩
  rw [bf]
  have tk2:TK H1 (upd H1 cd (.dK (cP kvs (.inr fr.name) (.int ((fr.parts.length:Nat):Int))))):=fun b xs e=>by
   rw [al (fun z=>by rw [z,gc1]at e;cases e)];exact e
  refine ⟨hjl,_,_,rfl,?_,tk2 _ _ gf1,hF1.mono tk2,ac,?_,?_⟩
  ·intro y oo h
   rw [al (ah h hcd)]
   exact S1 _ _ h
  ·have:=cK kvs (.inr fr.name) (.int ((fr.parts.length:Nat):Int))
   lia
  ·intro w
   rw [eZ,List.take_add_one,hfr]
   show _=V.int ((dC (bk.forms.take j++[fr]) w:Nat):Int)
   rw [rF]
   by_cases c:fr.name=w
   ·rw [if_pos (by rw [c]),if_pos c]
    rfl
   ·rw [if_neg (fun z=>c (Sum.inr.inj z).symm),if_neg c]
    exact hv1 w
 rintro σ H1 ⟨_,o3,kvs,rfl,S1,gf1,hF1,gc1,hl1,hv1⟩
 rw [<- lF,List.take_length]at hv1
 clear hF1 gf1 g0 s0 hfa
 refine ⟨(by show 0<=sizeLine;decide),fun pl hpl=>?_⟩
 have s2:=ag hpl (.lst [])
 have g2:(upd H1 pl (.lst [])) pl=some (.lst []):=ac
 have gc2:(upd H1 pl (.lst [])) cd=some (.dK kvs):=s2 _ _ gc1
 have hpl0:H pl=none:=S1.free hpl
 have ncp:cd≠pl:=fun z=>by rw [<- z,gc1]at hpl;cases hpl
 have S2:Same H (upd H1 pl (.lst [])):=S1.trans s2
 generalize upd H1 pl (.lst [])=H2 at s2 g2 gc2 S2 ⊢
 have gn2:=S2 _ _ hnl
 refine ⟨_,rfl,nl,rfl,⟨_,SqL.of gn2⟩,?_⟩
 refine rE (by rw [List.length_map];lia) (iG V.str ws) (wQ gn2) (wP gn2) (xN gn2) (fun (p:Str)=> !decide (p="")) (fun _ s v=>v=.str s) (fun _ h=>h) ?_ ?_ ?_
 ·rintro sr v H' k _ rfl s' hk
  refine ⟨_,rfl,rfl,_,rfl,?_⟩
  rw [show decide (V.str sr=V.str "")=decide (sr="")from decide_eq_decide.mpr ⟨fun e=>V.str.inj e,fun e=>by rw [e]⟩]
  exact hk
 ·rintro sr v H' k _ rfl _ s' hk
  exact ⟨_,rfl,hk _ _ (fun _ _ h=>h) rfl⟩
 intro rl zs H3 hrl s3 grl hz
 have ez:=fK hz
 have ez:zs=(iC ws).map V.str:=ez
 subst ez
 have hln:(iC ws).length<=5000:=Nat.le_trans (List.length_filter_le _ _) hwl
 generalize hW:iC ws=W at *
 have S3:Same H H3:=S2.trans s3
 have gp3:=s3 _ _ g2
 have gc3:=s3 _ _ gc2
 have nrp:rl≠pl:=fun z=>by rw [z,g2]at hrl;cases hrl
 refine ⟨rl,_,rfl,SqL.of grl,?_⟩
 refine pW (fun i σ H'=>i<=(W.map V.str).length/\ ∃ o5 o6 pv pile,σ=[some bv,some (.ref nl),some (.ref cd),o3,some (.ref pl),o5,o6]/\Same H H'/\H' rl=some (.lst (W.map V.str))/\H' cd=some (.dK kvs)/\H' pl=some (.lst (List.reverse pv))/\Paired (uD H') pile pv/\pile.length<=i/\da (dC bk.forms) W.reverse []=da (dC bk.forms) (W.reverse.drop i) pile)
  ⟨Nat.zero_le _,none,none,[],[],rfl,S3,grl,gc3,gp3,.nil,Nat.le_refl _,rfl⟩ (fun i σ H' _ h=>by obtain ⟨_,_,_,_,_,_,_,g,_⟩:=h;exact SqL.of g) ?_ ?_
 ·rintro i x σ H4 hi hx ⟨_,o5,o6,pv,pile,rfl,S4,gr4,gc4,gp4,hP4,hpi,hrun⟩
  rw [List.getElem?_map,List.length_map]at hx
  rw [List.length_map]at hi
  obtain ⟨u,hu,rfl⟩: ∃ u,W[W.length-1-i]? =some u/\x=V.str u:=by
   cases hu:W[W.length-1-i]? with
   | none=>rw [hu]at hx;cases hx
   | some u=>rw [hu]at hx;exact ⟨u,rfl,(Option.some.inj hx).symm⟩
  have hur:W.reverse[i]? =some u:=by rw [List.getElem?_reverse hi];exact hu
  rw [jA hur]at hrun
  have lpp:pile.length=pv.length:=Paired.length hP4
  have c3:dC bk.forms u<=3:=by
   unfold dC
   cases hl:aK u bk.forms with
   | none=>exact Nat.zero_le _
   | some fr=>exact hok.p3 (eg hl).1
  refine ⟨_,rfl,cd,rfl,.inl ⟨kvs,.inl gc4⟩,_,rfl,_,DGet.k (k:=.inr u) gc4,?_⟩
  rw [hv1 u]
  refine ⟨_,rfl,_,rfl,pl,_,rfl,.inl (SqL.of gp4),_,_,rfl,rfl,_,rfl,?_⟩
  have erun:da (dC bk.forms) (u::W.reverse.drop (i+1)) pile=if pile.length<dC bk.forms u then none else da (dC bk.forms) (W.reverse.drop (i+1)) (Bt.mk u (pile.take (dC bk.forms u))::pile.drop (dC bk.forms u)):=rfl
  rw [erun]at hrun
  refine bE (fun c=>?_) (fun c=>?_)
  ·have c:(((List.reverse pv).length:Nat):Int) < ((dC bk.forms u:Nat):Int):=of_decide_eq_true c
   rw [List.length_reverse]at c
   rw [if_pos (by lia)]at hrun
   exact qn (fun t=>by rw [hrun];exact fun z=>by cases z) H4 S4
  have c: ¬ (((List.reverse pv).length:Nat):Int) < ((dC bk.forms u:Nat):Int):=fun z=>c (decide_eq_true z)
  rw [List.length_reverse]at c
  rw [if_neg (by lia)]at hrun
  generalize hcn:dC bk.forms u=n at *
  rw [<- List.take_append_drop n pile]at hP4
  obtain ⟨pa,pb,rfl,hPa,hPb⟩:=gW hP4
  have lpa:(pile.take n).length=pa.length:=Paired.length hPa
  have lpb:(pile.drop n).length=pb.length:=Paired.length hPb
  rw [List.length_take]at lpa
  rw [List.length_append]at lpp c
  rw [List.length_drop]at lpb
  have lpn:pa.length=n:=by lia
  rw [List.reverse_append]at gp4
  refine ⟨_,rfl,.inl ⟨rfl,_,SqL.of gp4⟩,_,rfl,_,rfl,_,rfl,by lia,by lia,?_⟩
  rw [Int.toNat_natCast]
  refine kq (n:=n) (by lia) lpn gp4 (fun i H _ h=>jv i H h) (fun H _=>fC H) (fun i H v H' h=>h.1)
   (fun x H k xs y h1 h2 h3=>⟨_,rfl,.inl ⟨rfl,xs,SqL.of h1⟩,pl,xs,y,rfl,rfl,h1,h2,h3⟩) ?_
  intro p5 H5 hp5 k5 gp5 g5
  have tk5:TK H4 H5:=k5.tkL gp4
  have np5:p5≠pl:=fun z=>by rw [z,gp4]at hp5;cases hp5
  have hk5: ∀ b o,H b=some o->H5 b=some o:=fun b o h=>k5 _ _ (S4 _ _ h) (ah h hpl0)
  have gr5:=k5 _ _ gr4 nrp
  have gc5:=k5 _ _ gc4 ncp
  refine ⟨p5,pa,rfl,.inl ⟨SqL.of g5,fun ct hct=>?_⟩⟩
  have s6:=ag hct (.tup pa)
  have g6:(upd H5 ct (.tup pa)) ct=some (.tup pa):=ac
  generalize upd H5 ct (.tup pa)=H6 at s6 g6 ⊢
  refine ⟨(by show 2<=sizeLine;decide),fun nt hnt=>?_⟩
  have s7:=ag hnt (.tup [V.str u,.ref ct])
  have g7:(upd H6 nt (.tup [V.str u,.ref ct])) nt=some (.tup [V.str u,.ref ct]):=ac
  have S7:Same H5 (upd H6 nt (.tup [V.str u,.ref ct])):=s6.trans s7
  have g67:=s7 _ _ g6
  generalize upd H6 nt (.tup [V.str u,.ref ct])=H7 at s7 g7 S7 g67 ⊢
  have gp7:=S7 _ _ gp5
  have tk8:TK H7 (upd H7 pl (.lst (pb.reverse++[.ref nt]))):=TK.lst gp7
  have tk48:TK H4 (upd H7 pl (.lst (pb.reverse++[.ref nt]))):=(tk5.trans (aG S7)).trans tk8
  refine ⟨pl,_,_,rfl,rfl,gp7,bz (by rw [List.length_reverse];lia),(by rw [List.length_map];exact hi),_,_,.ref nt::pb,_,rfl,?_,?_,?_,?_,?_,?_,hrun⟩
  ·intro y oo h
   rw [al (ah h hpl0)]
   exact S7 _ _ (hk5 _ _ h)
  ·rw [al nrp];exact S7 _ _ gr5
  ·rw [al ncp];exact S7 _ _ gc5
  ·rw [ac,List.reverse_cons]
  ·refine .cons ?_ (Paired.mapP hPb fun _ _ r=>RepT.mono tk48 r)
   show RepT _ (Bt.mk u (pile.take n)).sz (Bt.mk u (pile.take n)) _
   rw [bY]
   exact ⟨nt,ct,pa,rfl,tk8 _ _ g7,tk8 _ _ g67,Paired.mapP (fI (Nat.le_refl _) hPa) fun _ _ r=>RepT.mono tk48 r⟩
  ·rw [List.length_cons,List.length_drop]
   lia
 ·rintro σ H4 ⟨_,o5,o6,pv,pile,rfl,S4,gr4,gc4,gp4,hP4,hpi,hrun⟩
  rw [List.length_map,<- List.length_reverse,List.drop_length]at hrun
  have hrun:da (dC bk.forms) W.reverse []=some pile:=hrun
  refine ⟨_,rfl,pl,_,rfl,.inl (SqL.of gp4),_,_,rfl,rfl,_,rfl,?_⟩
  have lpp:pile.length=pv.length:=Paired.length hP4
  refine bE (fun c=>?_) (fun c=>?_)
  ·have c:(((List.reverse pv).length:Nat):Int)=1:=of_decide_eq_true c
   rw [List.length_reverse]at c
   cases hP4 with
   | nil=>exact absurd c (by decide)
   | cons hv hr=>
    cases hr with
    | cons _ _=>exact absurd c (by simp only [List.length_cons];lia)
    | nil=>exact ⟨_,rfl,pl,_,0,_,rfl,rfl,SqL.of gp4,ay (j:=0) rfl,q _ _ H4 hrun S4 hv⟩
  ·have c: ¬ (((List.reverse pv).length:Nat):Int)=1:=fun z=>c (decide_eq_true z)
   rw [List.length_reverse]at c
   refine qn (fun t=>?_) H4 S4
   rw [hrun]
   intro z
   rw [Option.some.inj z]at lpp
   exact c (by rw [<- lpp];rfl)
theorem vF {bk:Bk} (hF: ∀ fr∈bk.forms,aK (Frm.name fr) bk.forms=some fr): ∀ {n:Nat} {t:Bt} {s:Srt},Vld bk n t s-> ∀ m,n<=m->chk bk m t.th=some (s,t.sz):=by
 intro n
 induction n with
 | zero=>intro t s h;exact absurd h id
 | succ n ih=>
  rintro t s ⟨fr,h1,h2,h3,h4⟩ m hm
  obtain ⟨m,rfl⟩: ∃ k,m=k+1:=⟨m-1,by lia⟩
  have go: ∀ {l:List Bt} {q:List Srt},Paired (Vld bk n) l q->cC (chk bk m) (thL l) q=some (szL l):=by
   intro l
   induction l with
   | nil=>intro q hp;cases hp;rw [kO];rfl
   | cons u l ih2=>
    intro q hp
    cases hp with
    | @cons _ p _ q x y=>
     rw [iV]
     unfold cC
     rw [ih x m (by lia)]
     show (if p.name=p.name then _ else _)=_
     rw [if_pos rfl,ih2 y]
     rfl
  rw [rW]
  show (match aK t.nm bk.forms with | some fr=>(cC (chk bk m) (thL t.ps) fr.parts).map fun k=>(fr.own,k+1) | none=>none)=_
  rw [<- h2,hF fr h1]
  show (cC (chk bk m) (thL t.ps) fr.parts).map (fun k=>(fr.own,k+1))=_
  rw [go h4,h3,bY]
  rfl
theorem uL {bk:Bk} (hS: ∀ nm fr,aK nm bk.forms=some fr->fr∈bk.forms/\Frm.name fr=nm) (hq: ∀ fr'∈bk.forms,∀ q∈fr'.parts,∀ fr∈bk.forms,fr.own.name=q.name->fr.own=q):
  ∀ (m:Nat) {t:Bt} {s:Srt} {k:Nat},chk bk m t.th=some (s,k)->(∃ fr∈bk.forms,fr.own=s)/\Vld bk m t s/\k=t.sz:=by
 intro m
 induction m with
 | zero=>intro t s k h;cases h
 | succ m ih=>
  intro t s k h
  rw [rW]at h
  have h:(match aK t.nm bk.forms with | some fr=>(cC (chk bk m) (thL t.ps) fr.parts).map fun k=>(fr.own,k+1) | none=>none)=some (s,k):=h
  cases hl:aK t.nm bk.forms with
  | none=>rw [hl]at h;cases h
  | some fr=>
   rw [hl]at h
   obtain ⟨d1,d2⟩:=hS _ _ hl
   have h:(cC (chk bk m) (thL t.ps) fr.parts).map (fun k=>(fr.own,k+1))=some (s,k):=h
   cases hc:cC (chk bk m) (thL t.ps) fr.parts with
   | none=>rw [hc]at h;cases h
   | some n=>
    rw [hc]at h
    cases h
    have go: ∀ {l:List Bt} {qs:List Srt} {n:Nat},(∀ q∈qs,∀ fr∈bk.forms,fr.own.name=q.name->fr.own=q)->cC (chk bk m) (thL l) qs=some n->Paired (Vld bk m) l qs/\n=szL l:=by
     intro l
     induction l with
     | nil=>
      intro qs n hqs h
      rw [kO]at h
      cases qs with
      | nil=>cases h;exact ⟨.nil,rfl⟩
      | cons=>cases h
     | cons u l ih2=>
      intro qs n hqs h
      rw [iV]at h
      cases qs with
      | nil=>cases h
      | cons q qs=>
       unfold cC at h
       cases hu:chk bk m u.th with
       | none=>rw [hu]at h;cases h
       | some w=>
        obtain ⟨su,ku⟩:=w
        rw [hu]at h
        obtain ⟨⟨fu,e1,e2⟩,e3,e4⟩:=ih hu
        have h:(if su.name=q.name then (cC (chk bk m) (thL l) qs).map (ku+ ·)else none)=some n:=h
        by_cases c:su.name=q.name
        ·rw [if_pos c]at h
         cases hr:cC (chk bk m) (thL l) qs with
         | none=>rw [hr]at h;cases h
         | some n1=>
          rw [hr]at h
          cases h
          obtain ⟨g1,g2⟩:=ih2 (fun q' h'=>hqs q' (List.mem_cons_of_mem _ h')) hr
          have:su=q:=by
           rw [<- e2]
           exact hqs q List.mem_cons_self fu e1 (by rw [e2];exact c)
          subst this
          exact ⟨.cons e3 g1,by rw [e4,g2];rfl⟩
        ·rw [if_neg c]at h;cases h
    obtain ⟨g1,g2⟩:=go (hq fr d1) hc
    refine ⟨⟨fr,d1,rfl⟩,⟨fr,d1,d2,rfl,g1⟩,?_⟩
    rw [bY,g2]
theorem Vld.sub {bk:Bk}: ∀ (n:Nat) {t:Bt} {s:Srt},Vld bk n t s-> ∀ u∈t.subs,∃ fr,fr∈bk.forms/\Frm.name fr=u.nm/\fr.parts.length=u.ps.length:=by
 intro n
 induction n with
 | zero=>intro t s h;exact absurd h id
 | succ n ih=>
  intro t s h u hu
  obtain ⟨fr,a,b,c,d⟩:=h
  rw [be]at hu
  rcases List.mem_cons.mp hu with z | z
  ·rw [z];exact ⟨fr,a,b,(Paired.length d).symm⟩
  ·have go: ∀ {l:List Bt} {qs:List Srt},Paired (Vld bk n) l qs->u∈bg l-> ∃ fr,fr∈bk.forms/\Frm.name fr=u.nm/\fr.parts.length=u.ps.length:=by
    intro l
    induction l with
    | nil=>intro qs _ z;rw [bo]at z;cases z
    | cons x l ihl=>
     intro qs h z
     cases h with
     | cons h1 h2=>
      rw [aL]at z
      rcases List.mem_append.mp z with z | z
      ·exact ih h1 u z
      ·exact ihl h2 z
   exact go d z
theorem Vld.words {bk:Bk} (hok:BookOk bk) {n:Nat} {t:Bt} {s:Srt} (h:Vld bk n t s): ∀ u∈t.subs,bj u.nm=true:=fun u hu=>by
 obtain ⟨fr,a,b,_⟩:=Vld.sub n h u hu
 rw [<- b]
 exact hok.wd fr a
theorem Vld.cnt {bk:Bk} (hok:BookOk bk) {n:Nat} {t:Bt} {s:Srt} (h:Vld bk n t s): ∀ u∈t.subs,dC bk.forms u.nm=u.ps.length:=fun u hu=>by
 obtain ⟨fr,a,b,c⟩:=Vld.sub n h u hu
 unfold dC
 rw [g9 hok.nd a b]
 exact c
theorem sE {bk:Bk} (hok:BookOk bk) {n:Nat} {t:Bt} {s:Srt} (h:Vld bk n t s):da (dC bk.forms) (iC (Txt.split (plain t.wr) " ")).reverse []=some [t]:=by
 have e:iC (Txt.split (plain t.wr) " ")=t.subs.map Bt.nm:=tS (Vld.words hok h)
 rw [e]
 exact qz (Vld.cnt hok h)
theorem pp (cnt:Str->Nat): ∀ (ws:List Str) (pile:List Bt) {l:List Bt},da cnt ws pile=some l-> ∀ u∈bg l,u.nm∈ws\/u∈bg pile
 | [],pile,l,h,u,hu=>by cases h;exact .inr hu
 | w::r,pile,l,h,u,hu=>by
  have h:(if pile.length<cnt w then none else da cnt r (Bt.mk w (pile.take (cnt w))::pile.drop (cnt w)))=some l:=h
  by_cases c:pile.length<cnt w
  ·rw [if_pos c]at h;cases h
  ·rw [if_neg c]at h
   rcases pp cnt r _ h u hu with z | z
   ·exact .inl (List.mem_cons_of_mem _ z)
   ·rw [dX]at z
    rcases List.mem_cons.mp z with z | z
    ·rw [z];exact .inl List.mem_cons_self
    ·have z:u∈bg (pile.take (cnt w)++pile.drop (cnt w)):=z
     rw [List.take_append_drop]at z
     exact .inr z
inductive nY (C:Addr) (vs:List V) (H:Hp) (Q:VK) (E:XK):Prop
 | mk: ∀ bv bk x,(vs=[bv,.str x])->(RepB H bk bv)->(BookOk bk)->(x.length<=1600)->((∀ t s v H',Vld bk t.sz t s->t.sz<=60->t.wr=x->Same H H'->RepT H' t.sz t v->Q v H'))->(((∀ n t s,Vld bk n t s->t.sz<=60->t.wr≠x)-> ∀ H',Same H H'->E (.ref C) none H'))->nY C vs H Q E
theorem vI: ∀ (p:List Nat) (t u:Bt),t.at? p=some u->u∈t.subs:=by
 intro p
 induction p with
 | nil=>intro t u h;cases h;rw [be];exact List.mem_cons_self
 | cons k r ih=>
  intro t u h
  have h:(t.ps[k]?).bind (fun x=>x.at? r)=some u:=h
  cases hx:t.ps[k]? with
  | none=>rw [hx]at h;cases h
  | some x=>
   rw [hx]at h
   have hm:=ih x u h
   rw [be]
   refine List.mem_cons_of_mem _ ?_
   have go: ∀ (l:List Bt) (k:Nat),l[k]? =some x->u∈bg l:=by
    intro l
    induction l with
    | nil=>intro k h;cases h
    | cons y l ih2=>
     intro k h
     rw [aL]
     cases k with
     | zero=>cases h;exact List.mem_append_left _ hm
     | succ k=>exact List.mem_append_right _ (ih2 k h)
   exact go t.ps k hx
theorem BookOk.hF {bk:Bk} (h:BookOk bk): ∀ fr∈bk.forms,aK (Frm.name fr) bk.forms=some fr:=fun fr m=>g9 h.nd m rfl
theorem BookOk.hS {bk:Bk}: ∀ nm fr,aK nm bk.forms=some fr->fr∈bk.forms/\Frm.name fr=nm:=fun nm fr h=>eg h
theorem BookOk.hq {bk:Bk} (h:BookOk bk): ∀ fr'∈bk.forms,∀ q∈fr'.parts,∀ fr∈bk.forms,fr.own.name=q.name->fr.own=q:=fun fr' m' q hq fr m e=>by
 obtain ⟨mode,_,hf⟩:=h.fo
 obtain ⟨_,h2,_⟩:=hf fr' m'
 obtain ⟨h1,_⟩:=hf fr m
 have nd:=h.so.2.2.1
 obtain ⟨i,hi⟩:=List.getElem?_of_mem h1
 obtain ⟨j,hj⟩:=List.getElem?_of_mem (h2 q hq)
 have hi':(bk.sorts.map Srt.name)[i]? =some fr.own.name:=by rw [List.getElem?_map,hi];rfl
 have hj':(bk.sorts.map Srt.name)[j]? =some fr.own.name:=by rw [List.getElem?_map,hj,e];rfl
 obtain ⟨li,_⟩:=List.getElem?_eq_some_iff.mp hi'
 have:i=j:=(List.getElem?_inj li nd).mp (by rw [hi',hj'])
 subst this
 rw [hi]at hj
 exact Option.some.inj hj
theorem qY {x y:Str} (h:y∈Txt.split (plain x) " "):y.length<=(plain x).length:=by
 have hw:=PyProof.Rows.split_weight (plain x) " " (by decide +kernel)
 have: ∀ (l:List Str),y∈l->y.length<=(l.map (·.length)).sum:=by
  intro l
  induction l with
  | nil=>intro z;cases z
  | cons a l ih=>
   intro z
   rw [List.map_cons,List.sum_cons]
   rcases List.mem_cons.mp z with z | z
   ·rw [z];lia
   ·have:=ih z;lia
 have:=this _ h
 have hc:=List.length_pos_of_mem h
 lia
theorem scRead:aI ["book","text","tree"] ["book","text"] (aj sA):=fsc
theorem u8 {B newId initId:String} {bmB:List Value} (F:Fun K "read_tree" "read_tree" sA f fd) (hC:mg "NoText"=some (.ref C)) (ex:PySem.W.excIn K C bmB newId=true) (FB:ExcBaseFacts B newId initId bmB)
  (GN:FnOk P w K mg base CX0 2 f2 fd2 ["book","names"] ij) (bN:Binds K fd2 ["book","names"] []) (kN:PySem.W.keepIn K (.ref f2)=true) (mN:mg "tree_of_names"=some (.ref f2))
  (GI:FnOk P w K mg base CX0 3 f3 fd3 ["book","thing"] (iY 3998)) (bI:Binds K fd3 ["book","thing"] []) (kI:PySem.W.keepIn K (.ref f3)=true) (mI:mg "is_tree"=some (.ref f3))
  (GS:FnOk P w K mg base CX0 2 f4 fd4 ["tree"] nX) (bS:Binds K fd4 ["tree"] []) (kS:PySem.W.keepIn K (.ref f4)=true) (mS:mg "show_tree"=some (.ref f4)):
  eA P w K mg base (CX1 P w C) 4 f fd ["book","text"] (nY C):=by
 refine F.okTG scRead (fun vs H Q E h=>?_) (fun cdv A outer s H vs Q E hr h=>?_)
 ·obtain ⟨bv,bk,x,rfl,_⟩:=h
  rfl
 obtain ⟨bv,bk,x,rfl,hB,hok,hx,q,qe⟩:=h
 have hr2:=hr.mono (show 2<=3 by lia)
 refine ⟨_,bJ (pE (i:=2) scRead.nd rfl (Or.inl rfl) (ef GN.tk hr2 rfl mN kN bN .nil aD (mJ (PE.tk (pv 0)) (mJ
   (wE PySem.F.plainAttrs_str PySem.F.slot_str_split PySem.F.type_str_split tT
    (jh (by decide +kernel) (by decide +kernel) (jh (by decide +kernel) (by decide +kernel) (jh (by decide +kernel) (by decide +kernel) (PE.tk (pv 1))))) (aa aN ad)) (PA.tk ad)))))
  (PSs.tk (af (a7 (PW.pt (fQ (oq (dQ (am GI hr rfl mI kI bI .nil aD (aa (pv 0) (aa (pv 2) ad)))))
    (ft (aA iH (am GS hr2 rfl mS kS bS .nil aD (aa (pv 2) ad)) (pv 1) (aE _)))))
    (ak (qC (E:=E) rfl rfl hC ex FB (fun pins σ H s h' y vs I m q=>rn I m q) (aa aN ad))) aH)
   (ak (aF (pv 2))))),?_⟩
 have l1:(Txt.replace x "(" " ").length=x.length:=jb x 40 32
 have l2:(Txt.replace (Txt.replace x "(" " ") ")" " ").length=(Txt.replace x "(" " ").length:=jb _ 41 32
 have l3:(plain x).length=(Txt.replace (Txt.replace x "(" " ") ")" " ").length:=jb _ 44 32
 have hsp:(Txt.split (plain x) " ").length<=(plain x).length+1:=by
  have:=PyProof.Rows.split_weight (plain x) " " (by decide +kernel)
  lia
 refine ⟨_,rfl,_,rfl,_,rfl,by lia,_,rfl,by lia,_,rfl,by lia,rfl,_," ",rfl,rfl,by decide +kernel,?_,?_,fun nl hnl=>?_⟩
 ·show (plain x).length+2<=sizeLine
  exact Nat.le_of_lt (bz (by lia))
 ·show (Txt.split (plain x) " ").length<=sizeLine
  exact Nat.le_of_lt (bz (by lia))
 have s1:=ag hnl (.lst ((Txt.split (plain x) " ").map V.str))
 have g1:(upd H nl (.lst ((Txt.split (plain x) " ").map V.str))) nl=some (.lst ((Txt.split (plain x) " ").map V.str)):=ac
 refine ⟨bv,bk,nl,Txt.split (plain x) " ",rfl,hB.mono (aG s1),hok,g1,by lia,fun t v H2 hrun s2 hR=>?_,fun hno H2 s2=>?_⟩
 ·have S2:Same H H2:=s1.trans s2
  have only: ∀ n t' s',Vld bk n t' s'->t'.wr=x->t'=t:=fun n t' s' h e=>by
   have:=sE hok h
   rw [e,hrun]at this
   exact ((List.cons.inj (Option.some.inj this)).1).symm
  have hsz:t.sz<=1601:=by
   have h1:=pk _ _ _ hrun
   have h2:szL [t]=t.sz+0:=rfl
   have h3:szL ([]:List Bt)=0:=rfl
   have h4:(iC (Txt.split (plain x) " ")).length<=(Txt.split (plain x) " ").length:=List.length_filter_le _ _
   rw [List.length_reverse]at h1
   lia
  have hshort: ∀ u∈t.subs,u.nm.length<=2000:=fun u hu=>by
   rcases pp _ _ _ hrun u (by rw [ie];exact hu)with z | z
   ·have:=qY (List.mem_filter.mp (List.mem_reverse.mp z)).1
    lia
   ·rw [bo]at z;cases z
  have hH:RepH H2 4000 t.th v:=RepH.le (RepT.th hR fun p _ u hu=>hshort u (vI p t u hu)) (by lia)
  have hres:lH (chk bk 4000) [(t.th,none)] 0↔ ∃ sr,Vld bk t.sz t sr/\t.sz<=60:=by
   constructor
   ·rintro ⟨h1,h2⟩
    obtain ⟨sr,k,h3,_⟩:=h1 _ List.mem_cons_self
    obtain ⟨_,h4,h5⟩:=uL BookOk.hS hok.hq 4000 h3
    have e:szQ (chk bk 4000) (t.th,none)=k:=by unfold szQ;rw [h3]
    rw [fc,e]at h2
    have h2:0+ (k+0)<=60:=h2
    exact ⟨sr,Vld.fit _ h4 _ (Nat.le_refl _),by lia⟩
   ·rintro ⟨sr,h1,h2⟩
    have h3:chk bk 4000 t.th=some (sr,t.sz):=vF hok.hF h1 4000 (by lia)
    refine ⟨fun y hy=>?_,?_⟩
    ·have e:y=(t.th,none):=by simpa using hy
     subst e
     exact ⟨sr,t.sz,h3,.inl rfl⟩
    ·have e:szQ (chk bk 4000) (t.th,none)=t.sz:=by unfold szQ;rw [show chk bk 4000 ((t.th,(none:Option Str)).1)=some (sr,t.sz)from h3]
     rw [fc,e]
     show 0+ (t.sz+0)<=60
     lia
  refine ⟨_,rfl,_,rfl,bv,bk,t.th,v,rfl,hB.mono (aG S2),hok,hH,fun b hb H3 s3=>?_⟩
  cases b with
  | false=>
   refine ⟨_,rfl,cF ⟨(by show 1<=sizeLine;decide),qe (fun n t' s' h hs e=>?_) H3 (S2.trans s3)⟩⟩
   have:=only n t' s' h e
   subst this
   exact absurd (hb.mpr (hres.mpr ⟨s',Vld.fit _ h _ (Nat.le_refl _),hs⟩)) (by decide)
  | true=>
   obtain ⟨sr,hv,h60⟩:=hres.mp (hb.mp rfl)
   refine ⟨_,rfl,cy ⟨_,rfl,t.sz,t,v,rfl,hR.mono (aG s3),h60,Vld.words hok hv,fun H4 s4=>⟨_,rfl,rfl,_,rfl,?_⟩⟩⟩
   by_cases c:t.wr=x
   ·rw [decide_eq_true (show V.str t.wr=V.str x by rw [c])]
    exact cy ⟨_,rfl,q t sr v H4 hv h60 c (S2.trans (s3.trans s4)) (hR.mono (aG (s3.trans s4)))⟩
   ·rw [decide_eq_false (show ¬ V.str t.wr=V.str x from fun z=>c (V.str.inj z))]
    refine cF ⟨(by show 1<=sizeLine;decide),qe (fun n t' s' h hs e=>?_) H4 (S2.trans (s3.trans s4))⟩
    rw [only n t' s' h e]at e
    exact c e
 ·have S2:Same H H2:=s1.trans s2
  refine ⟨_,rfl,_,rfl,bv,bk,.non,.non,rfl,hB.mono (aG S2),hok,rfl,fun b hb H3 s3=>?_⟩
  cases b with
  | false=>
   refine ⟨_,rfl,cF ⟨(by show 1<=sizeLine;decide),qe (fun n t' s' h hs e=>?_) H3 (S2.trans s3)⟩⟩
   have:=sE hok h
   rw [e]at this
   exact hno t' this
  | true=>
   obtain ⟨h1,_⟩:=hb.mp rfl
   obtain ⟨sr,k,h3,_⟩:=h1 _ List.mem_cons_self
   cases h3
theorem vC {J:It} {α:Type} {as:List α} {A:α->V->Prop} {xs:List V} {fr:List Nat} {te:TE} {σ:St} {H1:Hp} {Q:VK} (hn:xs.length<=1000) (hP:Paired A as xs)
  (hgo: ∀ i H,Same H1 H->i<xs.length->J.go i H) (hst: ∀ H,Same H1 H->J.stop xs.length H) (hy: ∀ i H v H',Same H1 H->J.yld i H v H'->H'=H/\xs[i]? =some v)
  (R:Hp->α->V->Prop) (mono: ∀ {H H':Hp} {a:α} {v:V},TK H H'->R H a v->R H' a v)
  (hte: ∀ a v H (k:VK),a∈as->A a v->Same H1 H->(∀ u H',Same H H'->R H' a u->k u H')->te (some v::cf fr σ) H k)
  (hd: ∀ p zs H',H1 p=none->Same H1 H'->H' p=some (.lst zs)->Paired (R H') as zs->Q (.ref p) H'):dN fr te σ J H1 Q:=by
 intro p hp
 have hl:as.length=xs.length:=Paired.length hP
 refine ⟨fun i m zs H=>i<=xs.length/\m=xs.length-i/\Same H1 H/\H p=some (.lst zs)/\zs.length=i/\Paired (R H) (as.take i) zs,⟨_,Nat.zero_le _,rfl,ag hp _,ac,rfl,.nil⟩,?_⟩
 rintro i m zs H ⟨hi,hm,sm,gp,hz,hT⟩
 refine ⟨gp,?_⟩
 by_cases e:i=xs.length
 ·subst e
  rw [<- hl,List.take_length]at hT
  exact .inl ⟨hst H sm,hd p zs H hp sm gp hT⟩
 ·have hlt:i<xs.length:=by lia
  refine .inr ⟨hgo i H sm hlt,av (by lia),fun v H' hv=>?_⟩
  obtain ⟨rfl,hv2⟩:=hy i H v H' sm hv
  obtain ⟨a,ha,hA⟩:=aX hP hv2
  refine hte a v _ _ (List.mem_of_getElem? ha) hA sm fun u H2 s2 r=>?_
  have gp2:=s2 _ _ gp
  have tk:TK H2 (upd H2 p (.lst (zs++[u]))):=TK.lst gp2
  refine ⟨gp2,xs.length- (i+1),by lia,by lia,rfl,?_,ac,by rw [List.length_append,hz];rfl,?_⟩
  ·intro b o hb
   rw [al (ah hb hp)]
   exact s2 _ _ (sm _ _ hb)
  ·rw [List.take_add_one,ha]
   exact Paired.snoc (Paired.mapP hT fun _ _ r=>mono ((aG s2).trans tk) r) (mono tk r)
theorem js {t c:Bt} (h:c∈t.ps):c∈t.subs:=by
 rw [be]
 refine List.mem_cons_of_mem _ ?_
 have go: ∀ l:List Bt,c∈l->c∈bg l:=by
  intro l
  induction l with
  | nil=>intro h;cases h
  | cons x r ih=>
   intro h
   rw [aL]
   rcases List.mem_cons.mp h with rfl | h
   ·exact List.mem_append_left _ (by rw [be];exact List.mem_cons_self)
   ·exact List.mem_append_right _ (ih h)
 exact go t.ps h
inductive cJ (n:Nat) (vs:List V) (H:Hp) (Q:VK) (E_:XK):Prop
 | mk: ∀ t tv,(vs=[tv])->(RepT H n t tv)->(t.sz<=80)->((∀ u∈t.subs,bj u.nm=true))->(∀ H',Same H H'->Q (.str t.wr) H')->cJ n vs H Q E_
theorem qv:aI ["tree"] ["tree"] (aj fh):=fsc
theorem mO {n:Nat} (F:Fun K "_law_written_tree" "_law_written_tree" fh f fd)
  (GS:FnOk P w K mg base CX0 (n+1) f fd ["tree"] (cJ n)) (bS:Binds K fd ["tree"] []) (mS:mg "_law_written_tree"=some (.ref f)):
  FnOk P w K mg base CX0 (n+2) f fd ["tree"] (cJ (n+1)):=by
 refine F.ok qv (fun vs H Q E h=>?_) (fun cdv A outer s H vs Q E hr h=>?_)
 ·obtain ⟨t,tv,rfl,_⟩:=h
  rfl
 obtain ⟨t,tv,rfl,⟨a,b,vs,rfl,h1,h2,h3⟩,hsz,hw,q⟩:=h
 refine ⟨_,af (a7 (aA (oB hr.units0) (au (r:=aV K) ax (pv 0) ae (fun _ _=>rfl)) (aZ ad) (aE _)) (ak (aF (au (r:=aV K) ax (pv 0) ae (fun _ _=>rfl)))) aH)
  (ak (aF (ar aJ (ar aJ (ar aJ (au (r:=aV K) ax (pv 0) ae (fun _ _=>rfl)) aN) (dw PySem.F.plainAttrs_str PySem.F.slot_str_join PySem.F.type_str_join pN aN (aa
   (cW (sc0:=aj fh) (N0:=["tree"]) (ys:=[]) (fr:=[]) rfl (bZ (au (r:=aV K) ax (pv 0) ae (fun _ _=>rfl))) rfl rfl
     cok
     (fun C s H ex=>am GS hr rfl mS F.kp bS .nil aD (aa (pv 0) ad))) ad))) aN))),?_⟩
 have hlen:t.ps.length=vs.length:=Paired.length h3
 have hszt:=bY t
 have hll:=iP t.ps
 obtain ⟨hnm,hsum⟩:=oU hsz hw
 refine ⟨_,rfl,a,_,1,.ref b,rfl,rfl,SqT.of h1,ay (j:=1) rfl,(by show 0<=sizeLine;decide),fun e0 he0=>?_⟩
 have s0:=ag he0 (.tup [])
 have g0:(upd H e0 (.tup [])) e0=some (.tup []):=ac
 generalize upd H e0 (.tup [])=H0 at s0 g0 ⊢
 have h10:=s0 _ _ h1
 have h20:=s0 _ _ h2
 have h30:Paired (RepT H0 n) t.ps vs:=Paired.mapP h3 fun _ _ r=>r.mono (aG s0)
 refine ⟨b,e0,vs,rfl,rfl,SqT.of h20,SqT.of g0,_,rfl,?_⟩
 have hem:vs.isEmpty=t.ps.isEmpty:=by
  have go: ∀ (l:List Bt) (r:List V),l.length=r.length->r.isEmpty=l.isEmpty:=fun l r h=>by
   cases l <;> cases r <;> first | rfl | cases h
  exact go _ _ hlen
 have hmap:(t.ps.map Bt.wr).isEmpty=t.ps.isEmpty:=by cases t.ps <;> rfl
 refine bE (fun c=>?_) (fun c=>?_)
 ·have e:t.wr=t.nm:=by rw [iU,txt,if_pos (by rw [hmap,<- hem];exact c)]
  rw [e]at q
  exact ⟨_,rfl,a,_,0,.str t.nm,rfl,rfl,SqT.of h10,ay (j:=0) rfl,q H0 s0⟩
 ·have e:t.wr=t.nm++"("++Builtin.Str.glued ", " (t.ps.map Bt.wr)++")":=by rw [iU,txt,if_neg (by rw [hmap,<- hem];exact c)]
  rw [e]at q
  refine ⟨_,rfl,a,_,0,.str t.nm,rfl,rfl,SqT.of h10,ay (j:=0) rfl,_,_,rfl,rfl,by rw [qZ];exact Nat.le_of_lt (av (by lia)),rfl,_,rfl,a,_,1,.ref b,rfl,rfl,SqT.of h10,ay (j:=1) rfl,b,rfl,⟨_,SqT.of h20⟩,?_⟩
  refine vC (by lia) h30 (iu h20) (ir h20) (kg h20) (fun _ c v=>v=.str (Bt.wr c)) (fun _ h=>h) ?_ ?_
  ·intro c v H' k hc hR s' hk
   have hcs:=js hc
   refine ⟨_,rfl,c,v,rfl,RepT.mono (aG s') hR,Nat.le_trans (kU _ t (Nat.le_refl _) c hcs) hsz,fun y hy=>hw y (fW _ (Nat.le_refl _) hcs y hy),fun H2 s2=>hk _ _ s2 rfl⟩
  ·intro p4 zs H4 hp4 s4 g4 hz
   have ez:=fK hz
   have ez:zs=(t.ps.map Bt.wr).map V.str:=by rw [ez,List.map_map];rfl
   subst ez
   obtain ⟨j1,j2⟩:=pR hsum
   refine ⟨", ",p4,_,rfl,rfl,SqL.of g4,j1,Nat.le_of_lt (av (by lia)),?_⟩
   exact ⟨_,_,rfl,rfl,by rw [Str.length_append,qZ];exact Nat.le_of_lt (av (by lia)),_,_,rfl,rfl,by rw [Str.length_append,Str.length_append,qZ,xL];exact Nat.le_of_lt (av (by lia)),q H4 (s0.trans s4)⟩
theorem mQ:FnOk P w K mg base CX0 1 f fd ["tree"] (cJ 0):=by
 have no: ∀ vs H Q E,¬ cJ 0 vs H Q E:=fun vs H Q E h=>by
  obtain ⟨t,tv,_,h,_⟩:=h
  exact h
 exact ⟨fun vs H Q E h=>absurd h (no vs H Q E),fun A outer s H args us vs Q E _ _ _ _ h=>absurd h (no vs H Q E)⟩
theorem jo (F:Fun K "_law_written_tree" "_law_written_tree" fh f fd) (bS:Binds K fd ["tree"] []) (mS:mg "_law_written_tree"=some (.ref f)): ∀ n:Nat,FnOk P w K mg base CX0 (n+1) f fd ["tree"] (cJ n)
 | 0=>mQ
 | n+1=>mO F (jo F bS mS n) bS mS
theorem RepT.sameV {H:Hp}: ∀ {n:Nat} {t:Bt} {v u:V},RepT H n t v->RepT H n t u->t.sz<=60->(∀ x∈t.subs,bj x.nm=true)->SameV H (2*n) v u:=by
 intro n
 induction n with
 | zero=>intro t v u h;exact h.elim
 | succ n ih=>
  rintro t v u ⟨a,b,vs,rfl,h1,h2,h3⟩ ⟨a',b',vs',rfl,g1,g2,g3⟩ hsz hw
  rw [show 2* (n+1)=2*n+1+1 by lia]
  have hlen:t.ps.length=vs.length:=Paired.length h3
  have hszt:=bY t
  have hll:=iP t.ps
  have hkids:Paired (SameV H (2*n)) vs vs':=by
   have go: ∀ {l:List Bt} {xs ys:List V},Paired (RepT H n) l xs->Paired (RepT H n) l ys->(∀ c∈l,c.sz<=60/\ ∀ x∈c.subs,bj x.nm=true)->Paired (SameV H (2*n)) xs ys:=by
    intro l xs ys hx
    induction hx generalizing ys with
    | nil=>intro hy _;cases hy;exact .nil
    | cons x _ ih2=>
     intro hy hc
     cases hy with
     | cons y hy=>
      have hc0:=hc _ List.mem_cons_self
      exact .cons (ih x y hc0.1 hc0.2) (ih2 hy fun c hm=>hc c (List.mem_cons_of_mem _ hm))
   exact go h3 g3 fun c hc=>⟨Nat.le_trans (kU _ t (Nat.le_refl _) c (js hc)) hsz,fun y hy=>hw y (fW _ (Nat.le_refl _) (js hc) y hy)⟩
  refine .inr (.inr ⟨true,a,a',_,_,rfl,rfl,h1,g1,(by show 2<=1000;decide),.cons (.inl ⟨t.nm,rfl,rfl,Nat.le_trans (nI (hw t (by rw [be];exact List.mem_cons_self))) (by decide:1000<=2000)⟩) (.cons ?_ .nil)⟩)
  exact .inr (.inr ⟨true,b,b',vs,vs',rfl,rfl,h2,g2,by lia,hkids⟩)
theorem vE (a b n:Nat):Builtin.Str.strSliceIndices (some (a:Int)) (some (b:Int)) 1 n=Builtin.Str.strSliceIndices (some ((min a n:Nat):Int)) (some ((min b n:Nat):Int)) 1 n:=by
 have h1: ¬ ((a:Int) <0):=by lia
 have h2: ¬ ((b:Int) <0):=by lia
 have h3: ¬ (((min a n:Nat):Int) <0):=by lia
 have h4: ¬ (((min b n:Nat):Int) <0):=by lia
 have e1:max (0:Int) (min (a:Int) (n:Int))=max (0:Int) (min ((min a n:Nat):Int) (n:Int)):=by lia
 have e2:max (0:Int) (min (b:Int) (n:Int))=max (0:Int) (min ((min b n:Nat):Int) (n:Int)):=by lia
 simp only [Builtin.Str.strSliceIndices,h1,h2,h3,h4,if_false,show ((1:Int) >0)=True from by simp,if_true]
 rw [e1,e2]
theorem dZ (z:Str) {a b:Nat} (hab:a<=b):(Txt.slice z (some (a:Int)) (some (b:Int))).cps.toList=(z.cps.toList.drop a).take (b-a):=by
 have hl:z.cps.toList.length=z.length:=by simp [Str.length]
 have hm:min a z.length<=min b z.length:=by lia
 unfold Txt.slice
 rw [vE]
 split
 ·rename_i h
  rw [StrLaws.strSliceIndices_plain hm (Nat.min_le_right _ _),List.length_map,List.length_range]at h
  have h:min b z.length-min a z.length=z.length:=by simpa using h
  rcases Nat.eq_zero_or_pos z.length with e | e
  ·rw [e]at hl
   rw [List.length_eq_zero_iff.mp hl,List.drop_nil,List.take_nil]
  ·have ea:a=0:=by lia
   subst ea
   rw [List.drop_zero,List.take_of_length_le (by lia)]
 ·rw [StrLaws.sliced_plain z hm (Nat.min_le_right _ _)]
  rcases Nat.lt_or_ge z.length a with e | e
  ·rw [List.drop_eq_nil_of_le (by lia),List.drop_eq_nil_of_le (by lia),List.take_nil,List.take_nil]
  ·rw [Nat.min_eq_left e]
   rcases Nat.le_total b z.length with e2 | e2
   ·rw [Nat.min_eq_left e2]
   ·rw [Nat.min_eq_right e2,List.take_of_length_le (by rw [List.length_drop];lia),List.take_of_length_le (by rw [List.length_drop];lia)]
theorem eC {x y:Str} (h:x.cps.toList=y.cps.toList):x=y:=by
 cases x;cases y
 exact congrArg Str.mk (Array.toList_inj.mp h)
theorem rP {p:Nat->Bool}: ∀ (l:List Nat) {i:Nat},i< (l.takeWhile p).length-> ∃ c,l[i]? =some c/\p c=true
 | [],i,h=>by cases h
 | x::l,i,h=>by
  rw [List.takeWhile_cons]at h
  cases hp:p x with
  | false=>rw [hp]at h;cases h
  | true=>
   rw [hp]at h
   cases i with
   | zero=>exact ⟨x,rfl,hp⟩
   | succ i=>exact rP l (Nat.lt_of_succ_lt_succ h)
theorem rQ {p:Nat->Bool}: ∀ (l:List Nat) {c:Nat},l[(l.takeWhile p).length]? =some c->p c=false
 | [],c,h=>by cases h
 | x::l,c,h=>by
  rw [List.takeWhile_cons]at h
  cases hp:p x with
  | false=>rw [hp]at h;cases h;exact hp
  | true=>rw [hp]at h;exact rQ l h
theorem oY {p:Nat->Bool} (l:List Nat):l.take (l.takeWhile p).length=l.takeWhile p:=by
 conv=>lhs;arg 2;rw [mf (p:=p) l]
 exact List.take_left
theorem xg {p:Nat->Bool} (l:List Nat):(l.takeWhile p).length<=l.length:=by
 have:=congrArg List.length (oY (p:=p) l)
 rw [List.length_take]at this
 lia
theorem tV (c:Nat):decide (c∈letters.cps.toList)=cE c:=by
 have e:letters.cps.toList=List.range' 97 26:=by decide +kernel
 unfold cE
 rw [e]
 refine decide_eq_decide.mpr ?_
 rw [List.mem_range'_1]
 lia
theorem yG {c:TT} {σ:St} {H:Hp} {Q:Bool->Hp->Prop} (b:Bool) (h: ∀ Q:Bool->Hp->Prop,Q b H->c σ H Q) (hq:Q b H):c σ H Q:=h Q hq
inductive cU (n:Nat) (vs:List V) (H:Hp) (Q:VK) (E_:XK):Prop
 | mk: ∀ (bv:V) (bk:Bk) (x:Str) (ai ri:Int) (at_ room:Nat),(vs=[bv,.str x,.int ai,.int ri])->(ai=(at_:Int))->(ri=(room:Int))->(RepB H bk bv)->(BookOk bk)->(x.length<=1600)->(at_<=x.length)->(room<n)->((rdg bk x.cps.toList n at_ room=none-> ∀ H',Same H H'->Q .non H'))->((∀ t e r,rdg bk x.cps.toList n at_ room=some (t,e,r)-> ∀ p v (ei rr:Int) H',ei=(e:Int)->rr=(r:Int)->Same H H'->H' p=some (.tup [v,.int ei,.int rr])->uD H' t v->Q (.ref p) H'))->cU n vs H Q E_
noncomputable def sgS (k:Nat):Str:=if k=0 then "(" else ", "
theorem lq (k:Nat):(sgS k).cps.toList=sgn k:=by
 unfold sgS sgn
 by_cases c:k=0
 ·rw [if_pos c,if_pos c];decide +kernel
 ·rw [if_neg c,if_neg c];decide +kernel
theorem pi (k:Nat):(sgS k).length=(sgn k).length:=by
 rw [<- lq,Str.length,Array.length_toList]
theorem wp (k:Nat):(sgn k).length<=2:=by
 unfold sgn
 split <;> decide
theorem ww {bk:Bk} (hok:BookOk bk) {X:List Nat} {f at_ room:Nat} {t:Bt} {e r:Nat} (h:rdg bk X f at_ room=some (t,e,r)) (ha:at_<=X.length):e<=X.length/\r<=room/\ ∃ fr,fr∈bk.forms/\Frm.name fr=t.nm:=by
 obtain ⟨s,hv,hx,hr,he⟩:=j5 BookOk.hS (fun fr hm fr' hm' e=>by
  have h1:=hok.hF fr hm
  have h2:=hok.hF fr' hm'
  rw [e,h2]at h1
  exact (Option.some.inj h1).symm) hok.hq f at_ room t e r h
 have hl:=congrArg List.length hx
 rw [List.length_append,List.length_drop,List.length_drop]at hl
 refine ⟨by lia,by lia,?_⟩
 cases f with
 | zero=>exact absurd hv id
 | succ n=>
  obtain ⟨fr,a,b,_⟩:=hv
  exact ⟨fr,a,b⟩
noncomputable abbrev uE:List Str:=["book","text","at","room","end","form","parts","k","sign","found"]
theorem scReading:aI uE ["book","text","at","room"] (aj gJ):=fsc
theorem mU {n:Nat} (F:Fun K "_law_reading" "_law_reading" gJ f fd) (G:Gb mg)
  (GF:FnOk P w K mg base CX0 1 f2 fd2 ["book","name"] gI) (bF:Binds K fd2 ["book","name"] []) (kF:PySem.W.keepIn K (.ref f2)=true) (mF:mg "_law_form_of"=some (.ref f2))
  (GS:FnOk P w K mg base CX0 (n+1) f fd ["book","text","at","room"] (cU n)) (bS:Binds K fd ["book","text","at","room"] []) (mS:mg "_law_reading"=some (.ref f)):
  FnOk P w K mg base CX0 (n+2) f fd ["book","text","at","room"] (cU (n+1)):=by
 refine F.ok scReading (fun vs H Q E h=>?_) (fun cdv A outer s H vs Q E hr h=>?_)
 ·obtain ⟨bv,bk,x,ai,ri,at_,room,rfl,_⟩:=h
  rfl
 obtain ⟨bv,bk,x,ai,ri,at_,room,rfl,rfl,rfl,hB,hok,hx,hat,hrm,qn,qs⟩:=h
 have hr1:=hr.mono (show 1<=n+1 by lia)
 have hxs:x.length<=sizeLine:=Nat.le_of_lt (bz (by lia))
 have hxl:x.cps.toList.length=x.length:=by rw [Str.length,Array.length_toList]
 have h10:=hok.few
 refine ⟨_,af (aq (i:=4) scReading.nd rfl (Or.inl rfl) (pv 2))
  (af (gN PassesOwn.never (PW.pt (ge (aA gX (pv 4) (ao cS rfl G.len PySem.boot_len (aa (pv 1) ad)) (aE _))
    (eG (aA qJ (au ju (pv 1) (pv 4) (fun _ _=>rfl)) aN rfl))))
   (ak (aq (i:=4) scReading.nd rfl (Or.inl rfl) (ar aU (pv 4) ae))))
  (af (aq (i:=5) scReading.nd rfl (Or.inl rfl) (am GF hr1 rfl mF kF bF .nil aD (aa (pv 0) (aa (aP cq (pv 1) (aQ (pv 2)) (aQ (pv 4))) ad))))
  (af (a7 (PW.pt (fQ (aA gi (pv 5) bA (aE _)) (ft (aA gX (pv 3) ae (aE _))))) (ak (aF bA)) aH)
  (af (aq (i:=6) scReading.nd rfl (Or.inl rfl) (bh ad))
  (af (aq (i:=3) scReading.nd rfl (Or.inl rfl) (ar dz (pv 3) ae))
  (af (cr PassesOwn.never rfl (bp rfl G.range (aa (ao (r:=cA K) aw rfl G.len PySem.boot_len (aa (au (r:=aV K) ax (pv 5) ae (fun _ _=>rfl)) ad)) ad)) (aS (i:=7) scReading.nd rfl (Or.inl rfl))
   (af (aq (i:=8) scReading.nd rfl (Or.inl rfl) (au (r:=cD K) aW (bh (aa aN (aa aN ad))) (bq eh rfl G.int (by decide +kernel) (aa (cG kd (pv 7) ae (aE _)) ad)) (fun _ _=>rfl)))
   (af (a7 (aA iH (aP cq (pv 1) (aQ (pv 4)) (aQ (ar aU (pv 4) (ao cS rfl G.len PySem.boot_len (aa (pv 8) ad))))) (pv 8) (aE _)) (ak (aF bA)) aH)
   (af (aq (i:=9) scReading.nd rfl (Or.inl rfl) (am GS hr rfl mS F.kp bS .nil aD (aa (pv 0) (aa (pv 1) (aa (ar aU (pv 4) (ao cS rfl G.len PySem.boot_len (aa (pv 8) ad))) (aa (pv 3) ad))))))
   (af (a7 (PW.pt (fQ (aA gi (pv 9) bA (aE _)) (ft (aA iH (au (r:=aV K) ax (am GF hr1 rfl mF kF bF .nil aD (aa (pv 0) (aa (au (r:=aV K) ax (au (r:=aV K) ax (pv 9) ae (fun _ _=>rfl)) ae (fun _ _=>rfl)) ad))) ae (fun _ _=>rfl)) (au (r:=aV K) ax (au (r:=aV K) ax (pv 5) ae (fun _ _=>rfl)) (pv 7) (fun _ _=>rfl)) (aE _))))) (ak (aF bA)) aH)
   (af (cx (dw PySem.F.plainAttrs_list PySem.F.slot_list_append PySem.F.type_list_append bK (pv 6) (aa (au (r:=aV K) ax (pv 9) ae (fun _ _=>rfl)) ad)))
   (af (aq (i:=4) scReading.nd rfl (Or.inl rfl) (au (r:=aV K) ax (pv 9) ae (fun _ _=>rfl)))
   (ak (aq (i:=3) scReading.nd rfl (Or.inl rfl) (au (r:=aV K) ax (pv 9) ae (fun _ _=>rfl)))))))))))
  (af (a7 (aA (qI hr.units0) (pv 6) (bh ad) (aE _))
    (af (a7 (aA iH (aP cq (pv 1) (aQ (pv 4)) (aQ (ar aU (pv 4) ae))) aN (aE _)) (ak (aF bA)) aH)
    (ak (aq (i:=4) scReading.nd rfl (Or.inl rfl) (ar aU (pv 4) ae)))) aH)
  (ak (aF (aZ (aa (aZ (aa (au (r:=aV K) ax (pv 5) ae (fun _ _=>rfl)) (aa (bq (r:=dv K) bn rfl G.tuple (by decide +kernel) (aa (pv 6) ad)) ad))) (aa (pv 4) (aa (pv 3) ad))))))))))))),?_⟩
 generalize hmd:((x.cps.toList.drop at_).takeWhile cE).length=m at *
 have hmx:at_+m<=x.length:=by
  have:=xg (p:=cE) (x.cps.toList.drop at_)
  rw [List.length_drop]at this
  lia
 refine ⟨_,rfl,?_⟩
 refine l9 (fun σ H'=>H'=H/\ ∃ i:Nat,σ=[some bv,some (.str x),some (.int (at_:Int)),some (.int (room:Int)),some (.int ((at_+i:Nat):Int)),none,none,none,none,none]/\i<=m)
  (fun σ _=>match σ with | [_,_,_,_,some (.int e),_,_,_,_,_]=>((x.length:Int) -e).toNat | _=>0) ⟨rfl,0,rfl,Nat.zero_le _⟩ ?_ ?_
 ·rintro σ H' ⟨rfl,i,rfl,hi⟩
  refine yG (decide (i<m)) (fun Q' hQ=>?_) ?_
  ·refine ⟨_,rfl,_,rfl,x,rfl,hxs,_,_,rfl,rfl,_,rfl,?_⟩
   refine bE (fun c=>?_) (fun c=>?_)
   ·have c:((at_+i:Nat):Int) < (x.length:Int):=of_decide_eq_true c
    have hlt:at_+i<x.cps.toList.length:=by lia
    obtain ⟨ch,ec⟩: ∃ ch,x.cps.toList[at_+i]? =some ch:=⟨_,List.getElem?_eq_getElem hlt⟩
    refine ⟨_,rfl,_,rfl,x,_,ch,rfl,rfl,hxs,ay ec,_,_,rfl,rfl,_,rfl,?_⟩
    have el:(!(Builtin.Str.occurrences "abcdefghijklmnopqrstuvwxyz" ⟨#[ch]⟩ 0 (Str.length "abcdefghijklmnopqrstuvwxyz") 1).isEmpty)=decide (i<m):=by
     rw [StrLaws.found_one]
     refine (tV ch).trans ?_
     rcases Nat.lt_or_ge i m with h | h
     ·rw [decide_eq_true h]
      obtain ⟨d,e1,e2⟩:=rP (p:=cE) (x.cps.toList.drop at_) (i:=i) (by lia)
      rw [List.getElem?_drop,ec]at e1
      cases e1
      exact e2
     ·rw [decide_eq_false (by lia)]
      have him:i=m:=by lia
      refine rQ (p:=cE) (x.cps.toList.drop at_) ?_
      rw [hmd,List.getElem?_drop,<- him]
      exact ec
    rw [el]
    exact hQ
   ·have c: ¬ ((at_+i:Nat):Int) < (x.length:Int):=fun z=>c (decide_eq_true z)
    have e:decide (i<m)=false:=decide_eq_false (by lia)
    rw [e]at hQ
    exact hQ
  refine bE (fun c=>?_) (fun c=>?_)
  ·have c:i<m:=of_decide_eq_true c
   refine ⟨_,rfl,_,_,rfl,rfl,⟨rfl,i+1,rfl,c⟩,?_⟩
   show ((x.length:Int) - (((at_+i:Nat):Int) +1)).toNat< ((x.length:Int) - ((at_+i:Nat):Int)).toNat
   lia
  have c: ¬ i<m:=fun z=>c (decide_eq_true z)
  have him:i=m:=by lia
  subst him
  clear c hi
  have enm:Txt.slice x (some (at_:Int)) (some ((at_+i:Nat):Int))=⟨((x.cps.toList.drop at_).takeWhile cE).toArray⟩:=eC (by
   rw [dZ x (Nat.le_add_right _ _),Nat.add_sub_cancel_left,<- hmd,oY])
  refine ⟨_,rfl,_,rfl,_,rfl,_,rfl,_,rfl,_,rfl,x,rfl,hxs,bv,bk,_,rfl,hB,by lia,fun fv hfv=>?_⟩
  rw [enm]at hfv
  have erd:rdg bk x.cps.toList (n+1) at_ room=match aK ⟨((x.cps.toList.drop at_).takeWhile cE).toArray⟩ bk.forms with
   | none=>none
   | some fr=>if room<1 then none else
    match dF bk (rdg bk x.cps.toList n) x.cps.toList 0 (at_+i) (room-1) fr.parts with
    | none=>none
    | some (ts,e,room')=>if ts.isEmpty=true then some (.mk fr.name ts,e,room')else if x.cps.toList[e]? =some 41 then some (.mk fr.name ts,e+1,room')else none:=by rw [<- hmd];rfl
  rw [erd]at qn qs
  have hlm: ∀ fr,aK ⟨((x.cps.toList.drop at_).takeWhile cE).toArray⟩ bk.forms=some fr->fr∈bk.forms:=fun fr h=>(BookOk.hS _ fr h).1
  generalize aK ⟨((x.cps.toList.drop at_).takeWhile cE).toArray⟩ bk.forms=lf at *
  cases lf with
  | none=>
   have hfv:fv=.non:=hfv
   subst hfv
   refine ⟨_,rfl,rfl,_,rfl,?_⟩
   refine cF (cF ?_)
   exact qn rfl _ (Same.refl _)
  | some fr=>
   obtain ⟨fa,pa,ra,rv,rfl,hfa,hpa,hra,hR⟩:=(show RepF H' fr fv from hfv)
   refine ⟨_,rfl,rfl,_,rfl,?_⟩
   refine cy ?_
   refine ⟨_,rfl,_,_,rfl,rfl,_,rfl,?_⟩
   refine bE (fun c=>?_) (fun c=>?_)
   ·have c:(room:Int) <1:=of_decide_eq_true c
    exact qn (by show (if room<1 then none else _)=none;rw [if_pos (by lia)]) _ (Same.refl _)
   have c: ¬ (room:Int) <1:=fun z=>c (decide_eq_true z)
   have qn:(match dF bk (rdg bk x.cps.toList n) x.cps.toList 0 (at_+i) (room-1) fr.parts with
    | none=>none
    | some (ts,e,room')=>if ts.isEmpty=true then some (Bt.mk fr.name ts,e,room')else if x.cps.toList[e]? =some 41 then some (Bt.mk fr.name ts,e+1,room')else none)=none-> ∀ H'',Same H' H''->Q .non H'':=fun h=>qn (by show (if room<1 then none else _)=none;rw [if_neg (by lia)];exact h)
   have qs: ∀ t e r,(match dF bk (rdg bk x.cps.toList n) x.cps.toList 0 (at_+i) (room-1) fr.parts with
    | none=>none
    | some (ts,e,room')=>if ts.isEmpty=true then some (Bt.mk fr.name ts,e,room')else if x.cps.toList[e]? =some 41 then some (Bt.mk fr.name ts,e+1,room')else none)=some (t,e,r)->_:=fun t e r h=>qs t e r (by show (if room<1 then none else _)=some _;rw [if_neg (by lia)];exact h)
   clear erd
   have hfm:=hlm fr rfl
   have hp3:=hok.p3 hfm
   refine ⟨(by show 0<=sizeLine;decide),fun pl hpl=>?_⟩
   have s1:=ag hpl (.lst [])
   have g1:(upd H' pl (.lst [])) pl=some (.lst []):=ac
   generalize upd H' pl (.lst [])=H1 at s1 g1 ⊢
   refine ⟨_,rfl,_,_,rfl,rfl,?_⟩
   refine ⟨_,rfl,fa,_,2,.ref pa,rfl,rfl,SqT.of (s1 _ _ hfa),ay (j:=2) rfl,pa,_,rfl,.inr (SqT.of (s1 _ _ hpa)),_,rfl,by rw [bf];lia,by rw [bf];lia,?_⟩
   rw [Int.toNat_natCast,bf]
   generalize hg:rdg bk x.cps.toList n=g at *
   refine cL (fun j σ H2=> ∃ o7 o8 o9 vs ts,∃ e r:Nat,∃ ei ri:Int,σ=[some bv,some (.str x),some (.int (at_:Int)),some (.int ri),some (.int ei),some (.ref fa),some (.ref pl),o7,o8,o9]/\ei=(e:Int)/\ri=(r:Int)/\Same H' H2/\H2 pl=some (.lst vs)/\Paired (uD H2) ts vs/\ts.length=j/\e<=x.length/\r<n/\
     dF bk g x.cps.toList 0 (at_+i) (room-1) fr.parts=(dF bk g x.cps.toList j e r (fr.parts.drop j)).map fun z=>(ts++z.1,z.2))
    ⟨none,none,none,[],[],at_+i,room-1,_,_,rfl,rfl,by lia,s1,g1,.nil,rfl,hmx,by lia,by rw [List.drop_zero];cases dF bk g x.cps.toList 0 (at_+i) (room-1) fr.parts <;> rfl⟩ ?_ ?_
   ·rintro j σ H2 hj ⟨o7,o8,o9,vs,ts,e,r,ei,ri,rfl,rfl,rfl,S2,g2,hP,hlt,hex,hrn,heq⟩
    obtain ⟨sq,hsq⟩: ∃ sq,fr.parts[j]? =some sq:=⟨_,List.getElem?_eq_getElem hj⟩
    rw [jA hsq]at heq
    have erl:dF bk g x.cps.toList j e r (sq::fr.parts.drop (j+1))=if (x.cps.toList.drop e).take (sgn j).length=sgn j then
     match g (e+ (sgn j).length) r with
     | none=>none
     | some (t,e',room')=>if (aK t.nm bk.forms).map (fun fr=>fr.own.name)=some sq.name then (dF bk g x.cps.toList (j+1) e' room' (fr.parts.drop (j+1))).map fun r=>(t::r.1,r.2)else none
     else none:=rfl
    rw [erl]at heq
    clear erl
    refine ⟨(by show 2<=sizeLine;decide),fun sl hsl=>?_⟩
    have s3:=ag hsl (.lst [.str "(",.str ", "])
    have g3:(upd H2 sl (.lst [.str "(",.str ", "])) sl=some (.lst [.str "(",.str ", "]):=ac
    generalize upd H2 sl (.lst [.str "(",.str ", "])=H3 at s3 g3 ⊢
    refine ⟨_,rfl,_,_,rfl,rfl,.inr ⟨_,rfl,sl,_,_,_,rfl,rfl,SqL.of g3,uc _,?_⟩⟩
    have esg:(if decide ((0:Int) <0+ (j:Int))=true then V.str ", " else V.str "(")=V.str (sgS j):=by
     unfold sgS
     by_cases c:j=0
     ·subst c;rfl
     ·rw [if_neg c,if_pos (decide_eq_true (by lia))]
    rw [esg]
    have lsg:(sgS j).length<=2:=by rw [pi];exact wp j
    have lss:(sgS j).length<=sizeLine:=Nat.le_of_lt (bz (by lia))
    have lse:(((sgS j).length:Nat):Int)=((sgn j).length:Int):=by rw [pi]
    refine ⟨_,rfl,_,rfl,_,rfl,_,rfl,_,rfl,sgS j,rfl,lss,_,_,rfl,rfl,_,rfl,x,rfl,hxs,_,rfl,rfl,_,rfl,?_⟩
    have esl:decide (V.str (Txt.slice x (some (e:Int)) (some ((e:Int) + (((sgS j).length:Nat):Int))))=V.str (sgS j))=decide ((x.cps.toList.drop e).take (sgn j).length=sgn j):=by
     refine decide_eq_decide.mpr ?_
     rw [show (e:Int) + (((sgS j).length:Nat):Int)=((e+ (sgn j).length:Nat):Int) by lia]
     constructor
     ·intro h
      have h:=congrArg (fun z:Str=>z.cps.toList) (V.str.inj h)
      rw [dZ x (Nat.le_add_right _ _),Nat.add_sub_cancel_left,lq]at h
      exact h
     ·intro h
      refine congrArg V.str (eC ?_)
      rw [dZ x (Nat.le_add_right _ _),Nat.add_sub_cancel_left,lq]
      exact h
    rw [esl]
    by_cases c1:(x.cps.toList.drop e).take (sgn j).length=sgn j
    ·rw [if_pos c1]at heq
     rw [decide_eq_true c1]
     refine cy ?_
     have hle:e+ (sgn j).length<=x.length:=by
      have:=congrArg List.length c1
      rw [List.length_take,List.length_drop]at this
      lia
     have S3:=S2.trans s3
     refine ⟨_,rfl,_,rfl,_,rfl,_,rfl,sgS j,rfl,lss,_,_,rfl,rfl,_,rfl,bv,bk,x,_,_,e+ (sgn j).length,r,rfl,by lia,rfl,hB.mono (aG S3),hok,hx,hle,hrn,fun hn H4 s4=>?_,fun t e' r' hs p v ei' ri' H4 he' hr' s4 gp4 hv=>?_⟩
     ·rw [hg]at hn
      rw [hn]at heq
      refine ⟨_,rfl,rfl,_,rfl,?_⟩
      refine cF (cF ?_)
      exact qn (by rw [heq];rfl) H4 (S3.trans s4)
     ·obtain ⟨he5,hr5,fr2,hm2,hn2⟩:=ww hok hs (by lia)
      rw [hg]at hs
      rw [hs]at heq
      have hl2:aK t.nm bk.forms=some fr2:=by rw [<- hn2];exact hok.hF fr2 hm2
      have heq:dF bk g x.cps.toList 0 (at_+i) (room-1) fr.parts=Option.map (fun z=>(ts++z.1,z.2)) (if (aK t.nm bk.forms).map (fun fr=>fr.own.name)=some sq.name then (dF bk g x.cps.toList (j+1) e' r' (fr.parts.drop (j+1))).map fun r=>(t::r.1,r.2)else none):=heq
      have S4:=S3.trans s4
      obtain ⟨ta,tb,rfl,hta⟩: ∃ a b,v=.ref a/\H4 a=some (.tup [.str t.nm,.ref b]):=by
       have h:RepT H4 t.sz t v:=hv
       rw [bY]at h
       obtain ⟨a,b,vs,e1,e2,_⟩:=h
       exact ⟨a,b,e1,e2⟩
      refine ⟨_,rfl,rfl,_,rfl,?_⟩
      refine cy ?_
      refine ⟨_,rfl,_,rfl,p,_,0,.ref ta,rfl,rfl,SqT.of gp4,cT,ta,_,0,.str t.nm,rfl,rfl,SqT.of hta,cT,bv,bk,t.nm,rfl,hB.mono (aG S4),by lia,fun gv hgv=>?_⟩
      rw [hl2]at hgv heq
      obtain ⟨ga,gpa,gra,grv,rfl,hga,_⟩:=(show RepF H4 fr2 gv from hgv)
      have eat:atI (bc fr.parts) (0+ (j:Int))=some (V.str sq.name):=by
       rw [Int.zero_add]
       exact ay (by unfold bc;rw [List.getElem?_map,hsq];rfl)
      refine ⟨ga,_,1,.str fr2.own.name,rfl,rfl,SqT.of hga,ay (j:=1) rfl,_,rfl,fa,_,2,.ref pa,rfl,rfl,SqT.of (S4 _ _ hfa),ay (j:=2) rfl,_,rfl,pa,_,_,_,rfl,rfl,SqT.of (S4 _ _ hpa),eat,rfl,_,rfl,?_⟩
      by_cases c2:fr2.own.name=sq.name
      ·refine xO (by rw [c2]) ?_
       rw [if_pos (by show some fr2.own.name=_;rw [c2])]at heq
       have hlv:ts.length=vs.length:=Paired.length hP
       have gpl4:=s4 _ _ (s3 _ _ g2)
       refine ⟨_,rfl,.inl ⟨rfl,_,SqL.of gpl4⟩,_,rfl,p,_,0,.ref ta,rfl,rfl,SqT.of gp4,cT,pl,_,_,rfl,rfl,gpl4,av (by lia),?_⟩
       have tk5:TK H4 (upd H4 pl (.lst (vs++[.ref ta]))):=TK.lst gpl4
       have g5:(upd H4 pl (.lst (vs++[.ref ta]))) pl=some (.lst (vs++[.ref ta])):=ac
       have S5:Same H' (upd H4 pl (.lst (vs++[.ref ta]))):=fun y oo h=>by
        rw [al (ah h hpl)]
        exact S4 _ _ h
       generalize upd H4 pl (.lst (vs++[.ref ta]))=H5 at tk5 g5 S5 ⊢
       refine ⟨_,rfl,p,_,1,_,rfl,rfl,SqT.of (tk5 _ _ gp4),ay (j:=1) rfl,?_⟩
       refine ⟨_,rfl,p,_,2,_,rfl,rfl,SqT.of (tk5 _ _ gp4),ay (j:=2) rfl,?_⟩
       refine ⟨_,_,_,vs++[.ref ta],ts++[t],e',r',_,_,rfl,he',hr',S5,g5,Paired.snoc (Paired.mapP hP fun _ _ z=>RepT.mono ((aG (s3.trans s4)).trans tk5) z) (RepT.mono tk5 (show RepT H4 t.sz t (.ref ta)from hv)),by rw [List.length_append,hlt];rfl,by lia,by lia,?_⟩
       rw [heq]
       cases dF bk g x.cps.toList (j+1) e' r' (fr.parts.drop (j+1))with
       | none=>rfl
       | some z=>show some (ts++t::z.1,z.2)=some (ts++[t]++z.1,z.2);rw [List.append_assoc];rfl
      ·rw [decide_eq_false (fun z=>c2 (V.str.inj z))]
       rw [if_neg (show ¬ Option.map (fun fr:Frm=>fr.own.name) (some fr2)=some sq.name from fun z=>c2 (Option.some.inj z))]at heq
       refine cF ?_
       exact qn (by rw [heq];rfl) H4 S4
    ·rw [if_neg c1]at heq
     rw [decide_eq_false c1]
     refine cF ?_
     exact qn (by rw [heq];rfl) H3 (S2.trans s3)
   ·rintro σ H2 ⟨o7,o8,o9,vs,ts,e,r,ei,ri,rfl,rfl,rfl,S2,g2,hP,hlt,hex,hrn,heq⟩
    rw [List.drop_length]at heq
    have heq:dF bk g x.cps.toList 0 (at_+i) (room-1) fr.parts=some (ts,e,r):=by
     rw [heq]
     show some (ts++[],e,r)=_
     rw [List.append_nil]
    rw [heq]at qn qs
    refine ⟨_,rfl,(by show 0<=sizeLine;decide),fun e0 he0=>?_⟩
    have s3:=ag he0 (.lst [])
    have g3:(upd H2 e0 (.lst [])) e0=some (.lst []):=ac
    generalize upd H2 e0 (.lst [])=H3 at s3 g3 ⊢
    have S3:=S2.trans s3
    have gp3:=s3 _ _ g2
    have hP3:Paired (uD H3) ts vs:=Paired.mapP hP fun _ _ z=>RepT.mono (aG s3) z
    refine ⟨pl,e0,vs,rfl,rfl,SqL.of gp3,SqL.of g3,_,rfl,?_⟩
    have hem:vs.isEmpty=ts.isEmpty:=by cases hP <;> rfl
    rw [hem]
    refine bE (fun c=>?_) (fun c=>?_)
    ·have c: ¬ ts.isEmpty=true:=fun z=>by rw [z]at c;cases c
     refine ⟨_,rfl,_,rfl,_,rfl,_,rfl,_,_,rfl,rfl,_,rfl,x,rfl,hxs,rfl,_,rfl,?_⟩
     have esl:decide (V.str (Txt.slice x (some (e:Int)) (some ((e:Int) +1)))=V.str ")")=decide (x.cps.toList[e]? =some 41):=by
      refine decide_eq_decide.mpr ?_
      rw [show (e:Int) +1=((e+1:Nat):Int) by lia]
      have e41:(x.cps.toList.drop e).take 1=[41]↔x.cps.toList[e]? =some 41:=by
       rw [<- List.head?_drop]
       cases x.cps.toList.drop e with
       | nil=>exact ⟨fun z=>(by cases z),fun z=>(by cases z)⟩
       | cons a l=>exact ⟨fun z=>(by cases z;rfl),fun z=>(by cases z;rfl)⟩
      rw [<- e41]
      have e42:(")":Str).cps.toList=[41]:=by decide +kernel
      constructor
      ·intro h
       have h:=congrArg (fun z:Str=>z.cps.toList) (V.str.inj h)
       rw [dZ x (Nat.le_add_right _ _),Nat.add_sub_cancel_left,e42]at h
       exact h
      ·intro h
       refine congrArg V.str (eC ?_)
       rw [dZ x (Nat.le_add_right _ _),Nat.add_sub_cancel_left,e42]
       exact h
     rw [esl]
     by_cases c2:x.cps.toList[e]? =some 41
     ·rw [decide_eq_true c2]
      refine cy ?_
      refine ⟨_,rfl,_,_,rfl,rfl,?_⟩
      refine ⟨_,rfl,fa,_,0,.str fr.name,rfl,rfl,SqT.of (S3 _ _ hfa),cT,_,rfl,pl,vs,rfl,.inl ⟨SqL.of gp3,fun ct hct=>?_⟩⟩
      have s4:=ag hct (.tup vs)
      have g4:(upd H3 ct (.tup vs)) ct=some (.tup vs):=ac
      generalize upd H3 ct (.tup vs)=H4 at s4 g4 ⊢
      refine ⟨(by show 2<=sizeLine;decide),fun nt hnt=>?_⟩
      have s5:=ag hnt (.tup [.str fr.name,.ref ct])
      have g5:(upd H4 nt (.tup [.str fr.name,.ref ct])) nt=some (.tup [.str fr.name,.ref ct]):=ac
      have g45:=s5 _ _ g4
      generalize upd H4 nt (.tup [.str fr.name,.ref ct])=H5 at s5 g5 g45 ⊢
      refine ⟨_,rfl,_,rfl,(by show 3<=sizeLine;decide),fun rt hrt=>?_⟩
      have s6:=fun o=>ag hrt o
      refine qs _ _ _ (by show (if ts.isEmpty=true then _ else _)=_;rw [if_neg c,if_pos c2]) rt (.ref nt) _ _ _ (by lia) rfl (S3.trans (s4.trans (s5.trans (s6 _)))) ac ?_
      show RepT _ (Bt.mk fr.name ts).sz (Bt.mk fr.name ts) _
      rw [bY]
      exact ⟨nt,ct,vs,rfl,s6 _ _ _ g5,s6 _ _ _ g45,Paired.mapP (fI (Nat.le_refl _) hP3) fun _ _ z=>RepT.mono (aG (s4.trans (s5.trans (s6 _)))) z⟩
     ·rw [decide_eq_false c2]
      refine cF ?_
      exact qn (by show (if ts.isEmpty=true then _ else _)=_;rw [if_neg c,if_neg c2]) H3 S3
    ·have c:ts.isEmpty=true:=by
      cases hh:ts.isEmpty with
      | true=>rfl
      | false=>rw [hh]at c;exact absurd rfl c
     refine ⟨_,rfl,fa,_,0,.str fr.name,rfl,rfl,SqT.of (S3 _ _ hfa),cT,_,rfl,pl,vs,rfl,.inl ⟨SqL.of gp3,fun ct hct=>?_⟩⟩
     have s4:=ag hct (.tup vs)
     have g4:(upd H3 ct (.tup vs)) ct=some (.tup vs):=ac
     generalize upd H3 ct (.tup vs)=H4 at s4 g4 ⊢
     refine ⟨(by show 2<=sizeLine;decide),fun nt hnt=>?_⟩
     have s5:=ag hnt (.tup [.str fr.name,.ref ct])
     have g5:(upd H4 nt (.tup [.str fr.name,.ref ct])) nt=some (.tup [.str fr.name,.ref ct]):=ac
     have g45:=s5 _ _ g4
     generalize upd H4 nt (.tup [.str fr.name,.ref ct])=H5 at s5 g5 g45 ⊢
     refine ⟨_,rfl,_,rfl,(by show 3<=sizeLine;decide),fun rt hrt=>?_⟩
     have s6:=fun o=>ag hrt o
     refine qs _ _ _ (by show (if ts.isEmpty=true then _ else _)=_;rw [if_pos c]) rt (.ref nt) _ _ _ rfl rfl (S3.trans (s4.trans (s5.trans (s6 _)))) ac ?_
     show RepT _ (Bt.mk fr.name ts).sz (Bt.mk fr.name ts) _
     rw [bY]
     exact ⟨nt,ct,vs,rfl,s6 _ _ _ g5,s6 _ _ _ g45,Paired.mapP (fI (Nat.le_refl _) hP3) fun _ _ z=>RepT.mono (aG (s4.trans (s5.trans (s6 _)))) z⟩
 ·rintro σ H' Q1 Q2 hq ⟨v1,e1,v2,e2,z,e3,hz,i1,i2,e4,e5,k,e6,h⟩
  refine ⟨v1,e1,v2,e2,z,e3,hz,i1,i2,e4,e5,k,e6,?_⟩
  by_cases c:k=true
  ·rw [if_pos c]at h ⊢
   obtain ⟨v3,e7,v4,e8,z2,i3,ch,e9,e10,hz2,e11,i4,i5,e12,e13,k2,e14,h⟩:=h
   exact ⟨v3,e7,v4,e8,z2,i3,ch,e9,e10,hz2,e11,i4,i5,e12,e13,k2,e14,hq _ _ h⟩
  ·rw [if_neg c]at h ⊢
   exact hq _ _ h
theorem mV:FnOk P w K mg base CX0 1 f fd ["book","text","at","room"] (cU 0):=by
 have no: ∀ vs H Q E,¬ cU 0 vs H Q E:=fun vs H Q E h=>by
  obtain ⟨_,_,_,_,_,_,room,_,_,_,_,_,_,_,h,_⟩:=h
  exact absurd h (Nat.not_lt_zero _)
 exact ⟨fun vs H Q E h=>absurd h (no vs H Q E),fun A outer s H args us vs Q E _ _ _ _ h=>absurd h (no vs H Q E)⟩
theorem jp (F:Fun K "_law_reading" "_law_reading" gJ f fd) (G:Gb mg)
  (GF:FnOk P w K mg base CX0 1 f2 fd2 ["book","name"] gI) (bF:Binds K fd2 ["book","name"] []) (kF:PySem.W.keepIn K (.ref f2)=true) (mF:mg "_law_form_of"=some (.ref f2))
  (bS:Binds K fd ["book","text","at","room"] []) (mS:mg "_law_reading"=some (.ref f)): ∀ n:Nat,FnOk P w K mg base CX0 (n+1) f fd ["book","text","at","room"] (cU n)
 | 0=>mV
 | n+1=>mU F G GF bF kF mF (jp F G GF bF kF mF bS mS n) bS mS
end My
namespace L2
open PySem PySem.Spec PyProof.Rows
theorem iy {α:Type} (a:Array α): ∀ (m:Nat) (acc:Array α),((List.replicate m a).foldl (· ++ ·) acc).size=acc.size+m*a.size
 | 0,acc=>by show acc.size=_;lia
 | m+1,acc=>by
  rw [List.replicate_succ,List.foldl_cons,iy a m,Array.size_append,Nat.succ_mul]
  lia
section
variable {X:Cx}
theorem jm:OpR X (binaryOp .Mult) (fun x y H Q=> ∃ z k,x=.str z/\y=.int k/\0<=k/\k<=1000/\z.length<=100/\ ∀ u:Str,u.length<=100*k.toNat->u.length<=z.length*k.toNat->Q (.str u) H):=by
 intro pins s σ H x y v u Q I rx ry h
 obtain ⟨z,k,rfl,rfl,h0,h1,hz,q⟩:=h
 obtain ⟨t,rfl⟩:=rx
 obtain ⟨t',rfl⟩:=ry
 have hm:z.length*k.toNat<=100*k.toNat:=Nat.mul_le_mul_right _ hz
 have hsz:sizeLine=16777216:=by decide
 refine PySem.P.mul_str ?_ (fun h2 h3=>?_) (fun h2 h3=>?_) ?_
 ·rw [decide_eq_false (by lia),decide_eq_false (by lia)]
  rfl
 ·intro h4
  have h5:(z.length:Int) *k<=100*1000:=Int.mul_le_mul (by lia) h1 h0 (by lia)
  have h7:(z.length:Int)<=(2^63-1) /k:=(Int.le_ediv_iff_mul_le (by lia)).mpr (by lia)
  lia
 ·exact decide_eq_false (by lia)
 ·by_cases c:k<1
  ·rw [if_pos c]
   exact ⟨by decide,.str Str.empty,H,I.tok _,⟨_,rfl⟩,q _ (Nat.zero_le _) (Nat.zero_le _)⟩
  ·rw [if_neg c]
   refine post_val_or_str ⟨?_,fun t' k'=>?_⟩
   ·by_cases c2:(k==1||z.length==0)=true
    ·rw [if_pos c2];lia
    ·rw [if_neg c2]
     show (List.foldl (· ++ ·) #[] (List.replicate k.toNat z.cps)).size<=_
     rw [iy]
     show 0+k.toNat*z.length<=_
     rw [Nat.mul_comm]
     lia
   ·have hl:(if (k==1||z.length==0)=true then z else ⟨(List.replicate k.toNat z.cps).foldl (· ++ ·) #[]⟩:Str).length<=z.length*k.toNat:=by
     by_cases c2:(k==1||z.length==0)=true
     ·rw [if_pos c2]
      exact Nat.le_mul_of_pos_right _ (by lia)
     ·rw [if_neg c2]
      show (List.foldl (· ++ ·) #[] (List.replicate k.toNat z.cps)).size<=_
      rw [iy]
      show 0+k.toNat*z.length<=_
      rw [Nat.mul_comm]
      lia
    exact ⟨.str _,H,I.tok _,⟨_,rfl⟩,q _ (Nat.le_trans hl hm) hl⟩
end
end L2
namespace My
open PySem L2
inductive lj  (vs:List V) (H:Hp) (Q:VK) (E_:XK):Prop
 | mk: ∀ tp bv bk x,(vs=[.ref tp,bv,.str x])->(Tp H tp)->(RepB H bk bv)->(BookOk bk)->(x.length<=1600)->(∀ (y:Str) H',y.length<=20000->Kp tp H H'->Tp H' tp->Q (.str y) H')->lj vs H Q E_
theorem vL {x:Str} (h:bj x=true):x.length<=8:=by
 unfold bj at h
 simp only [Bool.and_eq_true,decide_eq_true_eq]at h
 exact h.1.2
noncomputable abbrev yg:List Str:=["tape","book","text","at","sign","way"]
theorem scBent:aI yg ["tape","book","text"] (aj sD):=fsc
theorem vb (F:Fun K "_law_bent" "_law_bent" sD f fd) (G:Gb mg) (GD:FnOk P w K mg base CX0 1 g gd ["tape","many"] cc) (bD:Binds K gd ["tape","many"] []) (kD:PySem.W.keepIn K (.ref g)=true) (mD:mg "_law_digit"=some (.ref g)):
  FnOk P w K mg base CX0 2 f fd ["tape","book","text"] lj:=by
 refine F.ok scBent (fun vs H Q E h=>?_) (fun cdv A outer s H vs Q E hr h=>?_)
 ·obtain ⟨tp,bv,bk,x,rfl,_⟩:=h
  rfl
 obtain ⟨tp,bv,bk,x,rfl,hT,hB,hok,hx,q⟩:=h
 have hxs:x.length<=sizeLine:=Nat.le_of_lt (bz (by lia))
 refine ⟨_,af (aq (i:=3) scBent.nd rfl (Or.inl rfl) (am GD hr rfl mD kD bD .nil aD (aa (pv 0) (aa (ar aU (ao cS rfl G.len PySem.boot_len (aa (pv 2) ad)) ae) ad))))
  (af (aq (i:=4) scBent.nd rfl (Or.inl rfl) (au ju aN (am GD hr rfl mD kD bD .nil aD (aa (pv 0) (aa ae ad))) (fun _ _=>rfl)))
  (af (aq (i:=5) scBent.nd rfl (Or.inl rfl) (am GD hr rfl mD kD bD .nil aD (aa (pv 0) (aa ae ad))))
  (af (a7 (aA bV (pv 5) ae (aE _)) (ak (aF (ar aJ (ar aJ (aP cq (pv 2) a9 (aQ (pv 3))) (pv 4)) (aP cq (pv 2) (aQ (ar aU (pv 3) ae)) a9)))) aH)
  (af (a7 (aA bV (pv 5) ae (aE _)) (ak (aF (ar aJ (ar aJ (aP cq (pv 2) a9 (aQ (pv 3))) (pv 4)) (aP cq (pv 2) (aQ (pv 3)) a9)))) aH)
  (af (a7 (aA bV (pv 5) ae (aE _)) (ak (aF (ar aJ (aP cq (pv 2) a9 (aQ (pv 3))) (aP cq (pv 2) (aQ (ar aU (pv 3) ae)) a9)))) aH)
  (af (a7 (aA bV (pv 5) ae (aE _)) (ak (aF (ar aJ (ar aJ (aP cq (pv 2) a9 (aQ (pv 3)))
    (au (r:=aV K) ax (au (r:=aV K) ax (au (r:=aV K) ax (pv 1) ae (fun _ _=>rfl)) (am GD hr rfl mD kD bD .nil aD (aa (pv 0) (aa (ao (r:=cA K) aw rfl G.len PySem.boot_len (aa (au (r:=aV K) ax (pv 1) ae (fun _ _=>rfl)) ad)) ad))) (fun _ _=>rfl)) ae (fun _ _=>rfl))) (aP cq (pv 2) (aQ (pv 3)) a9)))) aH)
  (af (a7 (aA bV (pv 5) ae (aE _)) (ak (aF (ar aJ (aP cq (pv 2) a9 (aQ (pv 3))) (pv 2)))) aH)
  (af (a7 (aA bV (pv 5) ae (aE _)) (ak (aF (aP cq (pv 2) a9 (aQ (pv 3))))) aH)
  (af (a7 (aA bV (pv 5) ae (aE _)) (ak (aF (ar aJ (pv 2) (au (r:=cD K) aW (bh (pac aN (pac aN (pac aN (pac (ar aJ (ar aJ aN (pv 2)) aN) (pac aN ad))))))
    (am GD hr rfl mD kD bD .nil aD (aa (pv 0) (aa ae ad))) (fun _ _=>rfl))))) aH)
  (ak (aF (ar aJ (ar jm (ar aJ (au (r:=aV K) ax (au (r:=aV K) ax (au (r:=aV K) ax (pv 1) ae (fun _ _=>rfl)) (am GD hr rfl mD kD bD .nil aD (aa (pv 0) (aa (ao (r:=cA K) aw rfl G.len PySem.boot_len (aa (au (r:=aV K) ax (pv 1) ae (fun _ _=>rfl)) ad)) ad))) (fun _ _=>rfl)) ae (fun _ _=>rfl)) aN)
    (am GD hr rfl mD kD bD .nil aD (aa (pv 0) (aa ae ad)))) (pv 2))))))))))))),?_⟩
 refine ⟨_,rfl,_,rfl,x,rfl,hxs,_,_,rfl,rfl,tp,_,rfl,hT,by lia,by lia,fun at_ t1 ha0 ha1=>?_⟩
 refine ⟨_,rfl,tp,9,rfl,⟨t1,ac⟩,by decide,by decide,fun sg t2 hs0 hs1=>?_⟩
 rw [cM]
 obtain ⟨ch,ec,_⟩:=eQ (xs:=("abm(), z\n":Str).cps.toList) hs0 (by rw [show ("abm(), z\n":Str).cps.toList.length=9 by decide +kernel];exact hs1)
 refine ⟨_,_,ch,rfl,rfl,(by decide +kernel),ec,?_⟩
 refine ⟨_,rfl,tp,8,rfl,⟨t2,ac⟩,by decide,by decide,fun wy t3 hw0 hw1=>?_⟩
 rw [cM]
 have k3:Kp tp H (upd H tp (.lst [.int t3])):=Kp.tape
 have tt3:Tp (upd H tp (.lst [.int t3])) tp:=⟨t3,ac⟩
 have hB3:=hB.mono (k3.tk hT)
 generalize upd H tp (.lst [.int t3])=H3 at k3 tt3 hB3 ⊢
 have hsl: ∀ lo hi,(Txt.slice x lo hi).length<=1600:=fun lo hi=>Nat.le_trans (Txt.slice_le x lo hi) hx
 have h1:(⟨#[ch]⟩:Str).length=1:=rfl
 obtain ⟨b,sa,fa,fv,rfl,hb,hsa,hfa,hF⟩:=hB3
 have lF:=hF.len
 have h10:=hok.few
 have hpos:0<fv.length:=by
  obtain ⟨fr,hm,_⟩:=hok.nil
  have:=List.length_pos_of_mem hm
  lia
 have nm: ∀ d:Int,0<=d->d< (fv.length:Int)-> ∃ v fr,atI fv d=some v/\fr∈bk.forms/\RepF H3 fr v:=fun d h0 h1=>by
  obtain ⟨v,e1,e2⟩:=eQ (xs:=fv) h0 h1
  obtain ⟨fr,hfr,hR⟩:=aX hF e2
  exact ⟨v,fr,e1,List.mem_of_getElem? hfr,hR⟩
 refine ⟨_,rfl,rfl,_,rfl,?_⟩
 refine bE (fun c=>?_) (fun c=>?_)
 ·have l1:=hsl none (some at_)
  have l2:=hsl (some (at_+1)) none
  refine ⟨_,rfl,_,rfl,_,rfl,x,rfl,hxs,_,rfl,_,_,rfl,rfl,Nat.le_of_lt (bz (by lia)),_,rfl,_,rfl,_,_,rfl,rfl,_,rfl,x,rfl,hxs,_,_,rfl,rfl,Nat.le_of_lt (bz (by rw [bx];lia)),q _ H3 (by rw [bx,bx];lia) k3 tt3⟩
 refine ⟨_,rfl,rfl,_,rfl,?_⟩
 refine bE (fun c=>?_) (fun c=>?_)
 ·have l1:=hsl none (some at_)
  have l2:=hsl (some at_) none
  refine ⟨_,rfl,_,rfl,_,rfl,x,rfl,hxs,_,rfl,_,_,rfl,rfl,Nat.le_of_lt (bz (by lia)),_,rfl,_,rfl,_,rfl,x,rfl,hxs,_,_,rfl,rfl,Nat.le_of_lt (bz (by rw [bx];lia)),q _ H3 (by rw [bx,bx];lia) k3 tt3⟩
 refine ⟨_,rfl,rfl,_,rfl,?_⟩
 refine bE (fun c=>?_) (fun c=>?_)
 ·have l1:=hsl none (some at_)
  have l2:=hsl (some (at_+1)) none
  refine ⟨_,rfl,_,rfl,_,rfl,x,rfl,hxs,_,rfl,_,rfl,_,_,rfl,rfl,_,rfl,x,rfl,hxs,_,_,rfl,rfl,Nat.le_of_lt (bz (by lia)),q _ H3 (by rw [bx];lia) k3 tt3⟩
 refine ⟨_,rfl,rfl,_,rfl,?_⟩
 refine bE (fun c=>?_) (fun c=>?_)
 ·have l1:=hsl none (some at_)
  have l2:=hsl (some at_) none
  refine ⟨_,rfl,_,rfl,_,rfl,x,rfl,hxs,_,rfl,b,_,2,.ref fa,rfl,rfl,SqT.of hb,ay (j:=2) rfl,_,rfl,_,rfl,b,_,2,.ref fa,rfl,rfl,SqT.of hb,ay (j:=2) rfl,fa,_,rfl,.inr (SqT.of hfa),tp,_,rfl,tt3,by lia,by lia,fun d t4 hd0 hd1=>?_⟩
  obtain ⟨v,fr,e1,hm,hR⟩:=nm d hd0 hd1
  have k4:Kp tp H3 (upd H3 tp (.lst [.int t4])):=Kp.tape
  have tk4:=k4.tk tt3
  have tt4:Tp (upd H3 tp (.lst [.int t4])) tp:=⟨t4,ac⟩
  obtain ⟨ra,_,_,_,rfl,hra,_⟩:=hR.mono tk4
  have l3:=vL (hok.wd fr hm)
  refine ⟨fa,_,_,_,rfl,rfl,SqT.of (tk4 _ _ hfa),e1,ra,_,0,.str fr.name,rfl,rfl,SqT.of hra,cT,_,_,rfl,rfl,Nat.le_of_lt (bz (by lia)),_,rfl,_,rfl,_,rfl,x,rfl,hxs,_,_,rfl,rfl,Nat.le_of_lt (bz (by rw [bx];lia)),q _ _ (by rw [bx,bx];lia) (k3.trans k4) tt4⟩
 refine ⟨_,rfl,rfl,_,rfl,?_⟩
 refine bE (fun c=>?_) (fun c=>?_)
 ·have l1:=hsl none (some at_)
  refine ⟨_,rfl,_,rfl,_,rfl,x,rfl,hxs,_,rfl,_,_,rfl,rfl,Nat.le_of_lt (bz (by lia)),q _ H3 (by rw [bx];lia) k3 tt3⟩
 refine ⟨_,rfl,rfl,_,rfl,?_⟩
 refine bE (fun c=>?_) (fun c=>?_)
 ·have l1:=hsl none (some at_)
  exact ⟨_,rfl,_,rfl,_,rfl,x,rfl,hxs,q _ H3 (by lia) k3 tt3⟩
 refine ⟨_,rfl,rfl,_,rfl,?_⟩
 refine bE (fun c=>?_) (fun c=>?_)
 ·have lb:("(":Str).length=1:=by decide +kernel
  have lc:(")":Str).length=1:=by decide +kernel
  refine ⟨_,rfl,_,rfl,_,_,rfl,rfl,Nat.le_of_lt (bz (by lia)),_,_,rfl,rfl,Nat.le_of_lt (bz (by rw [bx];lia)),(by show 5<=sizeLine;decide),fun l hl=>?_⟩
  have s4:=ag hl (.lst [.str "()",.str " ",.str ")",.str ("("++x++")"),.str "\n"])
  have g4:(upd H3 l (.lst [.str "()",.str " ",.str ")",.str ("("++x++")"),.str "\n"])) l=some (.lst [.str "()",.str " ",.str ")",.str ("("++x++")"),.str "\n"]):=ac
  have k4:=k3.same s4
  have tt4:=tt3.new (o:=.lst [.str "()",.str " ",.str ")",.str ("("++x++")"),.str "\n"]) hl
  have nl:l≠tp:=fun z=>by obtain ⟨t,e⟩:=tt3;rw [z,e]at hl;cases hl
  generalize upd H3 l (.lst [.str "()",.str " ",.str ")",.str ("("++x++")"),.str "\n"])=H4 at s4 g4 k4 tt4 ⊢
  refine ⟨_,rfl,tp,5,rfl,tt4,by decide,by decide,fun d t5 hd0 hd1=>?_⟩
  obtain ⟨v,e1,e2⟩:=eQ (xs:=[V.str "()",.str " ",.str ")",.str ("("++x++")"),.str "\n"]) hd0 hd1
  obtain ⟨y,rfl,hy⟩: ∃ y:Str,v=.str y/\y.length<=1602:=by
   have hm:=List.mem_of_getElem? e2
   simp only [List.mem_cons,List.not_mem_nil,or_false]at hm
   rcases hm with rfl | rfl | rfl | rfl | rfl
   ·exact ⟨_,rfl,by decide +kernel⟩
   ·exact ⟨_,rfl,by decide +kernel⟩
   ·exact ⟨_,rfl,by decide +kernel⟩
   ·exact ⟨_,rfl,by rw [bx,bx,lb,lc];lia⟩
   ·exact ⟨_,rfl,by decide +kernel⟩
  have k5:Kp tp H4 (upd H4 tp (.lst [.int t5])):=Kp.tape
  refine ⟨l,_,_,_,rfl,rfl,SqL.of (k5 _ _ g4 nl),e1,_,_,rfl,rfl,Nat.le_of_lt (bz (by lia)),q _ _ (by rw [bx];lia) (k4.trans k5) ⟨t5,ac⟩⟩
 ·have lb:("(":Str).length=1:=by decide +kernel
  refine ⟨_,rfl,b,_,2,.ref fa,rfl,rfl,SqT.of hb,ay (j:=2) rfl,_,rfl,_,rfl,b,_,2,.ref fa,rfl,rfl,SqT.of hb,ay (j:=2) rfl,fa,_,rfl,.inr (SqT.of hfa),tp,_,rfl,tt3,by lia,by lia,fun d t4 hd0 hd1=>?_⟩
  obtain ⟨v,fr,e1,hm,hR⟩:=nm d hd0 hd1
  have k4:Kp tp H3 (upd H3 tp (.lst [.int t4])):=Kp.tape
  have tk4:=k4.tk tt3
  obtain ⟨ra,_,_,_,rfl,hra,_⟩:=hR.mono tk4
  have l3:=vL (hok.wd fr hm)
  refine ⟨fa,_,_,_,rfl,rfl,SqT.of (tk4 _ _ hfa),e1,ra,_,0,.str fr.name,rfl,rfl,SqT.of hra,cT,_,_,rfl,rfl,Nat.le_of_lt (bz (by lia)),_,rfl,tp,90,rfl,⟨t4,ac⟩,by decide,by decide,fun m t5 hm0 hm1=>?_⟩
  rw [cM]
  refine ⟨_,m,rfl,rfl,hm0,by lia,by rw [bx];lia,fun u hu hu2=>?_⟩
  exact ⟨_,rfl,_,_,rfl,rfl,Nat.le_of_lt (bz (by lia)),q _ _ (by rw [bx];lia) (k3.trans Kp.tape) ⟨t5,ac⟩⟩
structure yh (K:PySem.W.Frag) (mg:Str->Option Value) (C CB D0 D1 D2 D3 D4 D5 D6 D7 D8 D9 D10 D11 D12 D13 D14 D15 D16:Addr):Prop where
 d0:mg "NoBook"=some (.ref D0)
 d1:mg "NoBuild"=some (.ref D1)
 d2:mg "NoChange"=some (.ref D2)
 d3:mg "NoFit"=some (.ref D3)
 d4:mg "NoGiven"=some (.ref D4)
 d5:mg "NoName"=some (.ref D5)
 d6:mg "NoPlace"=some (.ref D6)
 d7:mg "NoPlain"=some (.ref D7)
 d8:mg "NoPrice"=some (.ref D8)
 d9:mg "NoRow"=some (.ref D9)
 d10:mg "NoSpot"=some (.ref D10)
 d11:mg "NoTree"=some (.ref D11)
 d12:mg "NoWorth"=some (.ref D12)
 d13:mg "Ring"=some (.ref D13)
 d14:mg "Tangled"=some (.ref D14)
 d15:mg "TooGreat"=some (.ref D15)
 d16:mg "TooMany"=some (.ref D16)
 c:mg "NoText"=some (.ref C)
 cb:mg "BoughError"=some (.ref CB)
 ve:mg "ValueError"=none
 exc:ExC K C
 cac:CaC K C CB
 no:PySem.W.kitAny K (.ref C) ([D0,D1,D2,D3,D4,D5,D6,D7,D8,D9,D10,D11,D12,D13,D14,D15,D16].map Value.ref)=some false
 self:PySem.W.kitOne K (.ref C) (.ref C)=some true
 val:PySem.W.kitOne K (.ref C) (.type "ValueError")=some true
inductive nW  (vs:List V) (H:Hp) (Q:VK) (E_:XK):Prop
 | mk: ∀ bv bk x,(vs=[bv,.str x])->(RepB H bk bv)->(BookOk bk)->(x.length<=1600)->((∀ t s v c H',Vld bk t.sz t s->t.sz<=60->t.wr=x->Same H H'->H' c=some (.tup [.str "told",v])->RepT H' t.sz t v->Q (.ref c) H'))->(((∀ n t s,Vld bk n t s->t.sz<=60->t.wr≠x)-> ∀ c H',Same H H'->H' c=some (.tup [.str "refused",.bl true])->Q (.ref c) H'))->nW vs H Q E_
noncomputable abbrev yf:List Str:=["book","text","found","caught","e"]
theorem scTold:aI yf ["book","text"] (aj sw):=fsc
theorem u5 (F:Fun K "_law_told" "_law_told" sw f fd) (hisi:mg "isinstance"=none) (h:yh K mg C CB D0 D1 D2 D3 D4 D5 D6 D7 D8 D9 D10 D11 D12 D13 D14 D15 D16)
  (GB:eA P w K mg base (CX1 P w C) 4 g gd ["book","text"] (nY C)) (bB:Binds K gd ["book","text"] []) (kB:PySem.W.keepIn K (.ref g)=true) (mB:mg "read_tree"=some (.ref g)):
  eA P w K mg base CX0 5 f fd ["book","text"] nW:=by
 refine F.okT scTold (fun vs H Q E h=>?_) (fun cdv A outer s H vs Q E hr hq=>?_)
 ·obtain ⟨bv,bk,x,rfl,_⟩:=h
  rfl
 obtain ⟨bv,bk,x,rfl,hB,hok,hx,q1,q2⟩:=hq
 refine ⟨_,bJ (PS.tk (aq (i:=2) scTold.nd rfl (Or.inl rfl) bA))
  (bJ (PS.tk (aq (i:=3) scTold.nd rfl (Or.inl rfl) bA))
  (bJ (sN (j:=2) (i:=4) (fun _ _ z=>z) rfl rfl scTold.nd GB hr rfl mB kB bB (aa (pv 0) (aa (pv 1) ad)) rfl (Or.inl rfl) rfl rfl rfl h.cb h.cac (fun x=>ak (aq (i:=3) scTold.nd rfl (Or.inl rfl) (pv 4))))
  (PSs.tk (af (a7 (aA gi (pv 3) bA (aE _)) (ak (aF (aZ (aa aN (aa (pv 2) ad))))) aH)
  (af (a7 (dQ (ao rG rfl hisi (by decide +kernel) (aa (pv 3) (aa (aZ (pac (bw (v:=.ref D0) rfl h.d0 rfl) (pac (bw (v:=.ref D1) rfl h.d1 rfl) (pac (bw (v:=.ref D2) rfl h.d2 rfl) (pac (bw (v:=.ref D3) rfl h.d3 rfl) (pac (bw (v:=.ref D4) rfl h.d4 rfl) (pac (bw (v:=.ref D5) rfl h.d5 rfl) (pac (bw (v:=.ref D6) rfl h.d6 rfl) (pac (bw (v:=.ref D7) rfl h.d7 rfl) (pac (bw (v:=.ref D8) rfl h.d8 rfl) (pac (bw (v:=.ref D9) rfl h.d9 rfl) (pac (bw (v:=.ref D10) rfl h.d10 rfl) (pac (bw (v:=.ref D11) rfl h.d11 rfl) (pac (bw (v:=.ref D12) rfl h.d12 rfl) (pac (bw (v:=.ref D13) rfl h.d13 rfl) (pac (bw (v:=.ref D14) rfl h.d14 rfl) (pac (bw (v:=.ref D15) rfl h.d15 rfl) (pac (bw (v:=.ref D16) rfl h.d16 rfl) ad)))))))))))))))))) ad)))) (ak (aF (aZ (aa aN (aa bA ad))))) aH)
  (ak (aF (aZ (aa aN (aa (gh (ao nE rfl hisi (by decide +kernel) (aa (pv 3) (aa (bw (v:=.ref C) rfl h.c rfl) ad)))
   (gf (ao nE rfl hisi (by decide +kernel) (aa (pv 3) (aa (ce (v:=.ty "ValueError") rfl h.ve (by decide +kernel) rfl) ad))))) ad)))))))))),?_⟩
 refine ⟨_,rfl,_,rfl,bv,bk,x,rfl,hB,hok,hx,fun t s v H1 hv hsz hw S1 hR=>?_,fun hw H1 S1 y hy=>?_⟩
 ·refine ⟨_,rfl,rfl,_,rfl,?_⟩
  obtain ⟨a,rfl⟩: ∃ a,v=.ref a:=by
   rw [bY]at hR
   obtain ⟨a,_,_,e,_⟩:=hR
   exact ⟨a,e⟩
  refine cF ⟨_,rfl,(by show 2<=sizeLine;decide),fun c hc=>?_⟩
  have s2:=ag hc (.tup [.str "told",.ref a])
  exact q1 t s _ c _ hv hsz hw (S1.trans s2) ac (hR.mono (aG s2))
 ·have S2:=S1.trans (ag hy (ExO y C))
  have g2:(upd H1 y (ExO y C)) y=some (ExO y C):=ac
  generalize upd H1 y (ExO y C)=H2 at S2 g2 ⊢
  refine ⟨_,rfl,_,rfl,rfl,_,rfl,?_⟩
  refine cy ?_
  refine ⟨_,rfl,(by show 17<=sizeLine;decide),fun p hp=>?_⟩
  have s3:=ag hp (.tup [V.ref D0,V.ref D1,V.ref D2,V.ref D3,V.ref D4,V.ref D5,V.ref D6,V.ref D7,V.ref D8,V.ref D9,V.ref D10,V.ref D11,V.ref D12,V.ref D13,V.ref D14,V.ref D15,V.ref D16])
  have g3:(upd H2 p (.tup [V.ref D0,V.ref D1,V.ref D2,V.ref D3,V.ref D4,V.ref D5,V.ref D6,V.ref D7,V.ref D8,V.ref D9,V.ref D10,V.ref D11,V.ref D12,V.ref D13,V.ref D14,V.ref D15,V.ref D16])) p=some (.tup [V.ref D0,V.ref D1,V.ref D2,V.ref D3,V.ref D4,V.ref D5,V.ref D6,V.ref D7,V.ref D8,V.ref D9,V.ref D10,V.ref D11,V.ref D12,V.ref D13,V.ref D14,V.ref D15,V.ref D16]):=ac
  have gx:=s3 _ _ g2
  generalize upd H2 p (.tup [V.ref D0,V.ref D1,V.ref D2,V.ref D3,V.ref D4,V.ref D5,V.ref D6,V.ref D7,V.ref D8,V.ref D9,V.ref D10,V.ref D11,V.ref D12,V.ref D13,V.ref D14,V.ref D15,V.ref D16])=H3 at s3 g3 gx ⊢
  refine ⟨y,C,p,[D0,D1,D2,D3,D4,D5,D6,D7,D8,D9,D10,D11,D12,D13,D14,D15,D16],false,rfl,gx,h.exc,g3,h.no,_,rfl,?_⟩
  refine cy ?_
  refine ⟨_,rfl,y,C,.ref C,.ref C,true,rfl,gx,h.exc,fun u z=>z,h.self,_,rfl,?_⟩
  refine cF ?_
  refine ⟨_,rfl,y,C,.ty "ValueError",.type "ValueError",true,rfl,gx,h.exc,fun u z=>z,h.val,?_⟩
  refine ⟨(by show 2<=sizeLine;decide),fun c hc=>?_⟩
  exact q2 hw c _ (S2.trans (s3.trans (ag hc _))) ac
inductive gH  (vs:List V) (H:Hp) (Q:VK) (E_:XK):Prop
 | mk: ∀ bv bk x,(vs=[bv,.str x])->(RepB H bk bv)->(BookOk bk)->(x.length<=1600)->(∀ H',Same H H'->Q (.bl true) H')->gH vs H Q E_
theorem oi {bk:Bk} (hok:BookOk bk) {n:Nat} {t:Bt} {s:Srt} {x:Str} (h:Vld bk n t s) (hs:t.sz<=60) (hx:t.wr=x):rdg bk x.cps.toList 61 0 60=some (t,x.cps.toList.length,60-t.sz):=by
 have e:=lI (X:=x.cps.toList) hok.hF hok.wd 61 t s 0 60 [] (Vld.fit n h 61 (by lia)) (by rw [List.drop_zero,List.append_nil,<- hx];rfl) (fun c z=>by cases z) hs
 rw [e,Nat.zero_add,<- hx]
 rfl
theorem wv {bk:Bk} (hok:BookOk bk) {x:Str} {t:Bt} {e r:Nat} (h:rdg bk x.cps.toList 61 0 60=some (t,e,r)) (he:x.cps.toList.length<=e):(∃ s,Vld bk 61 t s)/\t.sz<=60/\t.wr=x:=by
 obtain ⟨s,hv,hx,hr,he'⟩:=j5 BookOk.hS (fun fr hm fr' hm' e=>by
  have h1:=hok.hF fr hm
  have h2:=hok.hF fr' hm'
  rw [e,h2]at h1
  exact (Option.some.inj h1).symm) hok.hq 61 0 60 t e r h
 refine ⟨⟨s,hv⟩,by lia,eC ?_⟩
 rw [List.drop_zero,List.drop_eq_nil_of_le he,List.append_nil]at hx
 exact hx.symm
theorem scLRight:aI ["book","text","due","found"] ["book","text"] (aj lB):=fsc
theorem qN (F:Fun K "_law_right" "_law_right" lB f fd) (G:Gb mg)
  (GR:FnOk P w K mg base CX0 62 f2 fd2 ["book","text","at","room"] (cU 61)) (bR:Binds K fd2 ["book","text","at","room"] []) (kR:PySem.W.keepIn K (.ref f2)=true) (mR:mg "_law_reading"=some (.ref f2))
  (GT:eA P w K mg base CX0 5 f3 fd3 ["book","text"] nW) (bT:Binds K fd3 ["book","text"] []) (kT:PySem.W.keepIn K (.ref f3)=true) (mT:mg "_law_told"=some (.ref f3))
  (GS:FnOk P w K mg base CX0 122 f4 fd4 ["found","due"] (fY 120)) (bS:Binds K fd4 ["found","due"] []) (kS:PySem.W.keepIn K (.ref f4)=true) (mS:mg "_law_same"=some (.ref f4)):
  eA P w K mg base CX0 123 f fd ["book","text"] gH:=by
 refine F.okT scLRight (fun vs H Q E h=>?_) (fun cdv A outer s H vs Q E hr h=>?_)
 ·obtain ⟨bv,bk,x,rfl,_⟩:=h
  rfl
 obtain ⟨bv,bk,x,rfl,hB,hok,hx,q⟩:=h
 have hxs:x.length<=sizeLine:=Nat.le_of_lt (bz (by lia))
 have hxl:x.cps.toList.length=x.length:=by rw [Str.length,Array.length_toList]
 refine ⟨_,bJ (PS.tk (aq (i:=2) scLRight.nd rfl (Or.inl rfl) (am GR (hr.mono (by lia)) rfl mR kR bR .nil aD (aa (pv 0) (aa (pv 1) (aa ae (aa ae ad)))))))
  (bJ (pE (i:=3) scLRight.nd rfl (Or.inl rfl) (ef GT (hr.mono (by lia)) rfl mT kT bT .nil aD (PA.tk (aa (pv 0) (aa (pv 1) ad)))))
  (PSs.tk (af (a7 (PW.pt (fQ (aA gi (pv 2) bA (aE _)) (ft (aA gX (au (r:=aV K) ax (pv 2) ae (fun _ _=>rfl)) (ao cS rfl G.len PySem.boot_len (aa (pv 1) ad)) (aE _)))))
    (ak (aF (cG (wG hr.units0) (pv 3) (aZ (aa aN (aa j8 ad))) (aE _)))) aH)
   (ak (aF (gh (cG bV (au (r:=aV K) ax (pv 3) ae (fun _ _=>rfl)) aN (aE _))
    (gf (am GS hr rfl mS kS bS .nil aD (aa (au (r:=aV K) ax (pv 3) ae (fun _ _=>rfl)) (aa (au (r:=aV K) ax (pv 2) ae (fun _ _=>rfl)) ad)))))))))),?_⟩
 refine ⟨_,rfl,_,rfl,bv,bk,x,0,60,0,60,rfl,rfl,rfl,hB,hok,hx,Nat.zero_le _,by decide,fun hn H1 s1=>?_,fun t e r hs p v ei ri H1 he hrr s1 gp hv=>?_⟩
 ·refine ⟨_,rfl,_,rfl,bv,bk,x,rfl,hB.mono (aG s1),hok,hx,fun t s v c H2 hv hsz hw _ _ _=>?_,fun hw c H2 s2 gc=>?_⟩
  ·rw [oi hok hv hsz hw]at hn
   cases hn
  ·refine ⟨_,rfl,rfl,_,rfl,?_⟩
   refine cF (cF ?_)
   refine ⟨_,rfl,(by show 2<=sizeLine;decide),fun d hd=>?_⟩
   have s3:=ag hd (.tup [.str "refused",.bl true])
   exact ⟨c,d,"refused",.bl true,rfl,rfl,s3 _ _ gc,ac,.inr ⟨_,rfl⟩,q _ (s1.trans (s2.trans s3))⟩
 ·rcases Nat.lt_or_ge e x.length with hlt | hge
  ·refine ⟨_,rfl,_,rfl,bv,bk,x,rfl,hB.mono (aG s1),hok,hx,fun t' s v c H2 hv hsz hw _ _ _=>?_,fun hw c H2 s2 gc=>?_⟩
   ·rw [oi hok hv hsz hw]at hs
    have:=congrArg (fun z:Bt×Nat×Nat=>z.2.1) (Option.some.inj hs)
    have:x.cps.toList.length=e:=this
    lia
   ·refine ⟨_,rfl,rfl,_,rfl,?_⟩
    refine cy ?_
    refine ⟨_,rfl,p,_,1,_,rfl,rfl,SqT.of (s2 _ _ gp),ay (j:=1) rfl,_,rfl,x,rfl,hxs,_,_,rfl,rfl,_,rfl,?_⟩
    refine bE (fun _=>?_) (fun c=>absurd (decide_eq_true (by lia)) c)
    refine ⟨_,rfl,(by show 2<=sizeLine;decide),fun d hd=>?_⟩
    have s3:=ag hd (.tup [.str "refused",.bl true])
    exact ⟨c,d,"refused",.bl true,rfl,rfl,s3 _ _ gc,ac,.inr ⟨_,rfl⟩,q _ (s1.trans (s2.trans s3))⟩
  ·obtain ⟨⟨s0,hv0⟩,hsz0,hw0⟩:=wv hok hs (by lia)
   refine ⟨_,rfl,_,rfl,bv,bk,x,rfl,hB.mono (aG s1),hok,hx,fun t' s v' c H2 hv' hsz hw s2 gc hR=>?_,fun hw c H2 s2 gc=>absurd hw0 (hw _ t s0 hv0 hsz0)⟩
   rw [oi hok hv' hsz hw]at hs
   have et:t'=t:=congrArg (fun z:Bt×Nat×Nat=>z.1) (Option.some.inj hs)
   subst et
   refine ⟨_,rfl,rfl,_,rfl,?_⟩
   refine cy ?_
   refine ⟨_,rfl,p,_,1,_,rfl,rfl,SqT.of (s2 _ _ gp),ay (j:=1) rfl,_,rfl,x,rfl,hxs,_,_,rfl,rfl,_,rfl,?_⟩
   refine bE (fun c=>absurd (of_decide_eq_true c) (by lia)) (fun _=>?_)
   refine ⟨_,rfl,c,_,0,.str "told",rfl,rfl,SqT.of gc,cT,rfl,true,rfl,?_⟩
   refine cF ?_
   refine ⟨_,rfl,c,_,1,v',rfl,rfl,SqT.of gc,ay (j:=1) rfl,_,rfl,p,_,0,v,rfl,rfl,SqT.of (s2 _ _ gp),cT,v',v,rfl,?_,fun H3 s3=>q _ (s1.trans (s2.trans s3))⟩
   exact RepT.sameV (n:=60) (RepT.le hR hsz) (RepT.le (RepT.mono (aG s2) (show RepT H1 t'.sz t' v from hv)) hsz) hsz (Vld.words hok hv')
inductive mr (K:PySem.W.Frag) (vs:List V) (H:Hp) (Q:VK) (E_:XK):Prop
 | mk: ∀ (a:Addr) (ns:List Int),(vs=[.ref a])->(SqL K H a (ns.map V.int))->(ns.length<=63)->(∀ H',Q (.bl true) H')->mr K vs H Q E_
theorem Same.lst {K:PySem.W.Frag} {H H':Hp} {a:Addr} {xs:List V} (s:Same H H') (h:SqL K H a xs):SqL K H' a xs:=SqL.keep h fun o e=>s _ _ e
theorem pQ {H H':Hp} {tp:Addr} {o:HO} (h:H tp=none) (k:Kp tp (upd H tp o) H'):Same H H':=fun b u e=>k b u (by rw [al (ah e h)];exact e) (ah e h)
theorem sG {d:Int} (h0:0<=d) (h1:d<3): ∃ r:Nat,atI [V.int 8,.int 8,.int 75] d=some (.int ((r:Nat):Int))/\r<=75:=by
 have:d=0\/d=1\/d=2:=by lia
 rcases this with rfl | rfl | rfl
 ·exact ⟨8,rfl,by lia⟩
 ·exact ⟨8,rfl,by lia⟩
 ·exact ⟨75,rfl,by lia⟩
theorem vB (z:Str):(Txt.slice z none (some 1500)).length<=1500:=by
 rcases PyProof.Rows.slice_ns_cases z 1500 (by decide)with ⟨_,h⟩ | ⟨h,e⟩
 ·lia
 ·have:=Txt.slice_le z none (some 1500)
  lia
theorem BookOk.turned {b:Bk} (h:BookOk b):BookOk ⟨b.wheel,b.sorts,b.forms.reverse⟩:=by
 refine ⟨h.so,h.wh,?_,?_,?_,fun fr hf=>h.wd fr (List.mem_reverse.mp hf),?_,?_⟩
 ·show b.forms.reverse.length<=10
  rw [List.length_reverse];exact h.few
 ·show b.sorts.length<=b.forms.reverse.length
  rw [List.length_reverse];exact h.more
 ·show (b.forms.reverse.map Frm.name).Nodup
  rw [List.map_reverse]
  exact List.pairwise_reverse.mpr (List.Pairwise.imp (fun h=>Ne.symm h) h.nd)
 ·obtain ⟨mode,hm,hf⟩:=h.fo
  exact ⟨mode,hm,fun fr hfr=>hf fr (List.mem_reverse.mp hfr)⟩
 ·obtain ⟨fr,hf,hn⟩:=h.nil
  exact ⟨fr,List.mem_reverse.mpr hf,hn⟩
theorem oH (x y z:V): ¬ (HT.sIx [x,y,z].length 0 none=0/\HT.sIx [x,y,z].length [x,y,z].length (some 2)=[x,y,z].length):=by
 rintro ⟨_,h⟩
 have h2:HT.sIx 3 3 (some 2)=3:=h
 exact absurd h2 (by decide)
theorem yC (x y z:V):gn [x,y,z] none (some 2)=[x,y]:=rfl
noncomputable abbrev xf:List Str:=["script","book","start","room","text","j"]
theorem scLaw:aI xf ["script"] (aj lu):=fsc
theorem tZ {cdv:Value} {A:Around} {outer:List Env} {s:Shared} {H0:Hp} {E:XK} (G:Gb mg)
  (GC:FnOk P w K mg base CX0 1 f2 fd2 ["script","k"] (iZ K)) (bC:Binds K fd2 ["script","k"] []) (kC:PySem.W.keepIn K (.ref f2)=true) (mC:mg "_law_cell_at"=some (.ref f2))
  (GT:FnOk P w K mg base CX0 2 f3 fd3 ["script","k"] (ig K)) (bT:Binds K fd3 ["script","k"] []) (kT:PySem.W.keepIn K (.ref f3)=true) (mT:mg "_law_tape"=some (.ref f3))
  (GI:eA P w K mg base CX0 123 f4 fd4 ["book","text"] gH) (bI:Binds K fd4 ["book","text"] []) (kI:PySem.W.keepIn K (.ref f4)=true) (mI:mg "_law_right"=some (.ref f4))
  (GG:FnOk P w K mg base CX0 123 f5 fd5 ["tape","book","room"] (iQ 120)) (bG:Binds K fd5 ["tape","book","room"] []) (kG:PySem.W.keepIn K (.ref f5)=true) (mG:mg "_law_grown_tree"=some (.ref f5))
  (GW:FnOk P w K mg base CX0 121 f6 fd6 ["tree"] (cJ 120)) (bW:Binds K fd6 ["tree"] []) (kW:PySem.W.keepIn K (.ref f6)=true) (mW:mg "_law_written_tree"=some (.ref f6))
  (GN:FnOk P w K mg base CX0 2 f7 fd7 ["tape","book","text"] lj) (bN:Binds K fd7 ["tape","book","text"] []) (kN:PySem.W.keepIn K (.ref f7)=true) (mN:mg "_law_bent"=some (.ref f7))
  (hr:Room 124 (cY CX0 P w K mg base xf "law" (aj lu) f cdv A outer s H0 E).nox.A):
  ∃ t,PSst (cY CX0 P w K mg base xf "law" (aj lu) f cdv A outer s H0 E).nox ((cz lu).drop 2) t/\
   ∀ (D:eR) (a:Addr) (ns:List Int) (bv:V) (bk:Bk) (H:Hp),SqL K H a (ns.map V.int)->ns.length<=63->RepB H bk bv->BookOk bk->(∀ H',D.rt (.bl true) H')->t D [some (.ref a),some bv,none,none,none,none] H:=by
 have hr1:=hr.mono (show 1<=124 by decide)
 have hr2:=hr.mono (show 2<=124 by decide)
 have hr121:=hr.mono (show 121<=124 by decide)
 have hr123:=hr.mono (show 123<=124 by decide)
 refine ⟨_,bJ (pF PassesOwn.never rfl (qH rfl G.range (aa ae (aa (ao (iA rfl) rfl G.max (by decide +kernel) (aa ae (aa (ao (iz rfl) rfl G.min (by decide +kernel) (aa ae (aa (ao (r:=cA K) aw rfl G.len PySem.boot_len (aa (pv 0) ad)) ad))) ad))) (aa ae ad)))) (aS (i:=2) scLaw.nd rfl (Or.inl rfl))
   (bJ (PS.tk (aq (i:=3) scLaw.nd rfl (Or.inl rfl) (au (r:=cD K) aW (bh (aa ae (aa ae (aa ae ad)))) (ar cv (ar gY (am GC hr1 rfl mC kC bC .nil aD (aa (pv 0) (aa (pv 2) ad))) ae) ae) (fun _ _=>rfl))))
   (bJ (PS.tk (aq (i:=4) scLaw.nd rfl (Or.inl rfl) (am GW hr121 rfl mW kW bW .nil aD (aa (am GG hr123 rfl mG kG bG .nil aD (aa (am GT hr2 rfl mT kT bT .nil aD (aa (pv 0) (aa (pv 2) ad))) (aa (pv 1) (aa (pv 3) ad)))) ad))))
   (bJ (sQ (pD (pC (ef GI hr123 rfl mI kI bI .nil aD (PA.tk (aa (pv 1) (aa (pv 4) ad)))))) (PSs.tk j7) (PSs.tk aH))
   (je (pF PassesOwn.never rfl (bp rfl G.range (aa ae ad)) (aS (i:=5) scLaw.nd rfl (Or.inl rfl))
    (bJ (PS.tk (aq (i:=4) scLaw.nd rfl (Or.inl rfl) (aP cq (am GN hr2 rfl mN kN bN .nil aD (aa (am GT hr2 rfl mT kT bT .nil aD (aa (pv 0) (aa (ar aU (ar aU (pv 2) ae) (pv 5)) ad))) (aa (pv 1) (aa (pv 4) ad)))) a9 (aQ ae))))
    (je (sQ (pD (pC (ef GI hr123 rfl mI kI bI .nil aD (PA.tk (aa (pv 1) (aa (pv 4) ad)))))) (PSs.tk j7) (PSs.tk aH))))))))))
  (je (uX (u0 (ef GI hr123 rfl mI kI bI .nil aD (PA.tk (aa (pv 1) (aa aN ad))))
   (uZ (ef GI hr123 rfl mI kI bI .nil aD (PA.tk (aa (pv 1) (aa (ar jm aN ae) ad)))))))),?_⟩
 intro D a ns bv bk H hS hlen hB hok q
 have hll:(ns.map V.int).length=ns.length:=List.length_map _
 refine ⟨_,rfl,a,_,rfl,.inl hS,31,_,rfl,12,_,rfl,11,_,4,rfl,?_,?_⟩
 ·rw [hll]
  refine ⟨by decide,by decide,?_,?_,by decide,by decide⟩ <;> split <;> split <;> lia
 rw [hll]
 have hb:Builtin.Range.rangeSize 11 (if (if (ns.length:Int) <31 then (ns.length:Int)else 31) >12 then (if (ns.length:Int) <31 then (ns.length:Int)else 31)else 12) 4<=5:=by
  unfold Builtin.Range.rangeSize
  rw [if_pos (by decide)]
  split <;> (try split) <;> (try split) <;> lia
 refine ug (fun i σ H'=> ∃ o2 o3 o4 o5,σ=[some (.ref a),some bv,o2,o3,o4,o5]/\Same H H') ⟨none,none,none,none,rfl,Same.refl H⟩ ?_ ?_
 ·rintro i x σ H2 hi rfl ⟨o2,o3,o4,o5,rfl,s2⟩
  have hi5:(i:Int) <5:=by lia
  refine ⟨(by show 3<=sizeLine;decide),fun pr hpr=>?_⟩
  have s3:=ag hpr (.lst [.int 8,.int 8,.int 75])
  have g3:(upd H2 pr (.lst [.int 8,.int 8,.int 75])) pr=some (.lst [.int 8,.int 8,.int 75]):=ac
  generalize upd H2 pr (.lst [.int 8,.int 8,.int 75])=H3 at s3 g3 ⊢
  have S3:=s2.trans s3
  refine ⟨_,rfl,_,rfl,a,ns,_,rfl,Same.lst S3 hS,hlen,by lia,fun c=>?_⟩
  refine ⟨_,_,rfl,rfl,⟨by decide,by decide⟩,_,_,rfl,rfl,(by show (0:Int) <3;decide),?_⟩
  try rw [show ((fun (i j:Int)=>V.int (i%j)) (c/7) 3)=V.int (c/7%3)from rfl]
  obtain ⟨r,er,hr75⟩:=sG (d:=c/7%3) (Int.emod_nonneg _ (by decide)) (Int.emod_lt_of_pos _ (by decide))
  refine ⟨pr,_,_,_,rfl,rfl,SqL.of g3,er,?_⟩
  refine ⟨_,rfl,_,rfl,a,ns,_,rfl,Same.lst S3 hS,hlen,by lia,by lia,fun tp t0 htp=>?_⟩
  have s4:=ag htp (.lst [.int t0])
  have tt4:Tp (upd H3 tp (.lst [.int t0])) tp:=⟨t0,ac⟩
  refine ⟨_,rfl,_,rfl,tp,bv,bk,r,rfl,hB.mono (aG (S3.trans s4)),hok,tt4,by lia,by decide,fun v t sr H5 hT _ hTr hsz _ k5 _=>?_⟩
  have S5:=S3.trans (pQ htp k5)
  have hw:=hTr.words hok
  have hwl:=rL t.sz t (Nat.le_refl _) hw
  refine ⟨t,v,rfl,hT,by lia,hw,fun H6 s6=>?_⟩
  have S6:=S5.trans s6
  refine ⟨_,rfl,_,rfl,bv,bk,t.wr,rfl,hB.mono (aG S6),hok,by lia,fun H7 s7=>⟨true,rfl,cy ?_⟩⟩
  have S7:=S6.trans s7
  refine ⟨3,rfl,by decide,by decide,?_⟩
  refine cL (n:=3) (fun j σ H'=> ∃ o5 y,σ=[some (.ref a),some bv,some (.int (11+ (i:Int) *4)),some (.int ((r:Nat):Int)),some (.str y),o5]/\Same H H'/\y.length<=1600) ⟨o5,t.wr,rfl,S7,by lia⟩ ?_ ?_
  ·rintro j σ H8 hj ⟨o5',y,rfl,S8,hy⟩
   refine ⟨_,rfl,_,rfl,_,_,rfl,rfl,_,rfl,_,_,rfl,rfl,a,ns,_,rfl,Same.lst S8 hS,hlen,by lia,by lia,fun tp2 t2 htp2=>?_⟩
   have s9:=ag htp2 (.lst [.int t2])
   have tt9:Tp (upd H8 tp2 (.lst [.int t2])) tp2:=⟨t2,ac⟩
   refine ⟨_,rfl,_,rfl,tp2,bv,bk,y,rfl,tt9,hB.mono (aG (S8.trans s9)),hok,hy,fun z H10 hz k10 _=>?_⟩
   have S10:=S8.trans (pQ htp2 k10)
   refine ⟨_,rfl,z,rfl,Nat.le_of_lt (bz (by lia)),?_⟩
   have hcz:=vB z
   refine ⟨_,rfl,_,rfl,bv,bk,_,rfl,hB.mono (aG S10),hok,by lia,fun H11 s11=>⟨true,rfl,cy ?_⟩⟩
   exact ⟨_,_,rfl,S10.trans s11,by lia⟩
  ·rintro σ H8 ⟨o5',y,rfl,S8,hy⟩
   exact ⟨_,_,_,_,rfl,S8⟩
 ·rintro σ H2 ⟨o2,o3,o4,o5,rfl,s2⟩
  have l0:("":Str).length=0:=by decide +kernel
  have l1:("(":Str).length=1:=by decide +kernel
  refine ⟨_,rfl,bv,bk,"",rfl,hB.mono (aG s2),hok,by lia,fun H3 s3=>⟨true,rfl,cF ?_⟩⟩
  refine ⟨_,rfl,"(",500,rfl,rfl,by decide,by decide,by lia,fun u hu hu2=>?_⟩
  refine ⟨bv,bk,u,rfl,hB.mono (aG (s2.trans s3)),hok,?_,fun H4 s4=>q H4⟩
  rw [l1]at hu2
  have:(500:Int).toNat=500:=rfl
  lia
theorem wI (F:Fun K "law" "law" lu f fd) (G:Gb mg)
  (GB:FnOk P w K mg base CX0 6 g gd ["script","start","few"] (nZ K)) (bB:Binds K gd ["script","start","few"] []) (kB:PySem.W.keepIn K (.ref g)=true) (mB:mg "_law_book"=some (.ref g))
  (GC:FnOk P w K mg base CX0 1 f2 fd2 ["script","k"] (iZ K)) (bC:Binds K fd2 ["script","k"] []) (kC:PySem.W.keepIn K (.ref f2)=true) (mC:mg "_law_cell_at"=some (.ref f2))
  (GT:FnOk P w K mg base CX0 2 f3 fd3 ["script","k"] (ig K)) (bT:Binds K fd3 ["script","k"] []) (kT:PySem.W.keepIn K (.ref f3)=true) (mT:mg "_law_tape"=some (.ref f3))
  (GI:eA P w K mg base CX0 123 f4 fd4 ["book","text"] gH) (bI:Binds K fd4 ["book","text"] []) (kI:PySem.W.keepIn K (.ref f4)=true) (mI:mg "_law_right"=some (.ref f4))
  (GG:FnOk P w K mg base CX0 123 f5 fd5 ["tape","book","room"] (iQ 120)) (bG:Binds K fd5 ["tape","book","room"] []) (kG:PySem.W.keepIn K (.ref f5)=true) (mG:mg "_law_grown_tree"=some (.ref f5))
  (GW:FnOk P w K mg base CX0 121 f6 fd6 ["tree"] (cJ 120)) (bW:Binds K fd6 ["tree"] []) (kW:PySem.W.keepIn K (.ref f6)=true) (mW:mg "_law_written_tree"=some (.ref f6))
  (GN:FnOk P w K mg base CX0 2 f7 fd7 ["tape","book","text"] lj) (bN:Binds K fd7 ["tape","book","text"] []) (kN:PySem.W.keepIn K (.ref f7)=true) (mN:mg "_law_bent"=some (.ref f7)):
  FnOk P w K mg base CX0 125 f fd ["script"] (mr K):=by
 refine F.ok scLaw (fun vs H Q E h=>?_) (fun cdv A outer s H vs Q E hr h=>?_)
 ·obtain ⟨a,ns,rfl,_⟩:=h
  rfl
 obtain ⟨a,ns,rfl,hS,hlen,q⟩:=h
 have hr1:=hr.mono (show 1<=124 by decide)
 have hr6:=hr.mono (show 6<=124 by decide)
 obtain ⟨t,ht,hq⟩:=tZ (f:=f) (cdv:=cdv) (A:=A) (outer:=outer) (s:=s) (H0:=H) (E:=E) G GC bC kC mC GT bT kT mT GI bI kI mI GG bG kG mG GW bW kW mW GN bN kN mN hr
 refine ⟨_,sM (i:=1) scLaw.nd rfl (Or.inl rfl) GB hr6 rfl mB kB bB aD (pv 0) (aa j8 ad)
  (bJ (PS.tk (a7 (lK (tm (ar cv (ar gY (am GC hr1 rfl mC kC bC .nil aD (aa (pv 0) (aa ae ad))) ae) ae) ae))
   (ak (aq (i:=1) scLaw.nd rfl (Or.inl rfl) (ar mK (aP wo (pv 1) a9 (aQ ae)) (aZ (aa (sZ (au (r:=aV K) ax (pv 1) ae (fun _ _=>rfl)) (pH kM ae)) ad))))) aH))
   ht),?_⟩
 refine ⟨_,rfl,a,ns,0,false,rfl,hS,hlen,by decide,by decide,fun bv bk H1 hB hok s1=>?_⟩
 refine ⟨_,rfl,a,ns,11,rfl,Same.lst s1 hS,hlen,by decide,fun c=>?_⟩
 refine ⟨_,_,rfl,rfl,⟨by decide,by decide⟩,_,_,rfl,rfl,(by show (0:Int) <2;decide),_,_,rfl,rfl,_,rfl,?_⟩
 refine bE (fun _=>?_) (fun _=>hq _ a ns bv bk H1 (Same.lst s1 hS) hlen hB hok q)
 obtain ⟨b,sa,fa,fv,rfl,hb,hsa,hfa,hF⟩:=hB
 refine ⟨_,rfl,2,rfl,b,_,rfl,SqT.of hb,oH _ _ _,fun p2 hp2=>?_⟩
 rw [yC]
 have s2:=ag hp2 (.tup [.int bk.wheel,.ref sa])
 have g2:(upd H1 p2 (.tup [.int bk.wheel,.ref sa])) p2=some (.tup [.int bk.wheel,.ref sa]):=ac
 generalize upd H1 p2 (.tup [.int bk.wheel,.ref sa])=H2 at s2 g2 ⊢
 refine ⟨_,rfl,b,_,2,.ref fa,rfl,rfl,SqT.of (s2 _ _ hb),ay (j:=2) rfl,_,rfl,fa,fv,rfl,rfl,SqT.of (s2 _ _ hfa),fun p3 hp3=>?_⟩
 have s3:=ag hp3 (.tup fv.reverse)
 have g3:(upd H2 p3 (.tup fv.reverse)) p3=some (.tup fv.reverse):=ac
 generalize upd H2 p3 (.tup fv.reverse)=H3 at s3 g3 ⊢
 refine ⟨(by show 1<=sizeLine;decide),fun p4 hp4=>?_⟩
 have s4:=ag hp4 (.tup [.ref p3])
 have g4:(upd H3 p4 (.tup [.ref p3])) p4=some (.tup [.ref p3]):=ac
 generalize upd H3 p4 (.tup [.ref p3])=H4 at s4 g4 ⊢
 refine ⟨p2,p4,_,_,rfl,rfl,SqT.of (s4 _ _ (s3 _ _ g2)),SqT.of g4,(by show 3<=sizeLine;decide),fun e=>(by cases e),fun _ e=>(by cases e),fun _ _ p5 hp5=>?_⟩
 have s5:=ag hp5 (.tup ([.int bk.wheel,.ref sa]++[.ref p3]))
 have S5:Same H1 (upd H4 p5 (.tup ([.int bk.wheel,.ref sa]++[.ref p3]))):=s2.trans (s3.trans (s4.trans s5))
 refine hq _ a ns (.ref p5) ⟨bk.wheel,bk.sorts,bk.forms.reverse⟩ _ (Same.lst (s1.trans S5) hS) hlen ⟨p5,sa,p3,fv.reverse,rfl,ac,hsa.mono (aG S5),s5 _ _ (s4 _ _ g3),dy (hF.mono (aG S5))⟩ hok.turned q
theorem jw {K:PySem.W.Frag} {C:Addr} {b:Value} {r:Bool} (h:PySem.W.mroIn K C b=some r):(PySem.W.clsIn K C).isSome=true:=by
 unfold PySem.W.mroIn at h
 cases e:PySem.W.clsIn K C with
 | none=>rw [e]at h;cases h
 | some c=>rfl
theorem eP {α:Type} {l:List α} (h:l.length=1): ∃ a,l=[a]:=by
 match l,h with
 | [a],_=>exact ⟨a,rfl⟩
theorem cI {α:Type} {l:List α} (h:l.length=2): ∃ a b,l=[a,b]:=by
 match l,h with
 | [a,b],_=>exact ⟨a,b,rfl⟩
theorem lV {α:Type} {l:List α} (h:l.length=3): ∃ a b c,l=[a,b,c]:=by
 match l,h with
 | [a,b,c],_=>exact ⟨a,b,c,rfl⟩
theorem w8 {α:Type} {l:List α} (h:l.length=4): ∃ a b c d,l=[a,b,c,d]:=by
 match l,h with
 | [a,b,c,d],_=>exact ⟨a,b,c,d,rfl⟩
theorem uB {α:Type} {l:List α} (h:l.length=5): ∃ a b c d e,l=[a,b,c,d,e]:=by
 match l,h with
 | [a,b,c,d,e],_=>exact ⟨a,b,c,d,e,rfl⟩
theorem w6 {α:Type} {l:List α} (h:l.length=6): ∃ a b c d e f,l=[a,b,c,d,e,f]:=by
 match l,h with
 | [a,b,c,d,e,f],_=>exact ⟨a,b,c,d,e,f,rfl⟩
/-- what is told of a def -/
structure Df (K:PySem.W.Frag) (nm:Str) (st:Stmt) (f:Addr) (fd:FuncData):Prop where
 a:PySem.W.nsIn K mainGlobals nm=some (some (.ref f))
 k:PySem.W.keepIn K (.ref f)=true
 F:Fun K nm nm st f fd
theorem Df.m {K:PySem.W.Frag} {nm:Str} {st:Stmt} {f:Addr} {fd:FuncData} {h:Heap} {mg:Str->Option Value} (d:Df K nm st f fd) (X:K.In h) (G:h.Ns mainGlobals mg):mg nm=some (.ref f):=PySem.W.mg_of X G d.a
theorem Df.of {K:PySem.W.Frag} {nm:Str} {st:Stmt} {f:Addr} {oc:Value} {od an:Option Addr} {osl:Array (Option Value)} {kV doc pm cdv ct:Value} (a:PySem.W.nsIn K mainGlobals nm=some (some (.ref f))) (k:PySem.W.keepIn K (.ref f)=true)
  (l:K.lookup f=some ⟨oc,od,.func (PySem.W.fnOf nm nm (h8 st) (cz st) (aj st) .none kV doc pm an cdv ct),osl⟩) (c:PySem.W.codeIn K cdv nm=true):Df K nm st f (PySem.W.fnOf nm nm (h8 st) (cz st) (aj st) .none kV doc pm an cdv ct):=
 ⟨a,k,⟨⟨oc,od,kV,doc,pm,an,cdv,ct,osl,rfl,l,c⟩,k⟩⟩
theorem all_mk {l:PySem.W.OpenLaw} {w:World} {K:PySem.W.Frag} {h:Heap} {mg:Str->Option Value} {fa C CB f1 f2 f3 f4 f5 f6 f7 f8 f9 f10 f11 f12 f13 f14 f15 f16 f17 f18 f19 f20 f21 f22 f23 f24 f25 f26 f27 f28 f29 f30 f31 f32 f33 D0 D1 D2 D3 D4 D5 D6 D7 D8 D9 D10 D11 D12 D13 D14 D15 D16:Addr} {r1 r2 r3 r4 r5 r6 r7 r8 r9 r10 r11 r12 r13 r14 r15 r16 r17 r18 r19 r20 r21 r22 r23 r24 r25 r26 r27 r28 r29 r30 r31 r32 r33:FuncData} {tM:Tok} (X:K.In h) (G:h.Ns mainGlobals mg) (hfa:mg "law"=some (.ref fa))
  (d1:Df K "forms_of" i9 f1 r1)
  (d2:Df K "sort_of_form" fj f2 r2)
  (d3:Df K "parts_of" i7 f3 r3)
  (d4:Df K "is_tree" lC f4 r4)
  (d5:Df K "form_of_head" lD f5 r5)
  (d6:Df K "boughs_by_place" gK f6 r6)
  (d7:Df K "show_tree" pj f7 r7)
  (d8:Df K "read_tree" sA f8 r8)
  (d9:Df K "tree_of_names" fk f9 r9)
  (d10:Df K "_law_cell_at" sC f10 r10)
  (d11:Df K "_law_tape" sy f11 r11)
  (d12:Df K "_law_digit" oh f12 r12)
  (d13:Df K "_law_names" fq f13 r13)
  (d14:Df K "_law_number" ls f14 r14)
  (d15:Df K "_law_leaf" sB f15 r15)
  (d16:Df K "_law_formula" ee f16 r16)
  (d17:Df K "_law_sorts" oa f17 r17)
  (d18:Df K "_law_targets" fi f18 r18)
  (d19:Df K "_law_readings" du f19 r19)
  (d20:Df K "_law_form" og f20 r20)
  (d21:Df K "_law_book" eV f21 r21)
  (d22:Df K "_law_least" i8 f22 r22)
  (d23:Df K "_law_tree" i6 f23 r23)
  (d24:Df K "_law_whole" lA f24 r24)
  (d25:Df K "_law_same" mw f25 r25)
  (d26:Df K "_law_form_of" lG f26 r26)
  (d27:Df K "_law_grown_tree" lE f27 r27)
  (d28:Df K "_law_written_tree" fh f28 r28)
  (d29:Df K "_law_bent" sD f29 r29)
  (d30:Df K "_law_reading" gJ f30 r30)
  (d31:Df K "_law_told" sw f31 r31)
  (d32:Df K "_law_right" lB f32 r32)
  (d33:Df K "law" lu f33 r33)
  (z1:PySem.W.nsIn K mainGlobals "isinstance"=some none)
  (z2:PySem.W.nsIn K mainGlobals "int"=some none)
  (z3:PySem.W.nsIn K mainGlobals "bool"=some none)
  (z4:PySem.W.nsIn K mainGlobals "str"=some none)
  (z5:PySem.W.nsIn K mainGlobals "tuple"=some none)
  (z6:PySem.W.nsIn K mainGlobals "len"=some none)
  (z7:PySem.W.nsIn K mainGlobals "all"=some none)
  (z8:PySem.W.nsIn K mainGlobals "range"=some none)
  (z9:PySem.W.nsIn K mainGlobals "max"=some none)
  (z10:PySem.W.nsIn K mainGlobals "min"=some none)
  (z11:PySem.W.nsIn K mainGlobals "list"=some none)
  (z12:PySem.W.nsIn K mainGlobals "zip"=some none)
  (z13:PySem.W.nsIn K mainGlobals "sum"=some none)
  (z14:PySem.W.nsIn K mainGlobals "enumerate"=some none)
  (z15:PySem.W.nsIn K mainGlobals "reversed"=some none)
  (z16:PySem.W.nsIn K mainGlobals "ValueError"=some none)
  (aM:PySem.W.nsIn K mainGlobals "MOST_PLACES"=some (some (.int 60 tM)))
  (aC:PySem.W.nsIn K mainGlobals "NoText"=some (some (.ref C))) (aB:PySem.W.nsIn K mainGlobals "BoughError"=some (some (.ref CB)))
  (c0:PySem.W.nsIn K mainGlobals "NoBook"=some (some (.ref D0)))
  (c1:PySem.W.nsIn K mainGlobals "NoBuild"=some (some (.ref D1)))
  (c2:PySem.W.nsIn K mainGlobals "NoChange"=some (some (.ref D2)))
  (c3:PySem.W.nsIn K mainGlobals "NoFit"=some (some (.ref D3)))
  (c4:PySem.W.nsIn K mainGlobals "NoGiven"=some (some (.ref D4)))
  (c5:PySem.W.nsIn K mainGlobals "NoName"=some (some (.ref D5)))
  (c6:PySem.W.nsIn K mainGlobals "NoPlace"=some (some (.ref D6)))
  (c7:PySem.W.nsIn K mainGlobals "NoPlain"=some (some (.ref D7)))
  (c8:PySem.W.nsIn K mainGlobals "NoPrice"=some (some (.ref D8)))
  (c9:PySem.W.nsIn K mainGlobals "NoRow"=some (some (.ref D9)))
  (c10:PySem.W.nsIn K mainGlobals "NoSpot"=some (some (.ref D10)))
  (c11:PySem.W.nsIn K mainGlobals "NoTree"=some (some (.ref D11)))
  (c12:PySem.W.nsIn K mainGlobals "NoWorth"=some (some (.ref D12)))
  (c13:PySem.W.nsIn K mainGlobals "Ring"=some (some (.ref D13)))
  (c14:PySem.W.nsIn K mainGlobals "Tangled"=some (some (.ref D14)))
  (c15:PySem.W.nsIn K mainGlobals "TooGreat"=some (some (.ref D15)))
  (c16:PySem.W.nsIn K mainGlobals "TooMany"=some (some (.ref D16)))
  (x1:PySem.W.excIn K C [.type "ValueError",.type "Exception",.type "BaseException",.type "object"] "ValueError.__new__"=true)
  (x2:PySem.W.findIn K (.ref C) "__getattribute__"=some (some (.builtin "BaseException.__getattribute__"))) (x3:PySem.W.findIn K (.ref C) "__getattr__"=some none) (x4:PySem.W.findIn K (.ref C) "__class__"=some (some (.builtin "object.__class__")))
  (x5:PySem.W.specialIn K (.builtin "object.__class__") "__get__"=some (some (.builtin "getset_descriptor.__get__"))) (x6:PySem.W.takesIn K (.builtin "object.__class__")=some true)
  (x7:PySem.W.mroIn K C (.type "object")=some true) (x8:PySem.W.mroIn K C (.type "BaseException")=some true) (x9:PySem.W.mroIn K C (.ref CB)=some true) (x10:PySem.W.mroIn K CB (.type "BaseException")=some true) (x11:PySem.W.typeIn K (.ref CB)=some (.type "type"))
  (x12:PySem.W.kitAny K (.ref C) [.ref D0,.ref D1,.ref D2,.ref D3,.ref D4,.ref D5,.ref D6,.ref D7,.ref D8,.ref D9,.ref D10,.ref D11,.ref D12,.ref D13,.ref D14,.ref D15,.ref D16]=some false) (x13:PySem.W.kitOne K (.ref C) (.type "ValueError")=some true):
  ∃ fd:FuncData,(∀ (s:Shared) (v:Value),BindsTo s fd ⟨[v],[]⟩ [("script",v)])/\ ∀ base:Heap,K.In base->base.Ns mainGlobals mg->FnOk l.prog w K mg base CX0 125 fa fd ["script"] (mr K):=by
 have e:=hfa.symm.trans (d33.m X G)
 cases e
 have b1:=d1.F.binds (ps:=["book"]) fun _ _ _ _ _ _ us hl=>by obtain ⟨x,rfl⟩:=eP hl;rfl
 have m1:=d1.m X G
 have b2:=d2.F.binds (ps:=["form"]) fun _ _ _ _ _ _ us hl=>by obtain ⟨x,rfl⟩:=eP hl;rfl
 have m2:=d2.m X G
 have b3:=d3.F.binds (ps:=["form"]) fun _ _ _ _ _ _ us hl=>by obtain ⟨x,rfl⟩:=eP hl;rfl
 have m3:=d3.m X G
 have b4:=d4.F.binds (ps:=["book","thing"]) fun _ _ _ _ _ _ us hl=>by obtain ⟨x,y,rfl⟩:=cI hl;rfl
 have m4:=d4.m X G
 have b5:=d5.F.binds (ps:=["book","thing"]) fun _ _ _ _ _ _ us hl=>by obtain ⟨x,y,rfl⟩:=cI hl;rfl
 have m5:=d5.m X G
 have b6:=d6.F.binds (ps:=["tree"]) fun _ _ _ _ _ _ us hl=>by obtain ⟨x,rfl⟩:=eP hl;rfl
 have m6:=d6.m X G
 have b7:=d7.F.binds (ps:=["tree"]) fun _ _ _ _ _ _ us hl=>by obtain ⟨x,rfl⟩:=eP hl;rfl
 have m7:=d7.m X G
 have b8:=d8.F.binds (ps:=["book","text"]) fun _ _ _ _ _ _ us hl=>by obtain ⟨x,y,rfl⟩:=cI hl;rfl
 have m8:=d8.m X G
 have b9:=d9.F.binds (ps:=["book","names"]) fun _ _ _ _ _ _ us hl=>by obtain ⟨x,y,rfl⟩:=cI hl;rfl
 have m9:=d9.m X G
 have b10:=d10.F.binds (ps:=["script","k"]) fun _ _ _ _ _ _ us hl=>by obtain ⟨x,y,rfl⟩:=cI hl;rfl
 have m10:=d10.m X G
 have b11:=d11.F.binds (ps:=["script","k"]) fun _ _ _ _ _ _ us hl=>by obtain ⟨x,y,rfl⟩:=cI hl;rfl
 have m11:=d11.m X G
 have b12:=d12.F.binds (ps:=["tape","many"]) fun _ _ _ _ _ _ us hl=>by obtain ⟨x,y,rfl⟩:=cI hl;rfl
 have m12:=d12.m X G
 have b13:=d13.F.binds (ps:=["tape","many"]) fun _ _ _ _ _ _ us hl=>by obtain ⟨x,y,rfl⟩:=cI hl;rfl
 have m13:=d13.m X G
 have b14:=d14.F.binds (ps:=["tape"]) fun _ _ _ _ _ _ us hl=>by obtain ⟨x,rfl⟩:=eP hl;rfl
 have m14:=d14.m X G
 have b15:=d15.F.binds (ps:=["tape","readings"]) fun _ _ _ _ _ _ us hl=>by obtain ⟨x,y,rfl⟩:=cI hl;rfl
 have m15:=d15.m X G
 have b16:=d16.F.binds (ps:=["tape","readings"]) fun _ _ _ _ _ _ us hl=>by obtain ⟨x,y,rfl⟩:=cI hl;rfl
 have m16:=d16.m X G
 have b17:=d17.F.binds (ps:=["tape","few"]) fun _ _ _ _ _ _ us hl=>by obtain ⟨x,y,rfl⟩:=cI hl;rfl
 have m17:=d17.m X G
 have b18:=d18.F.binds (ps:=["sorts","own","parts"]) fun _ _ _ _ _ _ us hl=>by obtain ⟨x,y,z,rfl⟩:=lV hl;rfl
 have m18:=d18.m X G
 have b19:=d19.F.binds (ps:=["sorts","own","parts","mode","j"]) fun _ _ _ _ _ _ us hl=>by obtain ⟨x,y,z,u,v,rfl⟩:=uB hl;rfl
 have m19:=d19.m X G
 have b20:=d20.F.binds (ps:=["tape","sorts","name","own","parts","mode"]) fun _ _ _ _ _ _ us hl=>by obtain ⟨x,y,z,u,v,w,rfl⟩:=w6 hl;rfl
 have m20:=d20.m X G
 have b21:=d21.F.binds (ps:=["script","start","few"]) fun _ _ _ _ _ _ us hl=>by obtain ⟨x,y,z,rfl⟩:=lV hl;rfl
 have m21:=d21.m X G
 have b22:=d22.F.binds (ps:=["book"]) fun _ _ _ _ _ _ us hl=>by obtain ⟨x,rfl⟩:=eP hl;rfl
 have m22:=d22.m X G
 have b23:=d23.F.binds (ps:=["tape","book","least","sort","room"]) fun _ _ _ _ _ _ us hl=>by obtain ⟨x,y,z,u,v,rfl⟩:=uB hl;rfl
 have m23:=d23.m X G
 have b24:=d24.F.binds (ps:=["found"]) fun _ _ _ _ _ _ us hl=>by obtain ⟨x,rfl⟩:=eP hl;rfl
 have m24:=d24.m X G
 have b25:=d25.F.binds (ps:=["found","due"]) fun _ _ _ _ _ _ us hl=>by obtain ⟨x,y,rfl⟩:=cI hl;rfl
 have m25:=d25.m X G
 have b26:=d26.F.binds (ps:=["book","name"]) fun _ _ _ _ _ _ us hl=>by obtain ⟨x,y,rfl⟩:=cI hl;rfl
 have m26:=d26.m X G
 have b27:=d27.F.binds (ps:=["tape","book","room"]) fun _ _ _ _ _ _ us hl=>by obtain ⟨x,y,z,rfl⟩:=lV hl;rfl
 have m27:=d27.m X G
 have b28:=d28.F.binds (ps:=["tree"]) fun _ _ _ _ _ _ us hl=>by obtain ⟨x,rfl⟩:=eP hl;rfl
 have m28:=d28.m X G
 have b29:=d29.F.binds (ps:=["tape","book","text"]) fun _ _ _ _ _ _ us hl=>by obtain ⟨x,y,z,rfl⟩:=lV hl;rfl
 have m29:=d29.m X G
 have b30:=d30.F.binds (ps:=["book","text","at","room"]) fun _ _ _ _ _ _ us hl=>by obtain ⟨x,y,z,u,rfl⟩:=w8 hl;rfl
 have m30:=d30.m X G
 have b31:=d31.F.binds (ps:=["book","text"]) fun _ _ _ _ _ _ us hl=>by obtain ⟨x,y,rfl⟩:=cI hl;rfl
 have m31:=d31.m X G
 have b32:=d32.F.binds (ps:=["book","text"]) fun _ _ _ _ _ _ us hl=>by obtain ⟨x,y,rfl⟩:=cI hl;rfl
 have m32:=d32.m X G
 have Gb0:Gb mg:=⟨PySem.W.mg_none_of X G z1,PySem.W.mg_none_of X G z2,PySem.W.mg_none_of X G z3,PySem.W.mg_none_of X G z4,PySem.W.mg_none_of X G z5,PySem.W.mg_none_of X G z6,PySem.W.mg_none_of X G z7,PySem.W.mg_none_of X G z8,PySem.W.mg_none_of X G z9,PySem.W.mg_none_of X G z10⟩
 have v11:=PySem.W.mg_none_of X G z11
 have v12:=PySem.W.mg_none_of X G z12
 have v13:=PySem.W.mg_none_of X G z13
 have v14:=PySem.W.mg_none_of X G z14
 have v15:=PySem.W.mg_none_of X G z15
 have v16:=PySem.W.mg_none_of X G z16
 have mM:=PySem.W.mg_of X G aM
 have cl:yh K mg C CB D0 D1 D2 D3 D4 D5 D6 D7 D8 D9 D10 D11 D12 D13 D14 D15 D16:=⟨PySem.W.mg_of X G c0,PySem.W.mg_of X G c1,PySem.W.mg_of X G c2,PySem.W.mg_of X G c3,PySem.W.mg_of X G c4,PySem.W.mg_of X G c5,PySem.W.mg_of X G c6,PySem.W.mg_of X G c7,PySem.W.mg_of X G c8,PySem.W.mg_of X G c9,PySem.W.mg_of X G c10,PySem.W.mg_of X G c11,PySem.W.mg_of X G c12,PySem.W.mg_of X G c13,PySem.W.mg_of X G c14,PySem.W.mg_of X G c15,PySem.W.mg_of X G c16,PySem.W.mg_of X G aC,PySem.W.mg_of X G aB,v16,⟨x2,x3,x4,x5,x6,x7,x8,jw x7⟩,⟨x9,x10,x11,jw x10⟩,x12,(by unfold PySem.W.kitOne;rw [if_pos (beq_self_eq_true _)]),x13⟩
 have F33:=d33.F
 obtain ⟨_,_,kV,dc,pm,an,cd,ct,_,rfl,_,_⟩:=d33.F.ex
 refine ⟨PySem.W.fnOf "law" "law" (h8 lu) (cz lu) (aj lu) .none kV dc pm an cd ct,fun s v=>.of_eq rfl,fun base _ _=>?_⟩
 have g_forms:=oF (P:=l.prog) (w:=w) (mg:=mg) (base:=base) d1.F
 have g_sortf:=jP (P:=l.prog) (w:=w) (mg:=mg) (base:=base) d2.F
 have g_parts:=oD (P:=l.prog) (w:=w) (mg:=mg) (base:=base) d3.F
 have g_head:=qP d5.F Gb0 g_forms b1 d1.k m1 g_parts b3 d3.k m3
 have g_isT:=qO (M:=3998) d4.F Gb0 v11 v12 mM g_head b5 d5.k m5 g_sortf b2 d2.k m2 g_parts b3 d3.k m3
 have g_byp:=oG (P:=l.prog) (w:=w) (mg:=mg) (base:=base) d6.F v14
 have g_show:=u7 d7.F v11 v15 g_byp b6 d6.k m6
 have g_ofn:=oE d9.F Gb0 v15 g_forms b1 d1.k m1 g_parts b3 d3.k m3
 have g_read:=u8 d8.F cl.c x1 PySem.F.excBase_ValueError g_ofn b9 d9.k m9 g_isT b4 d4.k m4 g_show b7 d7.k m7
 have g_cell:=u9 (P:=l.prog) (w:=w) (base:=base) d10.F Gb0
 have g_tape:=u6 d11.F g_cell b10 d10.k m10
 have g_digit:=tN (P:=l.prog) (w:=w) (mg:=mg) (base:=base) d12.F
 have g_names:=qL d13.F Gb0 g_digit b12 d12.k m12
 have g_number:=qK d14.F g_digit b12 d12.k m12
 have g_formula:=fun ρ=>mX (ρ:=ρ) d16.F Gb0 g_digit b12 d12.k m12 (tK (ρ:=ρ) d15.F Gb0 g_digit b12 d12.k m12 g_number b14 d14.k m14) b15 d15.k m15
 have g_sorts:=tE d17.F Gb0 g_digit b12 d12.k m12 g_names b13 d13.k m13
 have g_targets:=oC (P:=l.prog) (w:=w) (mg:=mg) (base:=base) d18.F Gb0
 have g_lread:=lN d19.F Gb0 g_targets b18 d18.k m18
 have g_lform:=tH d20.F Gb0 g_targets b18 d18.k m18 g_lread b19 d19.k m19 g_formula b16 d16.k m16
 have g_book:=va d21.F Gb0 g_digit b12 d12.k m12 g_lform b20 d20.k m20 g_tape b11 d11.k m11 g_sorts b17 d17.k m17 g_names b13 d13.k m13
 have g_least:=tJ (P:=l.prog) (w:=w) (mg:=mg) (base:=base) d22.F Gb0 v13
 have g_tree:=pK d23.F Gb0 v13 g_digit b12 d12.k m12 b23 m23 120
 have g_whole:=qM (P:=l.prog) (w:=w) (mg:=mg) (base:=base) d24.F Gb0
 have g_same:=pL d25.F Gb0 v11 v12 b25 m25 g_whole b24 d24.k m24 120
 have g_formOf:=qQ (P:=l.prog) (w:=w) (mg:=mg) (base:=base) d26.F
 have g_grown:=tL (n:=120) d27.F Gb0 g_digit b12 d12.k m12 g_least b22 d22.k m22 g_tree b23 d23.k m23
 have g_written:=jo (P:=l.prog) (w:=w) (mg:=mg) (base:=base) d28.F b28 m28 120
 have g_bent:=vb d29.F Gb0 g_digit b12 d12.k m12
 have g_reading:=jp d30.F Gb0 g_formOf b26 d26.k m26 b30 m30 61
 have g_told:=u5 d31.F Gb0.isi cl g_read b8 d8.k m8
 have g_right:=qN d32.F Gb0 g_reading b30 d30.k m30 g_told b31 d31.k m31 g_same b25 d25.k m25
 exact wI F33 Gb0 g_book b21 d21.k m21 g_cell b10 d10.k m10 g_tape b11 d11.k m11 g_right b32 d32.k m32 g_grown b27 d27.k m27 g_written b28 d28.k m28 g_bent b29 d29.k m29
theorem walk {l:PySem.W.OpenLaw} {q:Program} {loose:List Str} {XP:(Str->Option Value)->Heap->Prop} {YP:World->Heap->Prop} {d:DefRec} {K:Params->PySem.W.Frag} (hn:l.most=some 63) (hdf:d.params.defaults=[])
  (hY: ∀ (w:World) (h:Heap),YP w h->(K w.params).In h)
  (F: ∀ (w:World) (mg:Str->Option Value) (fa:Addr) (h:Heap),(K w.params).In h->h.Ns mainGlobals mg->mg d.name=some (.ref fa)->
   ∃ fd:FuncData,(∀ (s:Shared) (u:Value),BindsTo s fd ⟨[u],[]⟩ [("script",u)])/\ ∀ base:Heap,(K w.params).In base->base.Ns mainGlobals mg->FnOk l.prog w (K w.params) mg base CX0 125 fa fd ["script"] (mr (K w.params))):
  PySem.W.WalkO q loose XP YP l.row.toRowW d [] (fun f vs=>PySem.call f vs):=
 L2.walk_of (n:=63) (k:=125) (x:="script") (CX:=fun _=>CX0) (sp:=fun w=>mr (K w.params)) hn (by decide) hdf ⟨rfl,by decide,by decide⟩ hY F (fun _ _ a ns hl _ hS=>⟨a,ns,rfl,hS,hl,fun _=>rfl⟩) fun _ _ _ _ _ z=>z
end My
open PySem PySem.W PyProof.Rows
set_option maxRecDepth 100000 in
set_option maxHeartbeats 0 in
theorem PySem.Challenge.cw_boughworth_k19_texts_of_no_tree_holds : PySem.Challenge.rw_boughworth_k19_texts_of_no_tree.Holds := by
 refine My.parts.c My.parts.a My.parts.g My.parts.b ?_
 delta My.parts
 dsimp only
 k_fill
 refine My.walk (l:=PySem.Challenge.rw_boughworth_k19_texts_of_no_tree) rfl rfl (fun w h Y=>PySem.W.kIn_of Y) ?F
 case F=>
  intro w mg fa h KX G hmg
  refine' My.all_mk KX G hmg ?d1 ?d2 ?d3 ?d4 ?d5 ?d6 ?d7 ?d8 ?d9 ?d10 ?d11 ?d12 ?d13 ?d14 ?d15 ?d16 ?d17 ?d18 ?d19 ?d20 ?d21 ?d22 ?d23 ?d24 ?d25 ?d26 ?d27 ?d28 ?d29 ?d30 ?d31 ?d32 ?d33 ?z1 ?z2 ?z3 ?z4 ?z5 ?z6 ?z7 ?z8 ?z9 ?z10 ?z11 ?z12 ?z13 ?z14 ?z15 ?z16 ?aM ?aC ?aB ?c0 ?c1 ?c2 ?c3 ?c4 ?c5 ?c6 ?c7 ?c8 ?c9 ?c10 ?c11 ?c12 ?c13 ?c14 ?c15 ?c16 ?x1 ?x2 ?x3 ?x4 ?x5 ?x6 ?x7 ?x8 ?x9 ?x10 ?x11 ?x12 ?x13
  (case d1=>exact My.Df.of (by k_is) (by k_is) (by k_is) (by k_is))
  (case d2=>exact My.Df.of (by k_is) (by k_is) (by k_is) (by k_is))
  (case d3=>exact My.Df.of (by k_is) (by k_is) (by k_is) (by k_is))
  (case d4=>exact My.Df.of (by k_is) (by k_is) (by k_is) (by k_is))
  (case d5=>exact My.Df.of (by k_is) (by k_is) (by k_is) (by k_is))
  (case d6=>exact My.Df.of (by k_is) (by k_is) (by k_is) (by k_is))
  (case d7=>exact My.Df.of (by k_is) (by k_is) (by k_is) (by k_is))
  (case d8=>exact My.Df.of (by k_is) (by k_is) (by k_is) (by k_is))
  (case d9=>exact My.Df.of (by k_is) (by k_is) (by k_is) (by k_is))
  (case d10=>exact My.Df.of (by k_is) (by k_is) (by k_is) (by k_is))
  (case d11=>exact My.Df.of (by k_is) (by k_is) (by k_is) (by k_is))
  (case d12=>exact My.Df.of (by k_is) (by k_is) (by k_is) (by k_is))
  (case d13=>exact My.Df.of (by k_is) (by k_is) (by k_is) (by k_is))
  (case d14=>exact My.Df.of (by k_is) (by k_is) (by k_is) (by k_is))
  (case d15=>exact My.Df.of (by k_is) (by k_is) (by k_is) (by k_is))
  (case d16=>exact My.Df.of (by k_is) (by k_is) (by k_is) (by k_is))
  (case d17=>exact My.Df.of (by k_is) (by k_is) (by k_is) (by k_is))
  (case d18=>exact My.Df.of (by k_is) (by k_is) (by k_is) (by k_is))
  (case d19=>exact My.Df.of (by k_is) (by k_is) (by k_is) (by k_is))
  (case d20=>exact My.Df.of (by k_is) (by k_is) (by k_is) (by k_is))
  (case d21=>exact My.Df.of (by k_is) (by k_is) (by k_is) (by k_is))
  (case d22=>exact My.Df.of (by k_is) (by k_is) (by k_is) (by k_is))
  (case d23=>exact My.Df.of (by k_is) (by k_is) (by k_is) (by k_is))
  (case d24=>exact My.Df.of (by k_is) (by k_is) (by k_is) (by k_is))
  (case d25=>exact My.Df.of (by k_is) (by k_is) (by k_is) (by k_is))
  (case d26=>exact My.Df.of (by k_is) (by k_is) (by k_is) (by k_is))
  (case d27=>exact My.Df.of (by k_is) (by k_is) (by k_is) (by k_is))
  (case d28=>exact My.Df.of (by k_is) (by k_is) (by k_is) (by k_is))
  (case d29=>exact My.Df.of (by k_is) (by k_is) (by k_is) (by k_is))
  (case d30=>exact My.Df.of (by k_is) (by k_is) (by k_is) (by k_is))
  (case d31=>exact My.Df.of (by k_is) (by k_is) (by k_is) (by k_is))
  (case d32=>exact My.Df.of (by k_is) (by k_is) (by k_is) (by k_is))
  (case d33=>exact My.Df.of (by k_is) (by k_is) (by k_is) (by k_is))
  (case z1=>k_is)
  (case z2=>k_is)
  (case z3=>k_is)
  (case z4=>k_is)
  (case z5=>k_is)
  (case z6=>k_is)
  (case z7=>k_is)
  (case z8=>k_is)
  (case z9=>k_is)
  (case z10=>k_is)
  (case z11=>k_is)
  (case z12=>k_is)
  (case z13=>k_is)
  (case z14=>k_is)
  (case z15=>k_is)
  (case z16=>k_is)
  (case aM=>k_is)
  (case aC=>k_is)
  (case aB=>k_is)
  (case c0=>k_is)
  (case c1=>k_is)
  (case c2=>k_is)
  (case c3=>k_is)
  (case c4=>k_is)
  (case c5=>k_is)
  (case c6=>k_is)
  (case c7=>k_is)
  (case c8=>k_is)
  (case c9=>k_is)
  (case c10=>k_is)
  (case c11=>k_is)
  (case c12=>k_is)
  (case c13=>k_is)
  (case c14=>k_is)
  (case c15=>k_is)
  (case c16=>k_is)
  (case x1=>k_exc)
  (case x2=>k_is)
  (case x3=>k_is)
  (case x4=>k_is)
  (case x5=>k_is)
  (case x6=>k_is)
  (case x7=>k_is)
  (case x8=>k_is)
  (case x9=>k_is)
  (case x10=>k_is)
  (case x11=>k_is)
  (case x12=>kit_is)
  (case x13=>kit_is)
