import PyProof.Rows.All
import Wide.All
import OpenK.AllK
import Wide.FinOn
import Lean
import PyProof.EqAt
import PyProof.EqKinds
import PyProof.TupleCall
import PyProof.SumWalk
import KE.KDictList
import PyProof.NeKinds
import PyProof.Draws
import PyProof.ZipIter
import KE.KLam
import PyProof.ListMulRoad
import KE.RegKIsAll
import OpenK.KOwn
import PyProof.EnumMake
import PyProof.Rows.StrNews
import PyProof.StrCalls6
import PyProof.ToksMono
import PyProof.StrLawsReplace
import PyProof.StrLawsJoin
import PyProof.Rows.StrSplitJoin
import PyProof.DictValues
import PyProof.DictWalks
import KE.KRevIter
import PyProof.DictItems
import KE.KPairComp
import KE.KIntText
import KE.IntTextText
import PyProof.Rows.StrLawsPart
import PyProof.MeetsStr
import PyProof.StrCalls
import PySem.Challenge.RW_boughworth_k04_formulas_written
set_option Elab.async false
set_option linter.all false
set_option bootstrap.genMatcherCode false
set_option compiler.extract_closed false
set_option genSizeOfSpec false
set_option maxRecDepth 100000
set_option maxHeartbeats 4000000
namespace My
open PySem PySem.W PySem.Calls PyProof.Rows
theorem with_hl {P R Q:Prop} (hl:P) (hc:R) (main:Q):Q:=main
structure Parts (Q:Prop):Type where
 {P1:Prop}
 {P2:Prop}
 {P3:Prop}
 {P4:Prop}
 {P5:Prop}
 {P6:Prop}
 {W:Prop}
 a0:P1
 a1:P2
 e0:P3
 e1:P4
 b0:P5
 b1:P6
 c:P1->P2->P3->P4->P5->P6->W->Q
noncomputable def vY (_:Params):Obj:={cls:=Value.type "tuple",data:=Data.seq #[]}
noncomputable def vX (_:Params):Obj:={cls:=Value.none,data:=Data.fields #[]}
noncomputable def vW (_:Params):Obj:={cls:=Value.type "code",data:=Data.fields #[Value.str (Str.ofString "<module>") 182,Value.str (Str.ofString "<module>") 183,Value.str (Str.ofString "/claim/cut.py") 184,Value.int 1 0,Value.int 0 0,Value.int 0 0,Value.int 0 0,Value.int 0 0,Value.ref 11,Value.bool false,Value.int 181 0,Value.ref 12,Value.none,Value.none,Value.none,Value.none,Value.int 185 0,Value.int 1 0,Value.str (Str.ofString "/claim/cut.py") 186]}
noncomputable def vV (_:Params):Obj:={cls:=Value.type "frame",slots:= #[some (Value.ref 13),some (Value.ref 3),some (Value.ref 3),none,some (Value.str (Str.ofString "__main__") 164),none,some (Value.ref 0)]}
noncomputable def vh (P:Params):BT:=(BT.node (boot_o_0 P) (BT.node (boot_o_1 P) (BT.node (boot_o_3 P) (BT.node (boot_o_7 P) BT.nil BT.nil) (BT.node (vY P) BT.nil BT.nil)) (BT.node (boot_o_5 P) (BT.node (boot_o_9 P) BT.nil BT.nil) (BT.node (vW P) BT.nil BT.nil))) (BT.node (boot_o_2 P) (BT.node (boot_o_4 P) (BT.node (boot_o_8 P) BT.nil BT.nil) (BT.node (vX P) BT.nil BT.nil)) (BT.node (boot_o_6 P) (BT.node (boot_o_10 P) BT.nil BT.nil) (BT.node (vV P) BT.nil BT.nil))))
noncomputable def ui (p:Program):Env:={scope:=p.main.scope,locals:=mainNs,globals:=mainNs,cells:=[],code:=.ref 13,frame:=some 14}
noncomputable abbrev hC (p:Program):Code:=.body (behindTheImports p) (ui p)
noncomputable def hSt (w:World) (os:OsState):SharedT:=⟨vh w.params,15,{},#[],{},187,os⟩
abbrev jI:Pos:=⟨0,0,0,0⟩
noncomputable abbrev vi (p:Program):Thread:=piecesOf (behindTheImports p) (ui p) (hC p) jI [topFrame jI]
noncomputable abbrev qt (p:Program) (n:Nat) (w:World) (os:OsState):Option (Flow×SharedT×Code×Pos):=PySem.W.Fast.tw10110043849684766642 PySem.W.Fast.tw14364793385576792824 p w 11 (some (.ref 6)) 1 n (hSt w os) (vi p)
theorem vZ {p:Program} {w:World} {n₀:Nat} {ann:Option Value} (s:Shared) (c:Code) (pos:Pos):topRun treeTable p w n₀ ann 2 s ⟨doneF .next,c,pos,[topFrame jI]⟩=some s:=by
 obtain ⟨h,g,d,t,o⟩:=s
 kernel_rfl
theorem vj (P:Params):((boot_heap P).isNs mainGlobals&&(#[]:Array GenState).size==0,(boot_heap P).objs.size,(boot_heap P).nsMap mainGlobals "__annotations__")=(true,11,some (.ref 6)):=by kernel_rfl
theorem left_of {p q:Program} {loose:List Str} {Xt:Shared->Bool} {α:Type} {Yf:Shared->α} {Ya:World->α} {N n:Nat} {g0:Bool} {posE:Pos}
  (e:opening p=plainProg p.main.scope.names) (hN:Nat.ble 600 N=true) (f: ∀ s,fenceModules? p s=some s) (le:Nat.ble (12+ (1+ (n+2))) N=true)
  (pre: ∀ (w:World) (os:OsState),topGo treeTable p w 11 (some (.ref 6)) 12 ⟨boot_heap w.params,#[],boot_drawn,boot_toks,os⟩ (topStub p)=some ((hSt w os).abs,⟨denote treeTable (hC p),hC p,jI,[topFrame jI]⟩))
  (block: ∀ (w:World) (os:OsState),segRun treeTable p w 11 (some (.ref 6)) 1 1 (hSt w os).abs (blockOf (behindTheImports p) (ui p) (hC p) jI [topFrame jI])=some (.next,(hSt w os).abs,hC p,jI))
  (runA: ∀ (w:World) (os:OsState),(qt p n w os).map (fun r=>(r.1,r.2.2,(staticsOk (importedModules p.main.body) (boot_heap w.params) r.2.1.abs.heap&&namesBound p r.2.1.abs.heap&&gensDone r.2.1.abs&&laidKept (boot_heap w.params) r.2.1.abs.heap),(openSeen q loose (importedModules p.main.body) Xt g0 r.2.1.abs).1,Yf r.2.1.abs))=some (.next,(hC p,posE),true,(openGood q loose).1,Ya w))
  (runE: ∀ (w:World) (os:OsState),(qt p n w os).map (fun r=>((openSeen q loose (importedModules p.main.body) Xt g0 r.2.1.abs).2.1,(openSeen q loose (importedModules p.main.body) Xt g0 r.2.1.abs).2.2.1))=some ((openGood q loose).2.1,(openGood q loose).2.2.1))
  (runB: ∀ (w:World) (os:OsState),(qt p n w os).map (fun r=>(openSeen q loose (importedModules p.main.body) Xt g0 r.2.1.abs).2.2.2)=some (openGood q loose).2.2.2):LeftO p q loose Xt Yf Ya N g0:=by
 intro w
 obtain ⟨⟨h,gs,d,k,os⟩,e1,e'⟩:=Option.map_eq_some_iff.mp (boot_open e hN f w)
 obtain ⟨rfl,rfl,rfl,rfl⟩:h=boot_heap w.params/\gs= #[]/\d=boot_drawn/\k=boot_toks:=by simpa using e'
 obtain ⟨z1,z2,z3⟩:_/\_/\_:=by simpa only [Prod.mk.injEq]using vj w.params
 have E:segRunT treeTable p w 11 (some (.ref 6)) 1 n (hSt w os) (vi p)=qt p n w os:=by
  unfold qt
  rw [<- PySem.W.Fast.te10110043849684766642,<- PySem.W.Fast.te14364793385576792824]
 have A:=runA w os
 have B:=runB w os
 have E2:=runE w os
 obtain ⟨⟨fl,x,c,pos⟩,r1,r2⟩:=Option.map_eq_some_iff.mp A
 simp only [Prod.mk.injEq]at r2
 obtain ⟨rfl,⟨rfl,rfl⟩,l1,l2a,yb⟩:=r2
 have l2e:((openSeen q loose (importedModules p.main.body) Xt g0 x.abs).2.1,(openSeen q loose (importedModules p.main.body) Xt g0 x.abs).2.2.1)=((openGood q loose).2.1,(openGood q loose).2.2.1):=by rw [r1]at E2;exact Option.some.inj E2
 have l2d:(openSeen q loose (importedModules p.main.body) Xt g0 x.abs).2.2.2=(openGood q loose).2.2.2:=by rw [r1]at B;exact Option.some.inj B
 have l2:openSeen q loose (importedModules p.main.body) Xt g0 x.abs=openGood q loose:=Prod.ext l2a (Prod.ext (Prod.mk.inj l2e).1 (Prod.ext (Prod.mk.inj l2e).2 l2d))
 have s1:=segRun_of (E.trans r1)
 have t1:=piece_app (rest:=[]) s1 (piece_nil (vZ x.abs _ _))
 rw [List.append_nil]at t1
 have t3:=go_top (pre w os) (piece_block (block w os) t1)
 have r:=topRun_mono (N- (12+ (1+ (n+2)))) _ _ _ _ t3
 rw [show 12+ (1+ (n+2)) + (N- (12+ (1+ (n+2))))=N by have:=Nat.le_of_ble_eq_true le;omega]at r
 have t:topFrom treeTable p w N ⟨boot_heap w.params,#[],boot_drawn,boot_toks,os⟩=some x.abs:=by
  unfold topFrom
  dsimp only
  rw [z1,z2,z3,r]
  show (match staticsOk _ _ _&&namesBound _ _&&gensDone _&&laidKept _ _ with | true=>_ | false=>_)=_
  rw [l1]
 unfold openEnds
 rw [e1]
 change Option.map _ (topFrom treeTable p w N _)=_
 rw [t]
 exact congrArg some (Prod.ext l2 yb)
end My
open PySem PySem.W PyProof.Rows in
set_option maxHeartbeats 0 in
noncomputable def My.parts:My.Parts PySem.Challenge.rw_boughworth_k04_formulas_written.Holds:=by
 apply My.Parts.mk
 case c=>
  intro ha0 ha1 he0 he1 hb0 hb1 hW
  w_on;o_law
  apply My.with_hl
  case main=>
   k_head;(case hw=>w_witness2)
  case hc=>exact hW
  case hl=>
   refine My.left_of (n:=1650) (posE:=⟨208,0,218,15⟩) ?e ?hN ?f ?le ?pre ?block (byRow2 "special-get-raises" ha0 ha1) (byRow2 "special-get-raises" he0 he1) (byRow2 "special-get-raises" hb0 hb1)
   case e=>kernel_rfl
   case hN=>decide
   case f=>intro s;kernel_rfl
   case le=>decide
   case pre=>(intro w os;kernel_rfl)
   case block=>(intro w os;kernel_rfl)
 case a0=>(intro w os;kernel_rfl)
 case a1=>(intro w os;kernel_rfl)
 case e0=>(intro w os;kernel_rfl)
 case e1=>(intro w os;kernel_rfl)
 case b0=>(intro w os;kernel_rfl)
 case b1=>(intro w os;kernel_rfl)
namespace L2
open PySem PySem.Spec PyProof.Rows
noncomputable abbrev Key:=Sum Int Str
noncomputable def hX:Key->Value->Bool
 | .inl k,v=>Value.isInt k v
 | .inr x,v=>Value.isStrOf x v
noncomputable def vQ (w:World):Key->Int
 | .inl k=>hashInt k
 | .inr x=>hashStr w x
theorem bc: ∀ {k:Key} {v:Value},hX k v=true->(∃ i t,k=Sum.inl i/\v=Value.int i t)\/(∃ x t,k=Sum.inr x/\v=Value.str x t)
 | .inl i,v,h=>by
  obtain ⟨t,e⟩:=Value.isInt_shape (k:=i) (v:=v) h
  exact .inl ⟨i,t,rfl,e⟩
 | .inr x,v,h=>by
  obtain ⟨t,e⟩:=Value.isStrOf_shape (x:=x) (v:=v) h
  exact .inr ⟨x,t,rfl,e⟩
theorem nJ (i:Int) (t:Tok):hX (.inl i) (.int i t)=true:=by simp [hX,Value.isInt]
theorem aw (x:Str) (t:Tok):hX (.inr x) (.str x t)=true:=by simp [hX,Value.isStrOf]
theorem ue (a b:Int):decide ((Sum.inl a:Key)=Sum.inl b)=(a==b):=by
 by_cases e:a=b
 ·subst e;simp
 ·have h: ¬ (Sum.inl a:Key)=Sum.inl b:=fun q=>e (Sum.inl.inj q)
  rw [decide_eq_false h]
  exact (beq_eq_false_iff_ne.mpr e).symm
theorem ub (a b:Str):decide ((Sum.inr a:Key)=Sum.inr b)=decide (a=b):=by
 by_cases e:a=b
 ·subst e;simp
 ·have h: ¬ (Sum.inr a:Key)=Sum.inr b:=fun q=>e (Sum.inr.inj q)
  rw [decide_eq_false h,decide_eq_false e]
theorem ud (a:Int) (b:Str):decide ((Sum.inl a:Key)=Sum.inr b)=false:=decide_eq_false (fun q=>nomatch q)
theorem uc (a:Str) (b:Int):decide ((Sum.inr a:Key)=Sum.inl b)=false:=decide_eq_false (fun q=>nomatch q)
noncomputable def bf (prog:Program) (w:World):PySem.KeyKind prog w Key where
 is:=hX
 hash:=vQ w
 inj:=fun v a b ha hb=>by
  rcases bc ha with ⟨i,t,rfl,rfl⟩ | ⟨x,t,rfl,rfl⟩
  ·rcases bc hb with ⟨j,u,rfl,e⟩ | ⟨y,u,rfl,e⟩
   ·injection e with e1 _;rw [e1]
   ·exact nomatch e
  ·rcases bc hb with ⟨j,u,rfl,e⟩ | ⟨y,u,rfl,e⟩
   ·exact nomatch e
   ·injection e with e1 _;rw [e1]
 byValue:=fun k v h=>by
  rcases bc h with ⟨i,t,rfl,rfl⟩ | ⟨x,t,rfl,rfl⟩ <;> rfl
 pyHash:=fun hv h=>by
  rcases bc hv with ⟨i,t,rfl,rfl⟩ | ⟨x,t,rfl,rfl⟩
  ·exact wpAny_pyHash_int h
  ·exact wpAny_pyHash_str h
 eqBool:=fun hu hv h=>by
  rcases bc hu with ⟨i,t,rfl,rfl⟩ | ⟨x,t,rfl,rfl⟩
  ·rcases bc hv with ⟨j,u,rfl,rfl⟩ | ⟨y,u,rfl,rfl⟩
   ·rw [ue]at h;exact wpAny_eqBool_int h
   ·rw [ud]at h;exact SeqAt.EqAt.int_str i t y u _ _ _ _ h
  ·rcases bc hv with ⟨j,u,rfl,rfl⟩ | ⟨y,u,rfl,rfl⟩
   ·rw [uc]at h;exact SeqAt.EqAt.str_int x t j u _ _ _ _ h
   ·rw [ub]at h;exact wpAny_eqBool_str h
 «strs» :=fun k x t v h=>by
  rcases bc h with ⟨i,u,rfl,e⟩ | ⟨y,u,rfl,e⟩
  ·exact nomatch e
  ·injection e with e1 _
   subst e1
   cases v <;> rfl
theorem jA (prog:Program) (w:World) (i:Int) (t:Tok):(bf prog w).is (.inl i) (.int i t)=true:=nJ i t
theorem jz (prog:Program) (w:World) (x:Str) (t:Tok):(bf prog w).is (.inr x) (.str x t)=true:=aw x t
inductive V where
 | non | bl (b:Bool) | int (i:Int) | str (x:Str) | byt (b:Array UInt8) | flt (b:UInt64) | ref (a:Addr) | ty (n:String)
 deriving DecidableEq
noncomputable def RelV:V->Value->Prop
 | .non,u=>u=Value.none
 | .bl b,u=>u=Value.bool b
 | .int i,u=> ∃ t,u=Value.int i t
 | .str x,u=> ∃ t,u=Value.str x t
 | .byt b,u=> ∃ t,u=Value.bytes b t
 | .flt b,u=> ∃ t,u=Value.float b t
 | .ref a,u=>u=Value.ref a
 | .ty n,u=>u=Value.type n
noncomputable abbrev Vals:List V->List Value->Prop:=Paired RelV
theorem Vals.length {xs:List V} {us:List Value} (r:Vals xs us):xs.length=us.length:=Paired.length r
theorem Vals.get: ∀ {xs:List V} {us:List Value} {i:Nat} {x:V},Vals xs us->xs[i]? =some x-> ∃ u,us[i]? =some u/\RelV x u
 | _,_,_,_,.nil,e=>by simp at e
 | _,_,0,_,.cons r _,e=>by simp at e;subst e;exact ⟨_,rfl,r⟩
 | _,_,i+1,x,.cons _ t,e=>by
  obtain ⟨u,h1,h2⟩:=Vals.get (i:=i) (x:=x) t (by simpa using e)
  exact ⟨u,by simpa using h1,h2⟩
theorem Vals.set {x:V} {u:Value} (r:RelV x u): ∀ {xs:List V} {us:List Value} (i:Nat),Vals xs us->Vals (xs.set i x) (us.set i u)
 | _,_,_,.nil=>.nil
 | _,_,0,.cons _ t=>.cons r t
 | _,_,i+1,.cons q t=>.cons q (Vals.set r i t)
theorem Vals.append: ∀ {xs ys:List V} {us ws:List Value},Vals xs us->Vals ys ws->Vals (xs++ys) (us++ws)
 | _,_,_,_,.nil,s=>s
 | _,_,_,_,.cons r t,s=>.cons r (Vals.append t s)
theorem Vals.take: ∀ {xs:List V} {us:List Value} (n:Nat),Vals xs us->Vals (xs.take n) (us.take n)
 | _,_,0,_=>.nil
 | _,_,_+1,.nil=>.nil
 | _,_,n+1,.cons r t=>.cons r (Vals.take n t)
theorem Vals.drop: ∀ {xs:List V} {us:List Value} (n:Nat),Vals xs us->Vals (xs.drop n) (us.drop n)
 | _,_,0,r=>r
 | _,_,_+1,.nil=>.nil
 | _,_,n+1,.cons _ t=>Vals.drop n t
theorem Vals.none_of: ∀ {xs:List V} {us:List Value} {i:Nat},Vals xs us->xs[i]? =none->us[i]? =none:=fun {xs us i} r e=>by
 have h1:=r.length
 have h2:xs.length<=i:=List.getElem?_eq_none_iff.mp e
 exact List.getElem?_eq_none_iff.mpr (by omega)
noncomputable def RelO:Option V->Option Value->Prop
 | some v,some u=>RelV v u
 | none,none=>True
 | _,_=>False
noncomputable def KV {κ:Type}:List (κ×V)->List (κ×Value)->Prop:=Paired fun (p:κ×V) (q:κ×Value)=>p.1=q.1/\RelV p.2 q.2
noncomputable def kV:Key->V
 | .inl i=>.int i
 | .inr x=>.str x
inductive HO where
 /-- a list -/
 | lst (xs:List V)
 /-- a tuple (never changes) -/
 | tup (xs:List V)
 /-- a dict whose keys are ints and texts; one whose keys are tuples of ints and texts (the empty one is both) -/
 | dK (kvs:List (Key×V)) | dT (kvs:List (List Key×V))
 /-- a set of ints: its members, its size -/
 | set (S:Int->Bool) (n:Nat)
 /-- an instance of the class at C, its dict at dx, its attributes -/
 | ins (C dx:Addr) (fs:List (Str×V))
 /-- the dict of the instance at x -/
 | own (x:Addr)
 /-- the dict of an exception -/
 | xd (fs:List (Str×V))
 /-- a bound method, f of x -/
 | met (f x:Addr)
 /-- a range object lo, lo + 1, .. below hi -/
 | rng (lo hi:Int)
 /-- a thing that is known to the object (the script; a dict while a loop walks it): read, never written while it is so -/
 | frz (o:Obj) (u:HO)
 /-- a code object's table -/
 | tbl (ps:Array Value)
 /-- any other thing, by what is true of its one object (a def of one's own: SetO a S n := HO.ext fun h => ..) -/
 | ext (φ:Heap->Prop)
noncomputable abbrev Hp:=Addr->Option HO
noncomputable def upd (H:Hp) (a:Addr) (o:HO):Hp:=fun b=>if b=a then some o else H b
theorem ac {H:Hp} {a:Addr} {o:HO}:upd H a o a=some o:=by unfold upd;rw [if_pos rfl]
theorem ah {H:Hp} {a b:Addr} {o:HO} (h:b≠a):upd H a o b=H b:=by unfold upd;rw [if_neg h]
theorem bK {H:Hp} {a:Addr} {o u:HO}:upd (upd H a o) a u=upd H a u:=by
 funext b;unfold upd;split <;> rfl
theorem aj {H:Hp} {a b:Addr} {o:HO} (h:H a=some o) (h':H b=none):a≠b:=by
 intro e;subst e;rw [h]at h';cases h'
section
variable (P:Program) (w:World)
noncomputable def ObjOk (H:Hp) (h:Heap) (a:Addr):HO->Prop
 | .lst xs=>xs.length<=sizeLine/\ ∃ (its:List Value) (n:Nat),Vals xs its/\h.get? a=some {cls:=.type "list",data:=.seq its.toArray n}
 | .tup xs=>xs.length<=sizeLine/\ ∃ its:List Value,Vals xs its/\IsTup h a its.toArray
 | .dK kvs=>kvs.length<=sizeLine/\(a==sysModules)=false/\ ∃ vs,KV kvs vs/\h.DictOf (bf P w) a vs
 | .dT kvs=>kvs.length<=sizeLine/\(a==sysModules)=false/\ ∃ xs:List (List Key×Addr×Value),
   Paired (fun (p:List Key×V) (q:List Key×Addr×Value)=>p.1=q.1/\H q.2.1=some (.tup (p.1.map kV))/\RelV p.2 q.2.2) kvs xs/\
   ∃ o es ep,h.get? a=some o/\o.ExactDict/\o.data=.dict es ep/\es.toList=xs.map (entryOfKey (tupleKind (bf P w)))/\(xs.map (·.1)).Nodup
 | .set S n=>h.SetOf (intKind P w) a S n
 | .ins C dx fs=>H dx=some (.own a)/\fs.length<=1000/\dx≠a/\h.get? a=some (PySem.W.instObj C dx)/\
   ∃ mA,h.Ns1 dx mA/\(∀ f,RelO (fs.lookup f) (mA f))/\PySem.Within mA (fs.map (·.1))
 | .own _=> ∃ o,h.get? a=some o
 | .xd fs=> ∃ mA,h.Ns1 a mA/\ ∀ f,RelO (fs.lookup f) (mA f)
 | .rng lo hi=> ∃ t u v,h.get? a=some {cls:=.type "range",data:=.fields #[.int lo t,.int hi u,.int 1 v]}
 | .frz o u=>h.get? a=some o/\ObjOk H h a u
 | .tbl ps=>h.get? a=some {cls:=.none,data:=.fields ps}
 | .met f x=>h.get? a=some (PySem.W.methodObj (.ref f) (.ref x))
 | .ext φ=>φ h/\(∃ o,h.get? a=some o)/\ ∀ h1 h2:Heap,φ h1->(∀ o,h1.get? a=some o->h2.get? a=some o)->φ h2
noncomputable def HOk (H:Hp) (h:Heap):Prop:= ∀ a o,H a=some o->ObjOk P w H h a o
end
section
variable {P:Program} {w:World} {H H':Hp} {h h':Heap} {a:Addr} {o:HO}
theorem ObjOk.lt (x:ObjOk P w H h a o):a<h.objs.size:=by
 cases o with
 | lst xs=>obtain ⟨_,_,_,_,e⟩:=x;exact Heap.lt_size e
 | tup xs=>obtain ⟨_,_,_,p⟩:=x;exact p.lt
 | dK kvs=>obtain ⟨_,_,_,_,o,_,_,e,_⟩:=x;exact Heap.lt_size e
 | dT kvs=>obtain ⟨_,_,_,_,o,_,_,e,_⟩:=x;exact Heap.lt_size e
 | set S n=>obtain ⟨o,_,_,_,e,_⟩:=x;exact Heap.lt_size e
 | ins C dx fs=>obtain ⟨_,_,_,e,_⟩:=x;exact Heap.lt_size e
 | own y=>obtain ⟨_,e⟩:=x;exact Heap.lt_size e
 | xd fs=>obtain ⟨_,⟨_,_,_,e,_⟩,_⟩:=x;exact Heap.lt_size e
 | rng lo hi=>obtain ⟨_,_,_,e⟩:=x;exact Heap.lt_size e
 | frz ob u=>obtain ⟨e,_⟩:=x;exact Heap.lt_size e
 | tbl ps=>exact Heap.lt_size (show h.get? a=some _ from x)
 | met f y=>exact Heap.lt_size (show h.get? a=some _ from x)
 | ext φ=>obtain ⟨_,⟨_,e⟩,_⟩:=x;exact Heap.lt_size e
theorem Paired.mapP {α β:Type} {F G:α->β->Prop}: ∀ {l₁:List α} {l₂:List β},Paired F l₁ l₂->(∀ a b,F a b->G a b)->Paired G l₁ l₂
 | _,_,.nil,_=>.nil
 | _,_,.cons r t,f=>.cons (f _ _ r) (Paired.mapP t f)
theorem ObjOk.stay (x:ObjOk P w H h a o) (k: ∀ b u,(b=a\/H b=some (.own a))->h.get? b=some u->h'.get? b=some u)
  (ho: ∀ b,H b=some (.own a)->H' b=some (.own a)) (ht: ∀ b xs,H b=some (.tup xs)->H' b=some (.tup xs)):ObjOk P w H' h' a o:=by
 induction o with
 | lst xs=>obtain ⟨z,its,n,r,e⟩:=x;exact ⟨z,its,n,r,k _ _ (.inl rfl) e⟩
 | tup xs=>obtain ⟨z,its,r,ob,e,c⟩:=x;exact ⟨z,its,r,ob,k _ _ (.inl rfl) e,c⟩
 | dK kvs=>obtain ⟨z,y,vs,r,ob,es,ep,e,c⟩:=x;exact ⟨z,y,vs,r,ob,es,ep,k _ _ (.inl rfl) e,c⟩
 | dT kvs=>
  obtain ⟨z,y,xs,r,ob,es,ep,e,c⟩:=x
  exact ⟨z,y,xs,Paired.mapP r fun p q z=>⟨z.1,ht _ _ z.2.1,z.2.2⟩,ob,es,ep,k _ _ (.inl rfl) e,c⟩
 | set S n=>obtain ⟨ob,es,ep,t,e,c⟩:=x;exact ⟨ob,es,ep,t,k _ _ (.inl rfl) e,c⟩
 | ins C dx fs=>
  obtain ⟨d,z,ne,e,mA,⟨od,es,ep,e2,c⟩,r⟩:=x
  exact ⟨ho _ d,z,ne,k _ _ (.inl rfl) e,mA,⟨od,es,ep,k _ _ (.inr d) e2,c⟩,r⟩
 | own y=>obtain ⟨ob,e⟩:=x;exact ⟨ob,k _ _ (.inl rfl) e⟩
 | xd fs=>obtain ⟨mA,⟨od,es,ep,e,c⟩,r⟩:=x;exact ⟨mA,⟨od,es,ep,k _ _ (.inl rfl) e,c⟩,r⟩
 | rng lo hi=>obtain ⟨t,u,v,e⟩:=x;exact ⟨t,u,v,k _ _ (.inl rfl) e⟩
 | frz ob u ih=>obtain ⟨e,q⟩:=x;exact ⟨k _ _ (.inl rfl) e,ih q⟩
 | tbl ps=>
  have e:h.get? a=some {cls:=.none,data:=.fields ps}:=x
  show h'.get? a=some {cls:=.none,data:=.fields ps}
  exact k a _ (.inl rfl) e
 | met f y=>
  have e:h.get? a=some (PySem.W.methodObj (.ref f) (.ref y)):=x
  show h'.get? a=some (PySem.W.methodObj (.ref f) (.ref y))
  exact k a _ (.inl rfl) e
 | ext φ=>obtain ⟨p,⟨o,e⟩,st⟩:=x;exact ⟨st _ _ p fun o q=>k _ _ (.inl rfl) q,⟨o,k _ _ (.inl rfl) e⟩,st⟩
theorem HOk.lt (x:HOk P w H h) (e:H a=some o):a<h.objs.size:=(x a o e).lt
theorem HOk.fresh (x:HOk P w H h) (e:h.objs.size<=a):H a=none:=by
 cases q:H a with
 | none=>rfl
 | some u=>exact absurd (Nat.lt_of_lt_of_le (x.lt q) e) (Nat.lt_irrefl _)
theorem HOk.kept (x:HOk P w H h) (k: ∀ b u,h.get? b=some u->h'.get? b=some u):HOk P w H h':=fun a o e=>
 (x a o e).stay (fun b u _ q=>k b u q) (fun _ q=>q) fun _ _ q=>q
theorem HOk.laid (x:HOk P w H h) (k: ∀ b u,h.get? b=some u->h'.get? b=some u) (hp:h.objs.size<=a) (new:ObjOk P w (upd H a o) h' a o):HOk P w (upd H a o) h':=fun b u e=>by
 have hn:=x.fresh hp
 by_cases hb:b=a
 ·subst hb;rw [ac]at e;cases e;exact new
 ·rw [ah hb]at e
  exact (x b u e).stay (fun c v _ q=>k c v q) (fun c q=>by rw [ah (aj q hn)];exact q) fun c xs q=>by rw [ah (aj q hn)];exact q
end
noncomputable def Rd (H:Hp) (a:Addr) (u:HO):Prop:=H a=some u\/ ∃ o,H a=some (.frz o u)
theorem Rd.ok {P:Program} {w:World} {H:Hp} {h:Heap} {a:Addr} {u:HO} (r:Rd H a u) (x:HOk P w H h):ObjOk P w H h a u:=by
 rcases r with r | ⟨o,r⟩
 ·exact x a u r
 ·obtain ⟨_,q⟩:=x a _ r
  exact q
noncomputable def Mut:Option HO->Prop
 | some (.lst _)=>True
 | some (.dK _)=>True
 | some (.dT _)=>True
 | some (.set _ _)=>True
 | some (.ins _ _ _)=>True
 | some (.ext _)=>True
 | _=>False
section
variable {P:Program} {w:World} {H:Hp} {h h':Heap} {x e:Addr} {o':HO}
theorem HOk.write (ok:HOk P w H h) (mu:Mut (H x)) (he:e=x\/H e=some (.own x)) (k: ∀ b u,b≠e->h.get? b=some u->h'.get? b=some u) (heo: ∃ u,h'.get? e=some u)
  (new:ObjOk P w (upd H x o') h' x o'):HOk P w (upd H x o') h':=fun b u q=>by
 have nown: ∀ c y,H c=some (.own y)->c≠x:=fun c y r z=>by subst z;rw [r]at mu;exact mu
 have ntup: ∀ c xs,H c=some (.tup xs)->c≠x:=fun c xs r z=>by subst z;rw [r]at mu;exact mu
 by_cases hb:b=x
 ·subst hb;rw [ac]at q;cases q;exact new
 ·rw [ah hb]at q
  by_cases hbe:b=e
  ·have q':H b=some (.own x):=by
    rcases he with z | z
    ·exact absurd (hbe.trans z) hb
    ·rw [hbe];exact z
   rw [q]at q';cases q'
   obtain ⟨v,hv⟩:=heo
   exact ⟨v,by rw [hbe];exact hv⟩
  ·refine (ok b u q).stay (fun c v hc r=>k c v ?_ r) (fun c r=>by rw [ah (nown c b r)];exact r) fun c xs r=>by rw [ah (ntup c xs r)];exact r
   rcases hc with rfl | hc
   ·exact hbe
   ·rintro rfl
    rcases he with z | z
    ·exact nown c b hc z
    ·rw [hc]at z;cases z;exact hb rfl
end
structure Un (fs ex:List Addr) (H H':Hp) (h h':Heap):Prop where
 keep: ∀ b o,h.get? b=some o->H b=none->b∉fs->b∉ex->h'.get? b=some o
 slot: ∀ b o,h.get? b=some o->H b=none->b∈fs->b∉ex-> ∃ sl,h'.get? b=some {o with slots:=sl}
 free: ∀ b o,h.get? b=some o->H b=none->b∉ex->H' b=none
 there: ∀ b o,h.get? b=some o->b∉ex-> ∃ o',h'.get? b=some o'
 tups: ∀ b xs,H b=some (.tup xs)->H' b=some (.tup xs)
 frzs: ∀ b o u,H b=some (.frz o u)->H' b=some (.frz o u)
 tbls: ∀ b ps,H b=some (.tbl ps)-> ∃ more,H' b=some (.tbl (ps++more))
section
variable {fs fs' ex ex':List Addr} {H H1 H2:Hp} {h h1 h2 h':Heap} {a x e:Addr} {o:HO}
theorem Un.any (u:Un fs ex H H1 h h1) {b:Addr} {ob:Obj} (q:h.get? b=some ob) (n:H b=none) (hx:b∉ex): ∃ sl,h1.get? b=some {ob with slots:=sl}:=by
 by_cases hb:b∈fs
 ·exact u.slot b ob q n hb hx
 ·exact ⟨ob.slots,u.keep b ob q n hb hx⟩
theorem Un.kept (k: ∀ b u,h.get? b=some u->h'.get? b=some u):Un fs ex H H h h':=
 ⟨fun b ob q _ _ _=>k b ob q,fun b ob q _ _ _=>⟨ob.slots,k b ob q⟩,fun _ _ _ n _=>n,fun b ob q _=>⟨ob,k b ob q⟩,fun _ _ q=>q,fun _ _ _ q=>q,fun _ ps q=>⟨#[],by rw [q];simp⟩⟩
theorem Un.refl:Un fs ex H H h h:=Un.kept fun _ _ q=>q
theorem Un.laid (k: ∀ b u,h.get? b=some u->h'.get? b=some u) (hp:h.objs.size<=a) (hn:H a=none):Un fs ex H (upd H a o) h h' where
 keep:=fun b u q _ _ _=>k b u q
 slot:=fun b u q _ _ _=>⟨u.slots,k b u q⟩
 free:=fun b u q n _=>by rw [ah (Nat.ne_of_lt (Nat.lt_of_lt_of_le (Heap.lt_size q) hp))];exact n
 there:=fun b u q _=>⟨u,k b u q⟩
 tups:=fun b xs q=>by rw [ah (aj q hn)];exact q
 frzs:=fun b u xs q=>by rw [ah (aj q hn)];exact q
 tbls:=fun b ps q=>⟨#[],by rw [ah (aj q hn),q];simp⟩
theorem Un.write (mu:Mut (H x)) (he:e=x\/H e=some (.own x)) (k: ∀ b u,b≠e->h.get? b=some u->h'.get? b=some u) (heo: ∃ u,h'.get? e=some u):Un fs ex H (upd H x o) h h':=by
 have hx: ∀ b,H b=none->b≠x:=fun b n z=>by subst z;rw [n]at mu;exact mu
 have hb: ∀ b,H b=none->b≠e:=fun b n z=>by
  subst z
  rcases he with r | r
  ·exact hx b n r
  ·rw [n]at r;cases r
 have hm: ∀ b u,H b=some u-> ¬ Mut (some u)->b≠x:=fun b u q nm z=>by subst z;rw [q]at mu;exact nm mu
 refine ⟨fun b u q n _ _=>k b u (hb b n) q,fun b u q n _ _=>⟨u.slots,k b u (hb b n) q⟩,fun b u q n _=>by rw [ah (hx b n)];exact n,fun b u q _=>?_,
  fun b xs q=>by rw [ah (hm b _ q fun z=>z)];exact q,fun b u xs q=>by rw [ah (hm b _ q fun z=>z)];exact q,fun b ps q=>⟨#[],by rw [ah (hm b _ q fun z=>z),q];simp⟩⟩
 by_cases hbe:b=e
 ·subst hbe;exact heo
 ·exact ⟨u,k b u hbe q⟩
end
noncomputable def trk (h:Heap) (H:Hp):List Addr:=(List.range h.objs.size).filter fun a=>(H a).isSome
noncomputable def gC (h:Heap) (H:Hp):Heap:=PySem.W.hideAll h (trk h H)
theorem nQ (h:Heap) (H:Hp):(gC h H).objs.size=h.objs.size:=PySem.W.hideAll_size _ _
theorem qq {h:Heap} {H:Hp} {b:Addr} {o:Obj} (e:h.get? b=some o) (n:H b=none):(gC h H).get? b=some o:=
 PySem.W.hideAll_get _ e fun hm=>by
  have q:(H b).isSome=true:=(List.mem_filter.mp hm).2
  rw [n]at q;simp at q
theorem rR {h:Heap} {H:Hp} {b:Addr} {o:Obj} (e:(gC h H).get? b=some o):h.get? b=some o/\H b=none:=by
 have e':h.get? b=some o:=PySem.W.of_hideAll (trk h H) e
 refine ⟨e',?_⟩
 cases q:H b with
 | none=>rfl
 | some x=>
  have hm:b∈trk h H:=List.mem_filter.mpr ⟨List.mem_range.mpr (Heap.lt_size e'),by simp [q]⟩
  have z:(gC h H).get? b=none:=PySem.W.hideAll_none (trk h H) hm
  rw [z]at e;cases e
structure Mod (K:PySem.W.Frag) (mg:Str->Option Value) (base:Heap):Prop where
 kin:K.In base
 glob:base.Ns mainGlobals mg
 blt: ∃ mb,base.Ns builtinsNs mb/\ ∀ x:Str,x≠"__name__"->mb x=bootBuiltins x
 nolimit:base.NoLimit
structure Cx where
 prog:Program
 w:World
 K:PySem.W.Frag
 mg:Str->Option Value
 base:Heap
 A:Around
 N:List Str
 s₀:Shared
 H₀:Hp
 env:Env
 outer:List Env
 stack:List Env
 ex:List Addr
 fn:Str->Bool
 calm:Bool
 pn:List (Addr×Obj)
 xe:Value->Shared->Prop
noncomputable def frs (l:List Env):List Addr:=l.filterMap (·.frame)
noncomputable abbrev Cx.fs (X:Cx):List Addr:=frs X.outer
noncomputable def Vis (sc:Scope) (x:Str):Prop:=sc.names.lookup x=some .local\/sc.names.lookup x=some .cell\/sc.names.lookup x=some .free
noncomputable def Loc (sc:Scope) (x:Str):Prop:=sc.names.lookup x=some .local\/sc.names.lookup x=some .cell
noncomputable def wo (env:Env) (h:Heap) (m:Str->Option Value) (x:Str) (u:Value):Prop:=
 (env.kindOf x=some .local/\m x=some u)\/((env.kindOf x=some .cell\/env.kindOf x=some .free)/\ ∃ c,env.cells.lookup x=some c/\h.IsCell c (some u))
structure Cx.Ok (X:Cx):Prop where
 mod:Mod X.K X.mg X.base
 kind:X.env.scope.kind=.function
 glob:X.env.globals=mainGlobals
 blt:X.env.builtins=builtinsNs
 above:X.s₀.heap.objs.size<=X.env.locals
 inj: ∀ x y c,X.env.cells.lookup x=some c->X.env.cells.lookup y=some c->x=y
 has: ∀ x,(X.env.kindOf x=some .cell\/X.env.kindOf x=some .free)-> ∃ c,X.env.cells.lookup x=some c
 cab: ∀ x c,X.fn x=true->X.env.cells.lookup x=some c->X.s₀.heap.objs.size<=c
 hd:X.calm=true->X.A.handled=none
 frames:X.A.frames=some X.stack
 stk:X.stack=X.outer\/(X.stack=X.env::X.outer/\X.env.frame=some X.env.locals)
 exf: ∀ b∈X.ex,b≠X.env.locals/\ ∀ x c,X.env.cells.lookup x=some c->c≠b
 bs: ∀ b o,X.base.get? b=some o->X.s₀.heap.get? b=some o/\X.H₀ b=none
 bsz:X.base.objs.size<=X.s₀.heap.objs.size
 noex: ∀ b o,X.base.get? b=some o->b∉X.ex
 exfs: ∀ b∈X.ex,b∉X.fs
 funs:X.s₀.heap.FunFrames X.base X.outer
 frf: ∀ b∈X.fs,X.H₀ b=none
structure Inv (X:Cx) (pins:List (Addr×Obj)) (Z:List (Option V)) (H:Hp) (s:Shared):Prop where
 ok:X.Ok
 os:s.os=X.s₀.os
 bare:AllBare s.gens
 base:Un X.fs X.ex X.H₀ H X.s₀.heap s.heap
 loc: ∃ m,s.heap.Ns X.env.locals m/\ ∀ (i:Nat) (x:Str) (v:V),X.N[i]? =some x->Z[i]? =some (some v)->Vis X.env.scope x-> ∃ u,RelV v u/\wo X.env s.heap m x u
 cell: ∀ x c,X.env.cells.lookup x=some c-> ∃ v,s.heap.IsCell c v
 free:H X.env.locals=none
 freeC: ∀ x c,X.env.cells.lookup x=some c->H c=none
 pin: ∀ p∈X.pn++pins,s.heap.get? p.1=some p.2/\H p.1=none/\p.1≠X.env.locals/\p.1∉X.fs/\ ∀ v,p.2.data≠ .cell v
 hok:HOk X.prog X.w H s.heap
 len:Z.length=X.N.length
section
variable {X:Cx} {pins:List (Addr×Obj)} {Z:List (Option V)} {H H':Hp} {s:Shared} {h':Heap}
theorem Cx.Ok.nofr (ok:X.Ok) {b:Addr} {o:Obj} (e:X.base.get? b=some o):b∉X.fs:=fun hb=>by
 have:=(ok.funs.mem hb).1
 rw [e]at this;cases this
theorem Inv.bs (I:Inv X pins Z H s): ∀ b o,X.base.get? b=some o->s.heap.get? b=some o/\H b=none:=fun b o e=>
 ⟨I.base.keep b o (I.ok.bs b o e).1 (I.ok.bs b o e).2 (I.ok.nofr e) (I.ok.noex b o e),I.base.free b o (I.ok.bs b o e).1 (I.ok.bs b o e).2 (I.ok.noex b o e)⟩
theorem Inv.bk (I:Inv X pins Z H s): ∀ b o,X.base.get? b=some o->s.heap.get? b=some o:=fun b o e=>(I.bs b o e).1
theorem Inv.mod (I:Inv X pins Z H s):Mod X.K X.mg X.base:=I.ok.mod
theorem Inv.kIn (I:Inv X pins Z H s):X.K.In s.heap:=I.ok.mod.kin.keeps I.bk
theorem Inv.nolimit (I:Inv X pins Z H s):s.heap.NoLimit:=I.ok.mod.nolimit.keeps I.bk
theorem Inv.lt (I:Inv X pins Z H s):X.env.locals<s.heap.objs.size:=let ⟨_,hn,_⟩:=I.loc;hn.lt
theorem Inv.sz (I:Inv X pins Z H s):X.s₀.heap.objs.size<=s.heap.objs.size:=Nat.le_trans I.ok.above (Nat.le_of_lt I.lt)
theorem Inv.nofs (I:Inv X pins Z H s) {a:Addr} (h:s.heap.objs.size<=a):a∉X.fs:=fun hb=>by
 obtain ⟨_,o,ho,_⟩:=I.ok.funs.mem hb
 exact absurd (Nat.lt_of_lt_of_le (Heap.lt_size ho) (Nat.le_trans I.sz h)) (Nat.lt_irrefl _)
theorem Inv.cne (I:Inv X pins Z H s): ∀ x c,X.env.cells.lookup x=some c->c≠X.env.locals:=fun x c e z=>by
 obtain ⟨v,o,ho,hd⟩:=I.cell x c e
 obtain ⟨m,⟨o',es,ep,ho',hd',_⟩,_⟩:=I.loc
 rw [z,ho']at ho;cases ho;rw [hd']at hd;cases hd
theorem Inv.funs (I:Inv X pins Z H s):s.heap.FunFrames X.base X.outer:=by
 have all: ∀ (l:List Env),(∀ b∈frs l,b∈X.fs)->X.s₀.heap.FunFrames X.base l->s.heap.FunFrames X.base l:=by
  intro l
  induction l with
  | nil=>intro _ _;trivial
  | cons env r ih=>
   intro hs hl
   obtain ⟨hk,⟨L,o,hf,hn,ho,hd⟩,hr⟩:=hl
   have hL:L∈X.fs:=hs L (by unfold frs;rw [List.filterMap_cons,hf];exact List.mem_cons_self)
   obtain ⟨sl,e⟩:=I.base.slot L o ho (I.ok.frf L hL) hL fun z=>I.ok.exfs L z hL
   exact ⟨hk,⟨L,_,hf,hn,e,hd⟩,ih (fun b hb=>hs b (by unfold frs;rw [List.filterMap_cons,hf];exact List.mem_cons_of_mem _ hb)) hr⟩
 exact all X.outer (fun _ hb=>hb) I.ok.funs
theorem Inv.stack (I:Inv X pins Z H s):s.heap.FunFrames X.base X.stack:=by
 rcases I.ok.stk with e | ⟨e,hf⟩
 ·rw [e];exact I.funs
 ·rw [e]
  obtain ⟨m,hn,_⟩:=I.loc
  refine .cons (by rw [I.ok.kind];decide) hf hn ?_ I.funs
  exact Heap.get?_none_of_le (Nat.le_trans I.ok.bsz I.ok.above)
theorem Inv.stkSub (I:Inv X pins Z H s): ∀ b∈frs X.stack,b∈X.env.locals::X.fs:=fun b hb=>by
 rcases I.ok.stk with e | ⟨e,hf⟩
 ·rw [e]at hb;exact List.mem_cons_of_mem _ hb
 ·rw [e]at hb
  unfold frs at hb
  rw [List.filterMap_cons,hf]at hb
  exact hb
theorem Inv.stkFree (I:Inv X pins Z H s): ∀ b∈frs X.stack,H b=none:=fun b hb=>by
 rcases List.mem_cons.mp (I.stkSub b hb)with e | hb
 ·rw [e];exact I.free
 ·obtain ⟨_,o,ho,_⟩:=I.ok.funs.mem hb
  exact I.base.free b o ho (I.ok.frf b hb) fun z=>I.ok.exfs b z hb
theorem Inv.step {g':Array GenState} {t':Nat} {d':Drawn} {ch:List Addr} (I:Inv X pins Z H s)
  (hch: ∀ b∈ch,(b∈X.ex\/X.s₀.heap.objs.size<=b)/\b≠X.env.locals/\(∀ x c,X.env.cells.lookup x=some c->c≠b)/\ ∀ p∈X.pn++pins,p.1≠b)
  (keep: ∀ b o,b≠X.env.locals->b∉X.fs->b∉ch->s.heap.get? b=some o->H b=none->h'.get? b=some o)
  (slot: ∀ b o,b≠X.env.locals->b∈X.fs->b∉ch->s.heap.get? b=some o->H b=none-> ∃ sl,h'.get? b=some {o with slots:=sl}) (free: ∀ b o,b∉ch->s.heap.get? b=some o->H b=none->H' b=none)
  (there: ∀ b o,b∉ch->s.heap.get? b=some o-> ∃ o',h'.get? b=some o')
  (tups: ∀ b xs,H b=some (.tup xs)->H' b=some (.tup xs)) (frzs: ∀ b o u,H b=some (.frz o u)->H' b=some (.frz o u)) (tbls: ∀ b ps,H b=some (.tbl ps)-> ∃ more,H' b=some (.tbl (ps++more)))
  (ns: ∀ m,s.heap.Ns X.env.locals m->h'.Ns X.env.locals m) (hok:HOk X.prog X.w H' h') (hg:AllBare g'):
  Inv X pins Z H' {s with heap:=h',gens:=g',drawn:=d',toks:=t'}:=by
 have neL: ∀ b o,X.s₀.heap.get? b=some o->b≠X.env.locals:=fun b o e=>Nat.ne_of_lt (Nat.lt_of_lt_of_le (Heap.lt_size e) I.ok.above)
 have neC: ∀ b o,X.s₀.heap.get? b=some o->b∉X.ex->b∉ch:=fun b o e hx hb=>by
  rcases (hch b hb).1 with z | z
  ·exact hx z
  ·exact absurd (Nat.lt_of_lt_of_le (Heap.lt_size e) z) (Nat.lt_irrefl _)
 have cellK: ∀ x c,X.env.cells.lookup x=some c-> ∀ v,s.heap.IsCell c v->h'.IsCell c v:=fun x c e v ⟨o,ho,hd⟩=>by
  have nch:c∉ch:=fun z=>(hch c z).2.2.1 x c e rfl
  by_cases hc:c∈X.fs
  ·obtain ⟨sl,q⟩:=slot c o (I.cne x c e) hc nch ho (I.freeC x c e)
   exact ⟨_,q,hd⟩
  ·exact ⟨o,keep c o (I.cne x c e) hc nch ho (I.freeC x c e),hd⟩
 refine ⟨I.ok,I.os,hg,⟨fun b o e n hb hx=>?_,fun b o e n hb hx=>?_,fun b o e n hx=>?_,fun b o e hx=>?_,fun b xs e=>tups b xs (I.base.tups b xs e),fun b o xs e=>frzs b o xs (I.base.frzs b o xs e),fun b ps e=>?_⟩,?_,fun x c e=>?_,?_,fun x c e=>?_,fun p hp=>?_,hok,I.len⟩
 ·exact keep b o (neL b o e) hb (neC b o e hx) (I.base.keep b o e n hb hx) (I.base.free b o e n hx)
 ·obtain ⟨sl,e1⟩:=I.base.slot b o e n hb hx
  obtain ⟨sl',e2⟩:=slot b _ (neL b o e) hb (neC b o e hx) e1 (I.base.free b o e n hx)
  exact ⟨sl',e2⟩
 ·obtain ⟨o',e1⟩:=I.base.there b o e hx
  exact free b o' (neC b o e hx) e1 (I.base.free b o e n hx)
 ·obtain ⟨o',e1⟩:=I.base.there b o e hx
  exact there b o' (neC b o e hx) e1
 ·obtain ⟨m1,e1⟩:=I.base.tbls b ps e
  obtain ⟨m2,e2⟩:=tbls b _ e1
  exact ⟨m1++m2,by rw [e2,Array.append_assoc]⟩
 ·obtain ⟨m,hn,hl⟩:=I.loc
  refine ⟨m,ns m hn,fun i x v e1 e2 e3=>?_⟩
  obtain ⟨u,r,l⟩:=hl i x v e1 e2 e3
  refine ⟨u,r,?_⟩
  rcases l with l | ⟨k,c,e,z⟩
  ·exact .inl l
  ·exact .inr ⟨k,c,e,cellK x c e _ z⟩
 ·obtain ⟨v,z⟩:=I.cell x c e
  exact ⟨v,cellK x c e v z⟩
 ·obtain ⟨m,⟨o,_,_,ho,_⟩,_⟩:=I.loc
  exact free _ o (fun z=>(hch _ z).2.1 rfl) ho I.free
 ·obtain ⟨v,o,ho,hd⟩:=I.cell x c e
  exact free c o (fun z=>(hch c z).2.2.1 x c e rfl) ho (I.freeC x c e)
 ·obtain ⟨e,n,ne,nf,d⟩:=I.pin p hp
  have nch:p.1∉ch:=fun z=>(hch p.1 z).2.2.2 p hp rfl
  exact ⟨keep p.1 p.2 ne nf nch e n,free p.1 p.2 nch e n,ne,nf,d⟩
theorem Inv.un {t':Nat} (I:Inv X pins Z H s) (u:Un X.fs [] H H' s.heap h') (hok:HOk X.prog X.w H' h'):Inv X pins Z H' {s with heap:=h',toks:=t'}:=by
 obtain ⟨m,⟨o,es,ep,ho,r⟩,_⟩:=id I.loc
 obtain ⟨sl,hL⟩:=u.any ho I.free (by simp)
 exact I.step (g':=s.gens) (d':=s.drawn) (ch:=[]) (fun _ z=>nomatch z) (fun b o _ hb _ e n=>u.keep b o e n hb (by simp)) (fun b o _ hb _ e n=>u.slot b o e n hb (by simp)) (fun b o _ e n=>u.free b o e n (by simp)) (fun b o _ e=>u.there b o e (by simp)) u.tups u.frzs u.tbls (fun m' hm=>by
  obtain ⟨o',es',ep',ho',r'⟩:=hm
  rw [ho]at ho';cases ho'
  exact ⟨_,es',ep',hL,r'⟩) hok I.bare
theorem Inv.call {g':Array GenState} {t':Nat} {d':Drawn} {ch:List Addr} (I:Inv X pins Z H s) (u:Un (frs X.stack) ch H H' s.heap h') (hok:HOk X.prog X.w H' h') (hg:AllBare g')
  (hch: ∀ b∈ch,(b∈X.ex\/X.s₀.heap.objs.size<=b)/\b≠X.env.locals/\(∀ x c,X.env.cells.lookup x=some c->c≠b)/\ ∀ p∈X.pn++pins,p.1≠b):
  Inv X pins Z H' {s with heap:=h',gens:=g',drawn:=d',toks:=t'}:=by
 obtain ⟨m,⟨o,es,ep,ho,r⟩,_⟩:=id I.loc
 obtain ⟨sl,hL⟩:=u.any ho I.free fun z=>(hch _ z).2.1 rfl
 exact I.step (ch:=ch) hch (fun b o hL hb hc e n=>u.keep b o e n (fun z=>(List.mem_cons.mp (I.stkSub b z)).elim hL hb) hc) (fun b o _ _ hc e n=>u.any e n hc) (fun b o hc e n=>u.free b o e n hc) (fun b o hc e=>u.there b o e hc) u.tups u.frzs u.tbls (fun m' hm=>by
  obtain ⟨o',es',ep',ho',r'⟩:=hm
  rw [ho]at ho';cases ho'
  exact ⟨_,es',ep',hL,r'⟩) hok hg
theorem Inv.turned {t':Nat} {it:Addr} (I:Inv X pins Z H s) (k: ∀ b o,b≠it->s.heap.get? b=some o->h'.get? b=some o) (hn:H it=none) (hL:it≠X.env.locals)
  (h1:it∈X.ex\/X.s₀.heap.objs.size<=it) (h2: ∀ x c,X.env.cells.lookup x=some c->c≠it) (h3: ∀ p∈X.pn++pins,p.1≠it):Inv X pins Z H {s with heap:=h',toks:=t'}:=by
 have nit: ∀ b u,H b=some u->b≠it:=fun b u e z=>by rw [z,hn]at e;cases e
 refine I.step (g':=s.gens) (d':=s.drawn) (ch:=[it]) (fun b hb=>?_) (fun b o _ _ hc e _=>k b o (fun z=>hc (by simp [z])) e) (fun b o _ _ hc e _=>⟨o.slots,k b o (fun z=>hc (by simp [z])) e⟩) (fun _ _ _ _ n=>n)
  (fun b o hc e=>⟨o,k b o (fun z=>hc (by simp [z])) e⟩) (fun _ _ e=>e) (fun _ _ _ e=>e) (fun b ps e=>⟨#[],by rw [e];simp⟩) (fun m hm=>?_) (fun b u e=>?_) I.bare
 ·have e:b=it:=by simpa using hb
  subst e
  exact ⟨h1,hL,h2,h3⟩
 ·obtain ⟨o,es,ep,ho,r⟩:=hm
  exact ⟨o,es,ep,k _ o (Ne.symm hL) ho,r⟩
 ·refine (I.hok b u e).stay (fun c v hc q=>k c v ?_ q) (fun _ q=>q) fun _ _ q=>q
  rcases hc with z | z
  ·rw [z];exact nit b u e
  ·exact nit c _ z
theorem Inv.tok (I:Inv X pins Z H s) (t:Nat):Inv X pins Z H {s with toks:=t}:=I.un (h':=s.heap) (t':=t) Un.refl I.hok
theorem Inv.kept {t':Nat} (I:Inv X pins Z H s) (k: ∀ b u,s.heap.get? b=some u->h'.get? b=some u):Inv X pins Z H {s with heap:=h',toks:=t'}:=I.un (Un.kept k) (I.hok.kept k)
theorem Inv.laid {a:Addr} {o:HO} {t':Nat} (I:Inv X pins Z H s) (k: ∀ b u,s.heap.get? b=some u->h'.get? b=some u) (hp:s.heap.objs.size<=a) (new:ObjOk X.prog X.w (upd H a o) h' a o):
  Inv X pins Z (upd H a o) {s with heap:=h',toks:=t'}:=I.un (Un.laid k hp (I.hok.fresh hp)) (I.hok.laid k hp new)
theorem Inv.write {x e:Addr} {o:HO} {t':Nat} (I:Inv X pins Z H s) (mu:Mut (H x)) (he:e=x\/H e=some (.own x)) (k: ∀ b u,b≠e->s.heap.get? b=some u->h'.get? b=some u) (heo: ∃ u,h'.get? e=some u)
  (new:ObjOk X.prog X.w (upd H x o) h' x o):Inv X pins Z (upd H x o) {s with heap:=h',toks:=t'}:=I.un (Un.write mu he k heo) (I.hok.write mu he k heo new)
theorem Inv.pins_of {pins':List (Addr×Obj)} (I:Inv X pins Z H s) (h: ∀ p∈pins',s.heap.get? p.1=some p.2/\H p.1=none/\p.1≠X.env.locals/\p.1∉X.fs/\ ∀ v,p.2.data≠ .cell v):Inv X pins' Z H s:=
 ⟨I.ok,I.os,I.bare,I.base,I.loc,I.cell,I.free,I.freeC,fun p hp=>(List.mem_append.mp hp).elim (fun z=>I.pin p (List.mem_append_left _ z)) (h p),I.hok,I.len⟩
theorem jw {N:List Str} (hN:N.Nodup) {i j:Nat} {x:Str} (a:N[i]? =some x) (b:N[j]? =some x):i=j:=by
 obtain ⟨h1,e1⟩:=List.getElem?_eq_some_iff.mp a
 obtain ⟨h2,e2⟩:=List.getElem?_eq_some_iff.mp b
 exact (List.getElem_inj hN).mp (e1.trans e2.symm)
theorem gT {M:Model} {A:Around} {E:Value->Shared->Prop} {i:Nat} {x:Str} {v:V} {u:Value} {Q:Unit->Shared->Prop} (I:Inv X pins Z H s) (hN:X.N.Nodup) (hi:X.N[i]? =some x) (hx:Loc X.env.scope x) (r:RelV v u)
  (h: ∀ s',Inv X pins (Z.set i (some v)) H s'->(∃ a,Heap.SameBut a s.heap s'.heap/\(a=X.env.locals\/X.env.cells.lookup x=some a))->Q () s') (hf:X.fn x=true\/X.env.scope.names.lookup x=some .local:=by first | exact .inl rfl | exact .inr rfl | assumption):wpAny M A (storeName X.env x u) Q E s:=by
 obtain ⟨m,hn,hl⟩:=id I.loc
 have hcls:(X.env.scope.kind== .class||(X.env.scope.kind== .module&&X.env.locals !=X.env.globals))=false:=by rw [I.ok.kind];rfl
 have hiZ:i<Z.length:=by rw [I.len];exact (List.getElem?_eq_some_iff.mp hi).1
 have cne:=I.cne
 have tracked: ∀ {a:Addr} {h':Heap},(∃ o,s.heap.get? a=some o/\H a=none)->Heap.SameBut a s.heap h'->HOk X.prog X.w H h':=fun {a h'} ha hs b ob e=>by
  obtain ⟨_,_,hfree⟩:=ha
  refine (I.hok b ob e).stay (fun c w' hc q=>(hs.2 c ?_).trans q) (fun _ q=>q) fun _ _ q=>q
  rintro rfl
  rcases hc with rfl | hc
  ·rw [hfree]at e;cases e
  ·rw [hfree]at hc;cases hc
 rcases hx with hk | hk
 ·refine wpAny_storeName_local hk hn (fun h' hn' hs=>?_) hcls
  obtain ⟨oL,_,_,hoL,_⟩:=id hn
  refine h _ ⟨I.ok,I.os,I.bare,⟨fun b o e n hb hx=>?_,fun b o e n hb hx=>?_,I.base.free,fun b o e hx=>?_,I.base.tups,I.base.frzs,I.base.tbls⟩,⟨_,hn',fun j y v' e1 e2 e3=>?_⟩,fun y c e=>?_,I.free,I.freeC,fun p hp=>?_,tracked ⟨oL,hoL,I.free⟩ hs,by simpa using I.len⟩ ⟨_,hs,.inl rfl⟩
  ·exact (hs.2 b (Nat.ne_of_lt (Nat.lt_of_lt_of_le (Heap.lt_size e) I.ok.above))).trans (I.base.keep b o e n hb hx)
  ·obtain ⟨sl,e1⟩:=I.base.slot b o e n hb hx
   exact ⟨sl,(hs.2 b (Nat.ne_of_lt (Nat.lt_of_lt_of_le (Heap.lt_size e) I.ok.above))).trans e1⟩
  ·obtain ⟨o',e1⟩:=I.base.there b o e hx
   exact ⟨o',(hs.2 b (Nat.ne_of_lt (Nat.lt_of_lt_of_le (Heap.lt_size e) I.ok.above))).trans e1⟩
  ·by_cases hj:j=i
   ·subst hj
    rw [hi]at e1;cases e1
    rw [List.getElem?_set_self hiZ]at e2
    cases e2
    exact ⟨u,r,.inl ⟨hk,by simp⟩⟩
   ·rw [List.getElem?_set_ne (Ne.symm hj)]at e2
    obtain ⟨u',r',q⟩:=hl j y v' e1 e2 e3
    refine ⟨u',r',?_⟩
    rcases q with ⟨k,e⟩ | ⟨k,c,e,z⟩
    ·refine .inl ⟨k,?_⟩
     have:y≠x:=fun e=>hj (jw hN e1 (e▸hi))
     simp [this,e]
    ·exact .inr ⟨k,c,e,z.sameBut hs (cne y c e)⟩
  ·obtain ⟨w',z⟩:=I.cell y c e
   exact ⟨w',z.sameBut hs (cne y c e)⟩
  ·obtain ⟨e,n,ne,nf,d⟩:=I.pin p hp
   exact ⟨(hs.2 p.1 ne).trans e,n,ne,nf,d⟩
 ·have hfn:X.fn x=true:=by
   rcases hf with z | z
   ·exact z
   ·rw [z]at hk;cases hk
  obtain ⟨c,hc⟩:=I.ok.has x (.inl hk)
  obtain ⟨w',z⟩:=I.cell x c hc
  refine wpAny_storeName_cell I.ok.kind hk hc z (fun h' hc' hs=>?_)
  obtain ⟨oc,hoc,hocd⟩:=id z
  refine h {s with heap:=h'} ⟨I.ok,I.os,I.bare,⟨fun b o e n hb hx=>?_,fun b o e n hb hx=>?_,I.base.free,fun b o e hx=>?_,I.base.tups,I.base.frzs,I.base.tbls⟩,⟨m,hn.sameBut hs (Ne.symm (cne x c hc)),fun j y v' e1 e2 e3=>?_⟩,fun y c' e=>?_,I.free,I.freeC,fun p hp=>?_,tracked ⟨oc,hoc,I.freeC x c hc⟩ hs,by simpa using I.len⟩ ⟨c,hs,.inr hc⟩
  ·exact (hs.2 b (Nat.ne_of_lt (Nat.lt_of_lt_of_le (Heap.lt_size e) (I.ok.cab x c hfn hc)))).trans (I.base.keep b o e n hb hx)
  ·obtain ⟨sl,e1⟩:=I.base.slot b o e n hb hx
   exact ⟨sl,(hs.2 b (Nat.ne_of_lt (Nat.lt_of_lt_of_le (Heap.lt_size e) (I.ok.cab x c hfn hc)))).trans e1⟩
  ·obtain ⟨o',e1⟩:=I.base.there b o e hx
   exact ⟨o',(hs.2 b (Nat.ne_of_lt (Nat.lt_of_lt_of_le (Heap.lt_size e) (I.ok.cab x c hfn hc)))).trans e1⟩
  ·by_cases hj:j=i
   ·subst hj
    rw [hi]at e1;cases e1
    rw [List.getElem?_set_self hiZ]at e2
    cases e2
    exact ⟨u,r,.inr ⟨.inl hk,c,hc,hc'⟩⟩
   ·rw [List.getElem?_set_ne (Ne.symm hj)]at e2
    obtain ⟨u',r',q⟩:=hl j y v' e1 e2 e3
    refine ⟨u',r',?_⟩
    rcases q with q | ⟨k,c',e,z'⟩
    ·exact .inl q
    ·refine .inr ⟨k,c',e,z'.sameBut hs ?_⟩
     rintro rfl
     exact hj (jw hN e1 (I.ok.inj _ _ _ e hc▸hi))
  ·by_cases hcc:c'=c
   ·subst hcc;exact ⟨_,hc'⟩
   ·obtain ⟨w2,z2⟩:=I.cell y c' e
    exact ⟨w2,z2.sameBut hs hcc⟩
  ·obtain ⟨e,n,ne,nf,d⟩:=I.pin p hp
   refine ⟨(hs.2 p.1 ?_).trans e,n,ne,nf,d⟩
   intro q
   rw [q,hoc]at e
   have q':oc=p.2:=Option.some.inj e
   exact d w' (by rw [<- q'];exact hocd)
theorem fX {M:Model} {A:Around} {E:Value->Shared->Prop} {i:Nat} {x:Str} {v:V} {u:Value} {Q:Unit->Shared->Prop} (I:Inv X pins Z H s) (hN:X.N.Nodup) (hi:X.N[i]? =some x) (hx:Loc X.env.scope x) (r:RelV v u)
  (h: ∀ s',Inv X pins (Z.set i (some v)) H s'->Q () s') (hf:X.fn x=true\/X.env.scope.names.lookup x=some .local:=by first | exact .inl rfl | exact .inr rfl | assumption):wpAny M A (storeName X.env x u) Q E s:=
 gT I hN hi hx r (fun s' I' _=>h s' I') hf
theorem Inv.call' {s':Shared} {ch:List Addr} (I:Inv X pins Z H s) (ho:s'.os=s.os) (u:Un (frs X.stack) ch H H' s.heap s'.heap) (hok:HOk X.prog X.w H' s'.heap) (hg:AllBare s'.gens)
  (hch: ∀ b∈ch,(b∈X.ex\/X.s₀.heap.objs.size<=b)/\b≠X.env.locals/\(∀ x c,X.env.cells.lookup x=some c->c≠b)/\ ∀ p∈X.pn++pins,p.1≠b):Inv X pins Z H' s':=by
 obtain ⟨h',g',d',t',o'⟩:=s'
 have e:o'=s.os:=ho
 subst e
 exact I.call (g':=g') (t':=t') (d':=d') u hok hg hch
end
noncomputable abbrev XK:=Value->Option Addr->Hp->Prop
noncomputable abbrev St:=List (Option V)
noncomputable abbrev VK:=V->Hp->Prop
noncomputable abbrev TE:=St->Hp->VK->Prop
noncomputable abbrev TT:=St->Hp->(Bool->Hp->Prop)->Prop
noncomputable abbrev TA:=St->Hp->(List V->Hp->Prop)->Prop
structure fw where
 nx:St->Hp->Prop
 rt:VK
 bk:St->Hp->Prop:=fun _ _=>False
 ct:St->Hp->Prop:=fun _ _=>False
noncomputable abbrev TS:=fw->St->Hp->Prop
noncomputable def EP (X:Cx) (pins:List (Addr×Obj)) (Z:St) (Q:VK) (u:Value) (s':Shared):Prop:= ∃ v H',Inv X pins Z H' s'/\RelV v u/\Q v H'
noncomputable def TP (X:Cx) (pins:List (Addr×Obj)) (Z:St) (Q:Bool->Hp->Prop) (b:Bool) (s':Shared):Prop:= ∃ H',Inv X pins Z H' s'/\Q b H'
noncomputable def AP (X:Cx) (pins:List (Addr×Obj)) (Z:St) (Q:List V->Hp->Prop) (us:List Value) (s':Shared):Prop:= ∃ vs H',Inv X pins Z H' s'/\Vals vs us/\Q vs H'
noncomputable def SP (X:Cx) (pins:List (Addr×Obj)) (D:fw) (f:Flow) (s':Shared):Prop:=
 match f with
 | .next=> ∃ Z' H',Inv X pins Z' H' s'/\D.nx Z' H'
 | .brk=> ∃ Z' H',Inv X pins Z' H' s'/\D.bk Z' H'
 | .cont=> ∃ Z' H',Inv X pins Z' H' s'/\D.ct Z' H'
 | .ret u=> ∃ v Z' H',Inv X pins Z' H' s'/\RelV v u/\D.rt v H'
noncomputable def PE (X:Cx) (e:Expr) (t:TE):Prop:=
 ∀ (pins:List (Addr×Obj)) (s:Shared) (Z:St) (H:Hp) (Q:VK),Inv X pins Z H s->t Z H Q->wpAny (model X.prog X.w) X.A (eval e X.env) (EP X pins Z Q) X.xe s
noncomputable def PT (X:Cx) (e:Expr) (t:TT):Prop:=
 ∀ (pins:List (Addr×Obj)) (s:Shared) (Z:St) (H:Hp) (Q:Bool->Hp->Prop),Inv X pins Z H s->t Z H Q->wpAny (model X.prog X.w) X.A (isTrue e X.env (eval e X.env)) (TP X pins Z Q) X.xe s
noncomputable def PW (X:Cx) (e:Expr) (t:TT):Prop:=
 ∀ (whole:Sem Value) (pins:List (Addr×Obj)) (s:Shared) (Z:St) (H:Hp) (Q:Bool->Hp->Prop),Inv X pins Z H s->t Z H Q->wpAny (model X.prog X.w) X.A (isTrue e X.env whole) (TP X pins Z Q) X.xe s
theorem PW.pt {X:Cx} {e:Expr} {t:TT} (h:PW X e t):PT X e t:=h _
noncomputable def PA (X:Cx) (es:List Expr) (t:TA):Prop:=
 ∀ (pos:Pos) (pins:List (Addr×Obj)) (s:Shared) (Z:St) (H:Hp) (Q:List V->Hp->Prop),Inv X pins Z H s->t Z H Q->wpAny (model X.prog X.w) X.A (spliced (backTo pos (starEach es X.env))) (AP X pins Z Q) X.xe s
noncomputable def PS (X:Cx) (st:Stmt) (t:TS):Prop:=
 ∀ (pins:List (Addr×Obj)) (s:Shared) (Z:St) (H:Hp) (D:fw),Inv X pins Z H s->t D Z H->wpAny (model X.prog X.w) X.A (exec st X.env) (SP X pins D) X.xe s
noncomputable def PSs (X:Cx) (st:List Stmt) (t:TS):Prop:=
 ∀ (pins:List (Addr×Obj)) (s:Shared) (Z:St) (H:Hp) (D:fw),Inv X pins Z H s->t D Z H->wpAny (model X.prog X.w) X.A (execs st X.env) (SP X pins D) X.xe s
theorem thn {α:Type} {t:Sem α} {Q Q':α->Shared->Prop} {M:Model} {A:Around} {E:Value->Shared->Prop} {s:Shared} (h:wpAny M A t Q E s) (hQ: ∀ a s,Q a s->Q' a s):wpAny M A t Q' E s:=wpAny_mono h hQ fun _ _ x=>x
section
variable {X:Cx}
noncomputable def sP (i:Nat):TE:=fun Z H Q=> ∃ v,Z[i]? =some (some v)/\Q v H
noncomputable def tC (v:V):TE:=fun _ H Q=>Q v H
theorem pB {i:Nat} {x:Str} {pos:Pos} (hN:X.N[i]? =some x) (hv:Vis X.env.scope x) (hd:(x==("__debug__":Str))=false:=by decide) (hcd:(x==("__classdict__":Str))=false:=by decide):PE X (.Name x pos) (sP i):=by
 intro pins s Z H Q I h
 obtain ⟨v,e,h⟩:=h
 obtain ⟨m,hn,hl⟩:=I.loc
 obtain ⟨u,r,l⟩:=hl i x v hN e hv
 have fin:EP X pins Z Q u s:=⟨v,H,I,r,h⟩
 rcases l with ⟨hk,hm⟩ | ⟨hk,c,hc,hcell⟩
 ·exact wpAny_Name (wpAny_loadName_local I.ok.kind hk hn hm fin) hd
 ·rcases hk with hk | hk
  ·exact wpAny_Name (wpAny_loadName_cell I.ok.kind hk hc hcell fin) hd
  ·exact wpAny_Name (wpAny_loadName_free I.ok.kind hk hc hcell fin hcd) hd
theorem ae {i j pos}:PE X (.Constant (.int i) j pos) (tC (.int i)):=fun _ _ _ H _ I h=>wpAny_Constant_int ⟨.int i,H,I.tok _,⟨_,rfl⟩,h⟩
theorem dL {b j pos}:PE X (.Constant (.bool b) j pos) (tC (.bl b)):=fun _ _ _ H _ I h=>Constant_bool ⟨.bl b,H,I,rfl,h⟩
theorem kx {j pos}:PE X (.Constant .none j pos) (tC .non):=fun _ _ _ H _ I h=>Constant_none ⟨.non,H,I,rfl,h⟩
theorem ao {x j pos}:PE X (.Constant (.str x) j pos) (tC (.str x)):=fun _ _ _ H _ I h=>Calls.Constant_str ⟨.str x,H,I.tok _,⟨_,rfl⟩,h⟩
noncomputable def Gl (X:Cx) (x:Str):Prop:=X.env.kindOf x=some .globalImplicit
theorem eI {E:Value->Shared->Prop} {pins:List (Addr×Obj)} {s:Shared} {Z:St} {H:Hp} {x:Str} {u:Value} {pos:Pos} {Q:Value->Shared->Prop} (I:Inv X pins Z H s) (hg:Gl X x) (hm:X.mg x=some u) (h:Q u s)
  (hd:(x==("__debug__":Str))=false:=by decide):wpAny (model X.prog X.w) X.A (eval (.Name x pos) X.env) Q E s:=
 Calls.Name_function_global I.ok.kind hg (Calls.loadGlobal_global (by rw [I.ok.glob];exact I.mod.glob.keeps I.bk) hm h) hd
theorem dA {E:Value->Shared->Prop} {pins:List (Addr×Obj)} {s:Shared} {Z:St} {H:Hp} {x:Str} {u:Value} {pos:Pos} {Q:Value->Shared->Prop} (I:Inv X pins Z H s) (hg:Gl X x) (hm:X.mg x=none) (hv:bootBuiltins x=some u) (h:Q u s)
  (hn:x≠"__name__":=by decide) (hd:(x==("__debug__":Str))=false:=by decide):wpAny (model X.prog X.w) X.A (eval (.Name x pos) X.env) Q E s:=by
 obtain ⟨mb,h1,h2⟩:=I.mod.blt
 exact Calls.Name_function_global I.ok.kind hg (Calls.loadGlobal_builtin (by rw [I.ok.glob];exact I.mod.glob.keeps I.bk) hm (by rw [I.ok.blt];exact h1.keeps I.bk) ((h2 x hn).trans hv) h) hd
theorem bO {x:Str} {v:V} {u:Value} {pos:Pos} (hg:Gl X x) (hm:X.mg x=some u) (r:RelV v u) (hd:(x==("__debug__":Str))=false:=by decide):PE X (.Name x pos) (tC v):=
 fun _ _ _ H _ I h=>eI I hg hm ⟨v,H,I,r,h⟩ hd
theorem bb {x:Str} {v:V} {u:Value} {pos:Pos} (hg:Gl X x) (hm:X.mg x=none) (hv:bootBuiltins x=some u) (r:RelV v u) (hn:x≠"__name__":=by decide) (hd:(x==("__debug__":Str))=false:=by decide):PE X (.Name x pos) (tC v):=
 fun _ _ _ H _ I h=>dA I hg hm hv ⟨v,H,I,r,h⟩ hn hd
variable {a b:Expr} {ta tb:TE} {pos:Pos}
noncomputable def tB (t:TE):TT:=fun Z H Q=>t Z H fun x H1=> ∃ c,x=.bl c/\Q c H1
theorem cO {e:Expr} {t:TE} (h:PE X e t) (he: ∀ whole,isTrue e X.env whole=(do let v <- whole;standAt e.pos;holding [v] (truthy v)):=by intro _;rfl):PT X e (tB t):=by
 intro pins s Z H Q I hw
 refine isTrue_plain (thn (h pins s Z H _ I hw) fun v s1 ⟨x,H1,I1,r1,q1⟩=>?_) (he _)
 obtain ⟨d,rfl,q⟩:=q1
 cases r1
 exact wpAny_truthy_bool ⟨H1,I1,q⟩
variable {tA tB':TT} {rest:List Expr}
noncomputable def vE (t u:TT):TT:=fun Z H Q=>t Z H fun c H1=>if c=true then u Z H1 Q else Q false H1
noncomputable def tOr (t u:TT):TT:=fun Z H Q=>t Z H fun c H1=>if c=true then Q true H1 else u Z H1 Q
noncomputable def uJ (t:TT):TT:=fun Z H Q=>t Z H fun c H1=>Q (!c) H1
theorem iF (ha:PT X a tA):PW X (.BoolOp .And [a] pos) tA:=by
 intro wh pins s Z H Q I h
 refine isTrue_and (thn (ha pins s Z H Q I h) fun c s1 e=>?_)
 cases c with
 | true=>exact isTrue_and_nil e
 | false=>exact e
theorem gh (ha:PT X a tA):PW X (.BoolOp .Or [a] pos) tA:=by
 intro wh pins s Z H Q I h
 refine isTrue_or (thn (ha pins s Z H Q I h) fun c s1 e=>?_)
 cases c with
 | false=>exact isTrue_or_nil e
 | true=>exact e
theorem kq (ha:PT X a tA) (hb:PW X (.BoolOp .And (b::rest) pos) tB'):PW X (.BoolOp .And (a::b::rest) pos) (vE tA tB'):=by
 intro wh pins s Z H Q I h
 refine isTrue_and (thn (ha pins s Z H _ I h) fun c s1 ⟨H1,I1,q1⟩=>?_)
 cases c with
 | true=>exact hb wh pins s1 Z H1 Q I1 q1
 | false=>exact ⟨H1,I1,q1⟩
theorem ji (ha:PT X a tA) (hb:PW X (.BoolOp .Or (b::rest) pos) tB'):PW X (.BoolOp .Or (a::b::rest) pos) (tOr tA tB'):=by
 intro wh pins s Z H Q I h
 refine isTrue_or (thn (ha pins s Z H _ I h) fun c s1 ⟨H1,I1,q1⟩=>?_)
 cases c with
 | true=>exact ⟨H1,I1,q1⟩
 | false=>exact hb wh pins s1 Z H1 Q I1 q1
theorem dw (ha:PT X a tA):PT X (.UnaryOp .Not a pos) (uJ tA):=by
 intro pins s Z H Q I h
 exact isTrue_not (ha pins s Z H (fun c H1=>Q (!c) H1) I h)
noncomputable def sy (ta tb:TE):TE:=fun Z H Q=>ta Z H fun x H1=> ∃ c,x=.bl c/\if c=true then tb Z H1 Q else Q (.bl false) H1
noncomputable def uI (ta:TE):TE:=fun Z H Q=>ta Z H fun x H1=> ∃ c,x=.bl c/\Q (.bl (!c)) H1
theorem cF {op} {t:TE} (h:PE X a t):PE X (.BoolOp op [a] pos) t:=fun pins s Z H Q I hw=>BoolOp_one (h pins s Z H Q I hw)
theorem cu (ha:PE X a ta) (hb:PE X (.BoolOp .And (b::rest) pos) tb):PE X (.BoolOp .And (a::b::rest) pos) (sy ta tb):=by
 intro pins s Z H Q I h
 refine BoolOp_and (thn (ha pins s Z H _ I h) fun v s1 ⟨x,H1,I1,r1,q1⟩=>?_)
 obtain ⟨c,rfl,q1⟩:=q1
 cases r1
 refine wpAny_truthy_bool ?_
 cases c with
 | true=>exact hb pins s1 Z H1 Q I1 q1
 | false=>exact ⟨.bl false,H1,I1,rfl,q1⟩
theorem pC (ha:PE X a ta):PE X (.UnaryOp .Not a pos) (uI ta):=by
 intro pins s Z H Q I h
 refine UnaryOp_ (thn (ha pins s Z H _ I h) fun v s1 ⟨x,H1,I1,r1,q1⟩=>?_)
 obtain ⟨c,rfl,q1⟩:=q1
 cases r1
 exact not_of (wpAny_truthy_bool ⟨.bl (!c),H1,I1,rfl,q1⟩)
noncomputable def tIf (t:TT) (ta tb:TE):TE:=fun Z H Q=>t Z H fun c H1=>if c=true then ta Z H1 Q else tb Z H1 Q
theorem eC {c:Expr} (hc:PT X c tA) (ha:PE X a ta) (hb:PE X b tb):PE X (.IfExp c a b pos) (tIf tA ta tb):=by
 intro pins s Z H Q I h
 refine wpAny_IfExp (thn (hc pins s Z H _ I h) fun d s1 ⟨H1,I1,q1⟩=>?_)
 cases d with
 | true=>exact ha pins s1 Z H1 Q I1 q1
 | false=>exact hb pins s1 Z H1 Q I1 q1
end
noncomputable def SqL (K:PySem.W.Frag) (H:Hp) (a:Addr) (xs:List V):Prop:=
 Rd H a (.lst xs)\/
  ∃ (o:Obj) (its:Array Value) (n:Nat),K.lookup a=some o/\o.cls=.type "list"/\o.dict=none/\o.data=.seq its n/\its.size<=sizeLine/\Vals xs its.toList
noncomputable def SqT (K:PySem.W.Frag) (H:Hp) (a:Addr) (xs:List V):Prop:=
 Rd H a (.tup xs)\/
  ∃ (o:Obj) (its:Array Value) (n:Nat),K.lookup a=some o/\o.cls=.type "tuple"/\o.data=.seq its n/\its.size<=sizeLine/\Vals xs its.toList
noncomputable def wj:Value->Option V
 | .none=>some .non
 | .bool b=>some (.bl b)
 | .int i _=>some (.int i)
 | .str x _=>some (.str x)
 | .bytes b _=>some (.byt b)
 | .float b _=>some (.flt b)
 | .ref a=>some (.ref a)
 | .type n=>some (.ty n)
 | _=>none
theorem RelV.abs {x:V} {u:Value} (r:RelV x u):wj u=some x:=by
 cases x with
 | non=>cases r;rfl
 | bl _=>cases r;rfl
 | int _=>obtain ⟨t,rfl⟩:=r;rfl
 | str _=>obtain ⟨t,rfl⟩:=r;rfl
 | byt _=>obtain ⟨t,rfl⟩:=r;rfl
 | flt _=>obtain ⟨t,rfl⟩:=r;rfl
 | ref _=>cases r;rfl
 | ty _=>cases r;rfl
theorem RelV.inj {x y:V} {u:Value} (r:RelV x u) (q:RelV y u):x=y:=Option.some.inj (r.abs.symm.trans q.abs)
theorem Vals.inj: ∀ {xs ys:List V} {us:List Value},Vals xs us->Vals ys us->xs=ys
 | _,_,_,.nil,.nil=>rfl
 | _,_,_,.cons r t,.cons r' t'=>by rw [r.inj r',Vals.inj t t']
section
variable {X:Cx} {pins:List (Addr×Obj)} {Z:St} {H:Hp} {s:Shared} {a:Addr} {xs ys:List V}
theorem SqL.of {K:PySem.W.Frag} (h:H a=some (.lst xs)):SqL K H a xs:=.inl (.inl h)
theorem SqT.of {K:PySem.W.Frag} (h:H a=some (.tup xs)):SqT K H a xs:=.inl (.inl h)
theorem Inv.list (I:Inv X pins Z H s) (h:SqL X.K H a xs): ∃ its:List Value,Vals xs its/\PlainL s.heap a its.toArray/\xs.length<=sizeLine:=by
 rcases h with h | ⟨o,its,n,hk,hc,hd,hs,hz,r⟩
 ·obtain ⟨z,its,n,r,e⟩:=h.ok I.hok
  exact ⟨its,r,⟨_,n,e,rfl,rfl,rfl⟩,z⟩
 ·refine ⟨its.toList,r,⟨o,n,I.kIn a o hk,hc,hd,by simpa using hs⟩,?_⟩
  have e:=r.length
  simp only [Array.length_toList]at e
  omega
theorem Inv.tuple (I:Inv X pins Z H s) (h:SqT X.K H a xs): ∃ its:List Value,Vals xs its/\IsTup s.heap a its.toArray/\xs.length<=sizeLine:=by
 rcases h with h | ⟨o,its,n,hk,hc,hs,hz,r⟩
 ·obtain ⟨z,its,r,p⟩:=h.ok I.hok
  exact ⟨its,r,p,z⟩
 ·refine ⟨its.toList,r,⟨o,I.kIn a o hk,hc,n,by simpa using hs⟩,?_⟩
  have e:=r.length
  simp only [Array.length_toList]at e
  omega
theorem Inv.list_inj (I:Inv X pins Z H s) (h:SqL X.K H a xs) (h':SqL X.K H a ys):xs=ys:=by
 obtain ⟨its,r,⟨o,n,e,_,_,d⟩,_⟩:=I.list h
 obtain ⟨its',r',⟨o',n',e',_,_,d'⟩,_⟩:=I.list h'
 rw [e]at e';cases e'
 rw [d]at d'
 injection d' with d1 _
 have:its=its':=by simpa using congrArg Array.toList d1
 subst this
 exact r.inj r'
theorem Inv.tuple_inj (I:Inv X pins Z H s) (h:SqT X.K H a xs) (h':SqT X.K H a ys):xs=ys:=by
 obtain ⟨its,r,⟨o,e,_,n,d⟩,_⟩:=I.tuple h
 obtain ⟨its',r',⟨o',e',_,n',d'⟩,_⟩:=I.tuple h'
 rw [e]at e';cases e'
 rw [d]at d'
 injection d' with d1 _
 have:its=its':=by simpa using congrArg Array.toList d1
 subst this
 exact r.inj r'
end
noncomputable abbrev Cx.wish (X:Cx) (E:Value->Shared->Prop):Cx:={X with xe:=E}
noncomputable abbrev Cx.nox (X:Cx):Cx:=X.wish fun _ _=>False
theorem Cx.Ok.wish {X:Cx} (ok:X.Ok) (E:Value->Shared->Prop):(X.wish E).Ok:=
 ⟨ok.mod,ok.kind,ok.glob,ok.blt,ok.above,ok.inj,ok.has,ok.cab,ok.hd,ok.frames,ok.stk,ok.exf,ok.bs,ok.bsz,ok.noex,ok.exfs,ok.funs,ok.frf⟩
theorem Cx.Ok.unwish {X:Cx} {E:Value->Shared->Prop} (ok:(X.wish E).Ok):X.Ok:=
 ⟨ok.mod,ok.kind,ok.glob,ok.blt,ok.above,ok.inj,ok.has,ok.cab,ok.hd,ok.frames,ok.stk,ok.exf,ok.bs,ok.bsz,ok.noex,ok.exfs,ok.funs,ok.frf⟩
section
variable {X:Cx} {pins:List (Addr×Obj)} {Z:St} {H:Hp} {s:Shared} {E:Value->Shared->Prop}
theorem Inv.wish (I:Inv X pins Z H s) (E:Value->Shared->Prop):Inv (X.wish E) pins Z H s:=⟨I.ok.wish E,I.os,I.bare,I.base,I.loc,I.cell,I.free,I.freeC,I.pin,I.hok,I.len⟩
theorem Inv.unwish (I:Inv (X.wish E) pins Z H s):Inv X pins Z H s:=⟨I.ok.unwish,I.os,I.bare,I.base,I.loc,I.cell,I.free,I.freeC,I.pin,I.hok,I.len⟩
theorem SP.unwish {D:fw} {f:Flow} {s':Shared} (h:SP (X.wish E) pins D f s'):SP X pins D f s':=by
 cases f with
 | next=>obtain ⟨Z',H',I,q⟩:=h;exact ⟨Z',H',I.unwish,q⟩
 | brk=>obtain ⟨Z',H',I,q⟩:=h;exact ⟨Z',H',I.unwish,q⟩
 | cont=>obtain ⟨Z',H',I,q⟩:=h;exact ⟨Z',H',I.unwish,q⟩
 | ret u=>obtain ⟨v,Z',H',I,r,q⟩:=h;exact ⟨v,Z',H',I.unwish,r,q⟩
theorem PSs.nox {st:List Stmt} {t:TS} (h:PSs X.nox st t):PSs X st t:=fun pins s Z H D I hw=>
 wpAny_mono (h pins s Z H D (I.wish _) hw) (fun _ _ q=>q.unwish) fun _ _ z=>False.elim z
end
section
variable {X:Cx} {st:Stmt} {rest:List Stmt} {t u:TS} {e:Expr} {te:TE} {pos:Pos}
noncomputable def uK:TS:=fun D Z H=>D.nx Z H
noncomputable def oE (t u:TS):TS:=fun D Z H=>t {D with nx:=u D} Z H
theorem aE:PSs X [] uK:=fun _ _ Z H _ I h=>wpAny_execs_nil ⟨Z,H,I,h⟩
theorem af (h1:PS X st t) (h2:PSs X rest u):PSs X (st::rest) (oE t u):=by
 intro pins s Z H D I h
 refine wpAny_execs_cons (thn (h1 pins s Z H {D with nx:=u D} I h) fun f s1 q=>?_)
 cases f with
 | next=>
  obtain ⟨Z',H',I',q⟩:=q
  exact h2 pins s1 Z' H' D I' q
 | ret v=>exact q
 | brk=>exact q
 | cont=>exact q
theorem ak (h1:PS X st t):PSs X [st] t:=by
 intro pins s Z H D I h
 refine wpAny_execs_cons (thn (h1 pins s Z H D I h) fun f s1 q=>?_)
 cases f with
 | next=>exact wpAny_execs_nil q
 | ret v=>exact q
 | brk=>exact q
 | cont=>exact q
theorem Inv.quiet {pins:List (Addr×Obj)} {Z:St} {H:Hp} {s:Shared} (I:Inv X pins Z H s):interactive X.env=false:=by simp [interactive,I.ok.kind]
noncomputable def uN (te:TE):TS:=fun D Z H=>te Z H fun _ H1=>D.nx Z H1
theorem bY (he:PE X e te) (hs:swapsWith e none pos.line X.env=pure false:=by rfl):PS X (.Expr e pos) (uN te):=by
 intro pins s Z H D I h
 exact wpAny_Expr_any (thn (he pins s Z H _ I h) fun v s1 ⟨x,H1,I1,r1,q1⟩=>⟨Z,H1,I1,q1⟩) I.quiet hs
noncomputable def uF (te:TE):TS:=fun D Z H=>te Z H D.rt
theorem ar (he:PE X e te):PS X (.Return (some e) pos) (uF te):=by
 intro pins s Z H D I h
 exact wpAny_Return_some (thn (he pins s Z H _ I h) fun v s1 ⟨x,H1,I1,r1,q1⟩=>⟨x,Z,H1,I1,r1,q1⟩)
noncomputable def uM (c:TT) (t u:TS):TS:=fun D Z H=>c Z H fun b H1=>if b=true then t D Z H1 else u D Z H1
theorem aV {c:Expr} {a b:List Stmt} {tc:TT} (hc:PT X c tc) (ha:PSs X a t) (hb:PSs X b u):PS X (.If c a b pos) (uM tc t u):=by
 intro pins s Z H D I h
 refine wpAny_If (thn (hc pins s Z H _ I h) fun d s1 ⟨H1,I1,q1⟩=>?_)
 cases d with
 | true=>exact ha pins s1 Z H1 D I1 q1
 | false=>exact hb pins s1 Z H1 D I1 q1
noncomputable def sS:TS:=fun _ _ _=>False
theorem mZ {sts:List Stmt}:PSs X sts sS:=fun _ _ _ _ _ _ h=>h.elim
end
noncomputable abbrev TG:=V->St->Hp->(St->Hp->Prop)->Prop
noncomputable abbrev TGs:=List V->St->Hp->(St->Hp->Prop)->Prop
noncomputable def PG (X:Cx) (target:Expr) (t:TG):Prop:=
 ∀ (pins:List (Addr×Obj)) (s:Shared) (Z:St) (H:Hp) (v:V) (u:Value) (Q:St->Hp->Prop),Inv X pins Z H s->RelV v u->t v Z H Q->
  wpAny (model X.prog X.w) X.A (assign target X.env u) (fun _ s'=> ∃ Z' H',Inv X pins Z' H' s'/\Q Z' H') X.xe s
noncomputable def PGs (X:Cx) (ts:List Expr) (t:TGs):Prop:=
 ∀ (pins:List (Addr×Obj)) (s:Shared) (Z:St) (H:Hp) (vs:List V) (us:List Value) (Q:St->Hp->Prop),Inv X pins Z H s->Vals vs us->t vs Z H Q->
  wpAny (model X.prog X.w) X.A (assignInOrder ((assignEach ts X.env).map (·.2)) us) (fun _ s'=> ∃ Z' H',Inv X pins Z' H' s'/\Q Z' H') X.xe s
noncomputable abbrev uA:=V->V->V->Hp->(Hp->Prop)->Prop
noncomputable def vy (X:Cx) (t:uA):Prop:=
 ∀ (pins:List (Addr×Obj)) (s:Shared) (Z:St) (H:Hp) (o i v:V) (ov iv u:Value) (Q:Hp->Prop),Inv X pins Z H s->RelV o ov->RelV i iv->RelV v u->t o i v H Q->
  wpAny (model X.prog X.w) X.A (setItem ov iv u) (fun _ s'=> ∃ H',Inv X pins Z H' s'/\Q H') X.xe s
noncomputable abbrev TIp:=V->V->Hp->VK->Prop
noncomputable def PIp (X:Cx) (op:Operator) (t:TIp):Prop:=
 ∀ (pins:List (Addr×Obj)) (s:Shared) (Z:St) (H:Hp) (x y:V) (v u:Value) (Q:VK),Inv X pins Z H s->RelV x v->RelV y u->t x y H Q->
  wpAny (model X.prog X.w) X.A (inplaceOp op v u) (EP X pins Z Q) X.xe s
section
variable {X:Cx} {pos:Pos}
noncomputable def eK (i:Nat):TG:=fun v Z H Q=>Q (Z.set i (some v)) H
theorem bZ {i:Nat} {x:Str} (hN:X.N.Nodup) (hi:X.N[i]? =some x) (hx:Loc X.env.scope x) (hf:X.fn x=true\/X.env.scope.names.lookup x=some .local:=by first | exact .inl rfl | exact .inr rfl | assumption):PG X (.Name x pos) (eK i):=by
 intro pins s Z H v u Q I r h
 exact wpAny_assign_Name (fX I hN hi hx r (fun s' I'=>⟨_,H,I',h⟩) hf)
noncomputable def vn:TGs:=fun vs Z H Q=>vs=[]/\Q Z H
noncomputable def qu (t:TG) (u:TGs):TGs:=fun vs Z H Q=> ∃ v r,vs=v::r/\t v Z H fun Z' H'=>u r Z' H' Q
theorem iH:PGs X [] vn:=by
 intro pins s Z H vs us Q I r h
 obtain ⟨e,h⟩:=h
 subst e
 cases r
 exact assignInOrder_nil ⟨Z,H,I,h⟩
theorem cZ {e:Expr} {es:List Expr} {t:TG} {u:TGs} (h1:PG X e t) (h2:PGs X es u)
  (hs:(assignEach (e::es) X.env).map (·.2)=assign e X.env::(assignEach es X.env).map (·.2):=by rfl):PGs X (e::es) (qu t u):=by
 intro pins s Z H vs us Q I r h
 obtain ⟨v,vr,e1,h⟩:=h
 subst e1
 cases r with
 | cons r rr=>
  rw [hs]
  refine assignInOrder_cons (thn (h1 pins s Z H _ _ _ I r h) fun _ s1 ⟨Z1,H1,I1,q1⟩=>?_)
  exact h2 pins s1 Z1 H1 _ _ Q I1 rr q1
noncomputable def vm (K:PySem.W.Frag) (n:Nat) (t:TGs):TG:=fun v Z H Q=> ∃ a xs,v=.ref a/\SqT K H a xs/\xs.length=n/\t xs Z H Q
theorem kw {es:List Expr} {k:Nat} {t:TGs} {n:Nat} (hc:X.calm=true) (h:PGs X es t)
  (hn:(assignEach es X.env).length=n:=by rfl) (hst:(assignEach es X.env).findIdx? (·.1)=none:=by rfl):PG X (.Tuple es k pos) (vm X.K n t):=by
 intro pins s Z H v u Q I r hw
 obtain ⟨a,xs,e1,hq,hl,hw⟩:=hw
 subst e1
 cases r
 obtain ⟨its,rv,ht,hz⟩:=I.tuple hq
 refine assign_Tuple_tuple (I.ok.hd hc) ht (by simp [hn,<- hl,rv.length]) hst fun h' hx=>?_
 have I1:Inv X pins Z H {s with heap:=h'}:=I.kept (t':=s.toks) fun b o e=>hx b o (Nat.ne_of_lt (Heap.lt_size e)) e
 exact h pins _ Z H xs _ Q I1 (by simpa using rv) hw
noncomputable def v4 (to ti:TE) (t:uA):TG:=fun v Z H Q=>to Z H fun o H1=>ti Z H1 fun i H2=>t o i v H2 fun H3=>Q Z H3
theorem tQ {o i:Expr} {to ti:TE} {t:uA} (ho:PE X o to) (hi:PE X i ti) (hs:vy X t)
  (ha: ∀ v,assign (.Subscript o i pos) X.env v=(do
   let ov <- holding [v] (eval o X.env)
   let iv <- holding [v,ov] (eval i X.env)
   standAt pos
   holding [v,ov,iv] (setItem ov iv v)
   release [v,ov,iv] []):=by intro _;rfl):PG X (.Subscript o i pos) (v4 to ti t):=by
 intro pins s Z H v u Q I r h
 rw [ha]
 refine wpAny_bind (wpAny_holding (thn (ho pins s Z H _ I h) fun ov s1 ⟨x,H1,I1,r1,q1⟩=>?_))
 refine wpAny_bind (wpAny_holding (thn (hi pins s1 Z H1 _ I1 q1) fun iv s2 ⟨y,H2,I2,r2,q2⟩=>?_))
 refine wpAny_bind (wpAny_standAt (wpAny_bind (wpAny_holding (thn (hs pins s2 Z H2 x y v ov iv u _ I2 r1 r2 r q2) fun _ s3 ⟨H3,I3,q3⟩=>?_))))
 exact wpAny_release ⟨Z,H3,I3,q3⟩
noncomputable def mw (te:TE) (g:TG):TS:=fun D Z H=>te Z H fun x H1=>g x Z H1 D.nx
theorem tJ {tg e:Expr} {te:TE} {g:TG} (he:PE X e te) (hg:PG X tg g) (hs:swapsWithSole [tg] e pos.line X.env=pure false:=by rfl) (hw:swappedStores [tg] e X.env=pure none:=by rfl)
  (h1:(assignEach [tg] X.env).map (·.2)=[assign tg X.env]:=by rfl):PS X (.Assign [tg] e pos) (mw te g):=by
 intro pins s Z H D I h
 refine wpAny_Assign_stores (thn (he pins s Z H _ I h) fun v s1 ⟨x,H1,I1,r1,q1⟩=>?_) hs hw
 rw [h1]
 exact thn (hg pins s1 Z H1 x v _ I1 r1 q1) fun _ s2 q=>q
theorem av {i:Nat} {x:Str} {e:Expr} {te:TE} {pos':Pos} (hN:X.N.Nodup) (hi:X.N[i]? =some x) (hx:Loc X.env.scope x) (he:PE X e te) (hs:swapsWith e (some (.Name x pos')) pos.line X.env=pure false:=by rfl) (hf:X.fn x=true\/X.env.scope.names.lookup x=some .local:=by first | exact .inl rfl | exact .inr rfl | assumption):
  PS X (.Assign [.Name x pos'] e pos) (mw te (eK i)):=by
 intro pins s Z H D I h
 refine wpAny_Assign_Name (thn (he pins s Z H _ I h) fun v s1 ⟨y,H1,I1,r1,q1⟩=>?_) hs
 exact fX I1 hN hi hx r1 (fun s2 I2=>⟨_,H1,I2,q1⟩) hf
noncomputable def vD (i:Nat) (te:TE) (ti:TIp):TS:=fun D Z H=> ∃ x,Z[i]? =some (some x)/\te Z H fun y H1=>ti x y H1 fun z H2=>D.nx (Z.set i (some z)) H2
theorem tI {i:Nat} {x:Str} {e:Expr} {te:TE} {op:Operator} {ti:TIp} {pos':Pos} (hN:X.N.Nodup) (hi:X.N[i]? =some x) (hx:Loc X.env.scope x) (he:PE X e te) (ho:PIp X op ti) (hf:X.fn x=true\/X.env.scope.names.lookup x=some .local:=by first | exact .inl rfl | exact .inr rfl | assumption):
  PS X (.AugAssign (.Name x pos') op e pos) (vD i te ti):=by
 intro pins s Z H D I h
 obtain ⟨v,e1,h⟩:=h
 obtain ⟨m,hn,hl⟩:=I.loc
 have vis:Vis X.env.scope x:=by rcases hx with k | k;exact .inl k;exact .inr (.inl k)
 obtain ⟨u,r,l⟩:=hl i x v hi e1 vis
 refine wpAny_AugAssign_Name ?_
 have go:wpAny (model X.prog X.w) X.A (eval e X.env) (fun w s₂=>wpAny (model X.prog X.w) X.A (inplaceOp op u w) (fun r s₃=>wpAny (model X.prog X.w) X.A (storeName X.env x r) (fun _=>SP X pins D .next) X.xe s₃) X.xe s₂) X.xe s:=by
  refine thn (he pins s Z H _ I h) fun w s1 ⟨y,H1,I1,r1,q1⟩=>?_
  refine thn (ho pins s1 Z H1 v y u w _ I1 r r1 q1) fun z s2 ⟨zv,H2,I2,r2,q2⟩=>?_
  exact fX I2 hN hi hx r2 (fun s3 I3=>⟨_,H2,I3,q2⟩) hf
 rcases l with ⟨hk,hm⟩ | ⟨hk,c,hc,hcell⟩
 ·exact wpAny_loadName_local I.ok.kind hk hn hm go
 ·rcases hk with hk | hk
  ·exact wpAny_loadName_cell I.ok.kind hk hc hcell go
  ·rcases hx with k | k
   ·have:X.env.scope.names.lookup x=some .free:=hk
    rw [k]at this;cases this
   ·have:X.env.scope.names.lookup x=some .free:=hk
    rw [k]at this;cases this
noncomputable def ipI (f:Int->Int->Int):TIp:=fun x y H Q=> ∃ i j,x=.int i/\y=.int j/\Q (.int (f i j)) H
theorem ug:PIp X .Add (ipI fun i j=>i+j):=by
 intro pins s Z H x y v u Q I r1 r2 h
 obtain ⟨i,j,e1,e2,q⟩:=h
 subst e1;subst e2
 obtain ⟨t,rfl⟩:=r1
 obtain ⟨t',rfl⟩:=r2
 exact iadd_int ⟨.int _,H,I.tok _,⟨_,rfl⟩,q⟩
end
section
variable {X:Cx} {pos:Pos}
noncomputable def oD (c:TT) (tb:TS):TS:=fun D Z H=> ∃ W:Nat->St->Hp->Prop,(∃ m,W m Z H)/\ ∀ m Z H,W m Z H->
 c Z H fun b H1=>if b=true then ∃ N:St->Hp->Prop,(∀ Z' H',N Z' H'-> ∃ m',m'<m/\W m' Z' H')/\tb {D with nx:=N,ct:=N,bk:=D.nx} Z H1 else D.nx Z H1
theorem eB {c:Expr} {body:List Stmt} {tc:TT} {tb:TS} (hp:PassesOwn (model X.prog X.w) X.A X.env X.xe) (hc:PT X c tc) (hb:PSs X body tb):PS X (.While c body [] pos) (oD tc tb):=by
 intro pins s Z H D I h
 obtain ⟨W,⟨m0,w0⟩,turn⟩:=h
 refine wpAny_While (codeAny_whileLoop (fun n s'=> ∃ Z' H',Inv X pins Z' H' s'/\W n Z' H') ?_ m0 ⟨Z,H,I,w0⟩)
 rintro n s1 ⟨Z1,H1,I1,w1⟩
 refine wpAny_passesOwn hp (thn (hc pins s1 Z1 H1 _ I1 (turn n Z1 H1 w1)) fun b s2 ⟨H2,I2,q2⟩=>?_)
 cases b with
 | true=>
  obtain ⟨N,hN,q2⟩:=q2
  rw [if_pos rfl]
  refine wpAny_passesOwn hp (thn (hb pins s2 Z1 H2 _ I2 q2) fun f s3 q3=>?_)
  cases f with
  | next=>
   obtain ⟨Z3,H3,I3,n3⟩:=q3
   obtain ⟨m',hm,w3⟩:=hN Z3 H3 n3
   exact ⟨m',hm,Z3,H3,I3,w3⟩
  | cont=>
   obtain ⟨Z3,H3,I3,n3⟩:=q3
   obtain ⟨m',hm,w3⟩:=hN Z3 H3 n3
   exact ⟨m',hm,Z3,H3,I3,w3⟩
  | brk=>exact q3
  | ret v=>exact q3
 | false=>
  rw [if_neg Bool.false_ne_true]
  exact wpAny_execs_nil ⟨Z1,H2,I2,q2⟩
end
structure It where
 go:Nat->Hp->Prop
 yld:Nat->Hp->V->Hp->Prop
 stop:Nat->Hp->Prop
noncomputable def eS (X:Cx) (pins:List (Addr×Obj)) (H:Hp) (b:Addr):Prop:=
 H b=none/\b≠X.env.locals/\b∉X.fs/\(b∈X.ex\/X.s₀.heap.objs.size<=b)/\(∀ x c,X.env.cells.lookup x=some c->c≠b)/\ ∀ p∈X.pn++pins,p.1≠b
theorem Inv.fpOk {X:Cx} {pins:List (Addr×Obj)} {Z:St} {H H':Hp} {s:Shared} {b:Addr} (I:Inv X pins Z H s) (hb:s.heap.objs.size<=b) (hn:H' b=none):eS X pins H' b:=by
 refine ⟨hn,Nat.ne_of_gt (Nat.lt_of_lt_of_le I.lt hb),I.nofs hb,.inr (Nat.le_trans I.sz hb),fun x c e z=>?_,fun p hp z=>?_⟩
 ·obtain ⟨v,q⟩:=I.cell x c e
  exact absurd (Nat.lt_of_lt_of_le q.lt (by rw [z];exact hb)) (Nat.lt_irrefl _)
 ·exact absurd (Nat.lt_of_lt_of_le (Heap.lt_size (I.pin p hp).1) (by rw [z];exact hb)) (Nat.lt_irrefl _)
structure iU (P:Program) (w:World) (K:PySem.W.Frag) (tg:Expr) (J:It) (fp:List Addr) (it:Addr) (tn:Nat->Heap->Prop):Prop where
 mem:it∈fp
 obj: ∀ i h,tn i h-> ∀ b∈fp,∃ o,h.get? b=some o/\ ∀ v,o.data≠ .cell v
 keep: ∀ i h h',tn i h->(∀ b∈fp,∀ o,h.get? b=some o->h'.get? b=some o)->tn i h'
 item: ∀ (X:Cx),X.prog=P->X.w=w->X.K=K->X.calm=true-> ∀ (i:Nat) (pins:List (Addr×Obj)) (s:Shared) (Z:St) (H:Hp) (E:Value->Shared->Prop),Inv X pins Z H s->(∀ b∈fp,eS X pins H b)->tn i s.heap->J.go i H->
  wpAny (model P w) X.A (pyNext (.ref it)) (fun r s1=> ∃ u,r=some u/\
   wpAny (model P w) X.A (letOwnedTupleGo tg (.ref it) u) (fun _ s2=> ∃ x H',Inv X pins Z H' s2/\RelV x u/\J.yld i H x H'/\tn (i+1) s2.heap/\ ∀ b∈fp,H' b=none) E s1) E s
 done: ∀ (X:Cx),X.prog=P->X.w=w->X.K=K->X.calm=true-> ∀ (i:Nat) (pins:List (Addr×Obj)) (s:Shared) (Z:St) (H:Hp) (E:Value->Shared->Prop),Inv X pins Z H s->(∀ b∈fp,eS X pins H b)->tn i s.heap->J.stop i H->
  wpAny (model P w) X.A (pyNext (.ref it)) (fun r s1=>r=none/\Inv X pins Z H s1) E s
 self: ∀ (A:Around) (i:Nat) (s:Shared) (Q:Value->Shared->Prop) (E:Value->Shared->Prop),tn i s.heap->Q (.ref it) s->wpAny (model P w) A (pyIter (.ref it)) Q E s
noncomputable abbrev TI:=St->Hp->(It->Hp->Prop)->Prop
noncomputable def PIE (X:Cx) (pins:List (Addr×Obj)) (Z:St) (tg:Expr) (R:It->Hp->Prop) (itv:Value) (s2:Shared):Prop:=
 ∃ (it:Addr) (fp:List Addr) (tn:Nat->Heap->Prop) (J:It) (H':Hp),itv=.ref it/\Inv X pins Z H' s2/\iU X.prog X.w X.K tg J fp it tn/\tn 0 s2.heap/\(∀ b∈fp,eS X pins H' b)/\R J H'
noncomputable def PI (X:Cx) (tg iter:Expr) (wi:TI):Prop:=
 ∀ (pins:List (Addr×Obj)) (s:Shared) (Z:St) (H:Hp) (R:It->Hp->Prop),Inv X pins Z H s->wi Z H R->
  wpAny (model X.prog X.w) X.A (eval iter X.env) (fun v s1=>wpAny (model X.prog X.w) X.A (pyIter v) (PIE X pins Z tg R) X.xe s1) X.xe s
theorem jJ {M:Model} {A:Around} {E:Value->Shared->Prop} {s:Shared} {tg:Expr} {it:Addr} {u:Value} {o:Obj} {n:String} {vs:Array Value} {Q:Unit->Shared->Prop} (ho:s.heap.get? it=some o) (hc:o.cls=.type n) (hd:o.data=.fields vs)
  (hn:["enumerate","zip","dict_itemiterator","dict_reverseitemiterator","odict_iterator","itertools.zip_longest","itertools.pairwise"].contains n=false) (hQ:Q () s):wpAny M A (letOwnedTupleGo tg (.ref it) u) Q E s:=by
 unfold letOwnedTupleGo
 cases tg <;> first
  | exact wpAny_pure hQ
  | (cases u <;> first
    | exact wpAny_pure hQ
    | (refine wpAny_bind (wpAny_load ho ?_)
       rw [hc,hd]
       show wpAny M A (if (["enumerate","zip","dict_itemiterator","dict_reverseitemiterator","odict_iterator","itertools.zip_longest","itertools.pairwise"].contains n&&vs[0]? ==some (rawInt _))=true then _ else _) Q E s
       rw [if_neg (by intro h;rw [hn,Bool.false_and]at h;cases h)]
       exact wpAny_pure hQ))
noncomputable def Itl (K:PySem.W.Frag) (a:Addr):It:=
 ⟨fun i H=> ∃ xs x,SqL K H a xs/\xs[i]? =some x,fun i H x H'=>H'=H/\ ∀ xs,SqL K H a xs->xs[i]? =some x,fun i H=> ∃ xs,SqL K H a xs/\xs.length<=i⟩
noncomputable def Itt (K:PySem.W.Frag) (a:Addr):It:=
 ⟨fun i H=> ∃ xs x,SqT K H a xs/\xs[i]? =some x,fun i H x H'=>H'=H/\ ∀ xs,SqT K H a xs->xs[i]? =some x,fun i H=> ∃ xs,SqT K H a xs/\xs.length<=i⟩
noncomputable def Itr (lo:Int) (n:Nat):It:=⟨fun i _=>i<n,fun i H x H'=>H'=H/\x=.int (lo+i),fun i _=>n<=i⟩
theorem gS {P:Program} {w:World} {K:PySem.W.Frag} {tg:Expr} (a it:Addr):iU P w K tg (Itl K a) [it] it (fun i h=>h.IsListIter it a i) where
 mem:=by simp
 obj:=fun i h st b hb=>by
  have e:b=it:=by simpa using hb
  subst e
  obtain ⟨o,e,c,d⟩:=st
  exact ⟨o,e,fun v z=>by rw [d]at z;cases z⟩
 keep:=fun i h h' st k=>st.at fun o e=>k it (by simp) o e
 item:=by
  intro X hP hw hK hc i pins s Z H E I hf st hg
  subst hP hw hK
  obtain ⟨xs,x,hq,hx⟩:=hg
  obtain ⟨its,rv,p,hz⟩:=I.list hq
  obtain ⟨u,hu,ru⟩:=rv.get hx
  obtain ⟨f0,f1,f2,f3,f4,f5⟩:=hf it (by simp)
  refine wpAny_pyNext_list_item st p.isList (x:=u) (by simpa using hu) fun h' st' sb=>?_
  have I1:Inv X pins Z H {s with heap:=h'}:=I.turned (t':=s.toks) (fun b o hb e=>(sb.2 b hb).trans e) f0 f1 f3 f4 f5
  obtain ⟨o,e,c,d⟩:=id st'
  exact ⟨u,rfl,jJ (s:={s with heap:=h'}) e c d (by decide) ⟨x,H,I1,ru,⟨rfl,fun ys hy=>by rw [I.list_inj hy hq];exact hx⟩,st',fun b hb=>(hf b hb).1⟩⟩
 done:=by
  intro X hP hw hK hc i pins s Z H E I hf st hg
  subst hP hw hK
  obtain ⟨xs,hq,hx⟩:=hg
  obtain ⟨its,rv,p,hz⟩:=I.list hq
  obtain ⟨f0,f1,f2,f3,f4,f5⟩:=hf it (by simp)
  have hl:=rv.length
  exact wpAny_pyNext_list_end (I.ok.hd hc) st p.isList (by simp;omega) fun h' eb=>⟨rfl,I.turned (t':=s.toks) (fun b o hb e=>eb b o hb e) f0 f1 f3 f4 f5⟩
 self:=fun _ _ _ _ _ st h=>wpAny_pyIter_listiter st h
theorem j7 {P:Program} {w:World} {K:PySem.W.Frag} {tg:Expr} (a it:Addr):iU P w K tg (Itt K a) [it] it (fun i h=>h.IsTupleIter it a i) where
 mem:=by simp
 obj:=fun i h st b hb=>by
  have e:b=it:=by simpa using hb
  subst e
  obtain ⟨o,e,c,d⟩:=st
  exact ⟨o,e,fun v z=>by rw [d]at z;cases z⟩
 keep:=fun i h h' st k=>st.at fun o e=>k it (by simp) o e
 item:=by
  intro X hP hw hK hc i pins s Z H E I hf st hg
  subst hP hw hK
  obtain ⟨xs,x,hq,hx⟩:=hg
  obtain ⟨its,rv,p,hz⟩:=I.tuple hq
  obtain ⟨u,hu,ru⟩:=rv.get hx
  obtain ⟨f0,f1,f2,f3,f4,f5⟩:=hf it (by simp)
  refine wpAny_pyNext_tuple_item st (show s.heap.IsTuple a its.toArray from p) (x:=u) (by simpa using hu) fun h' st' sb=>?_
  have I1:Inv X pins Z H {s with heap:=h'}:=I.turned (t':=s.toks) (fun b o hb e=>(sb.2 b hb).trans e) f0 f1 f3 f4 f5
  obtain ⟨o,e,c,d⟩:=id st'
  exact ⟨u,rfl,jJ (s:={s with heap:=h'}) e c d (by decide) ⟨x,H,I1,ru,⟨rfl,fun ys hy=>by rw [I.tuple_inj hy hq];exact hx⟩,st',fun b hb=>(hf b hb).1⟩⟩
 done:=by
  intro X hP hw hK hc i pins s Z H E I hf st hg
  subst hP hw hK
  obtain ⟨xs,hq,hx⟩:=hg
  obtain ⟨its,rv,p,hz⟩:=I.tuple hq
  obtain ⟨f0,f1,f2,f3,f4,f5⟩:=hf it (by simp)
  have hl:=rv.length
  exact wpAny_pyNext_tuple_end (I.ok.hd hc) st (show s.heap.IsTuple a its.toArray from p) (by simp;omega) fun h' eb=>⟨rfl,I.turned (t':=s.toks) (fun b o hb e=>eb b o hb e) f0 f1 f3 f4 f5⟩
 self:=fun _ _ _ _ _ st h=>wpAny_pyIter_tupleiter st h
theorem j8 {P:Program} {w:World} {K:PySem.W.Frag} {tg:Expr} (it:Addr) (lo:Int) (n:Nat):iU P w K tg (Itr lo n) [it] it (fun i h=>IsRangeIter h it (lo+ (i:Nat) *1) ((n:Int) - (i:Nat)) 1) where
 mem:=by simp
 obj:=fun i h st b hb=>by
  have e:b=it:=by simpa using hb
  subst e
  exact ⟨_,st,fun v z=>by
   have z':Data.fields _=Data.cell v:=z
   cases z'⟩
 keep:=fun i h h' st k=>k it (by simp) _ st
 item:=by
  intro X hP hw hK hc i pins s Z H E I hf st hg
  subst hP hw hK
  obtain ⟨f0,f1,f2,f3,f4,f5⟩:=hf it (by simp)
  have W:=Walks.range (prog:=X.prog) (w:=X.w) (I.ok.hd hc) it lo 1 n
  refine W.item i s _ _ hg st fun v h' tk hv st' kk=>?_
  obtain ⟨t,rfl⟩:=hv
  have I1:Inv X pins Z H {s with heap:=h',toks:=tk}:=I.turned (fun b o hb e=>kk b o (by simpa using hb) e) f0 f1 f3 f4 f5
  refine ⟨_,rfl,jJ (s:={s with heap:=h',toks:=tk}) (n:="range_iterator") st' rfl rfl (by decide) ⟨.int (lo+i),H,I1,⟨t,?_⟩,⟨rfl,rfl⟩,st',fun b hb=>(hf b hb).1⟩⟩
  rw [Int.mul_one]
 done:=by
  intro X hP hw hK hc i pins s Z H E I hf st hg
  subst hP hw hK
  obtain ⟨f0,f1,f2,f3,f4,f5⟩:=hf it (by simp)
  exact wpAny_pyNext_range_end (I.ok.hd hc) st (by have:n<=i:=hg;omega) fun h' eb=>⟨rfl,I.turned (t':=s.toks) (fun b o hb e=>eb b o hb e) f0 f1 f3 f4 f5⟩
 self:=fun _ _ _ _ _ st h=>wpAny_pyIter_rangeiter st h
section
variable {X:Cx} {tg:Expr}
noncomputable def sE (K:PySem.W.Frag) (tl:TE):TI:=fun Z H R=>tl Z H fun x H1=> ∃ a,x=.ref a/\(∃ xs,SqL K H1 a xs)/\R (Itl K a) H1
noncomputable def vS (K:PySem.W.Frag) (tl:TE):TI:=fun Z H R=>tl Z H fun x H1=> ∃ a,x=.ref a/\(∃ xs,SqT K H1 a xs)/\R (Itt K a) H1
theorem rz {l:Expr} {tl:TE} (hl:PE X l tl):PI X tg l (sE X.K tl):=by
 intro pins s Z H R I h
 refine thn (hl pins s Z H _ I h) fun v s1 ⟨x,H1,I1,r1,q1⟩=>?_
 obtain ⟨a,e,⟨xs,hq⟩,q⟩:=q1
 subst e
 cases r1
 obtain ⟨its,rv,p,hz⟩:=I1.list hq
 refine wpAny_pyIter_list p.isList ?_
 refine ⟨s1.heap.objs.size,[s1.heap.objs.size],_,_,H1,rfl,I1.kept (t':=s1.toks) fun b o e=>Heap.get?_push_of_some _ e,gS a _,⟨_,Heap.get?_push_size _ rfl,rfl,rfl⟩,fun b hb=>?_,q⟩
 have e:b=s1.heap.objs.size:=by simpa using hb
 subst e
 exact I1.fpOk (Nat.le_refl _) (I1.hok.fresh (Nat.le_refl _))
theorem tL {l:Expr} {tl:TE} (hl:PE X l tl):PI X tg l (vS X.K tl):=by
 intro pins s Z H R I h
 refine thn (hl pins s Z H _ I h) fun v s1 ⟨x,H1,I1,r1,q1⟩=>?_
 obtain ⟨a,e,⟨xs,hq⟩,q⟩:=q1
 subst e
 cases r1
 obtain ⟨its,rv,p,hz⟩:=I1.tuple hq
 refine wpAny_pyIter_tuple (show s1.heap.IsTuple a its.toArray from p) ?_
 refine ⟨s1.heap.objs.size,[s1.heap.objs.size],_,_,H1,rfl,I1.kept (t':=s1.toks) fun b o e=>Heap.get?_push_of_some _ e,j7 a _,⟨_,Heap.get?_push_size _ rfl,rfl,rfl⟩,fun b hb=>?_,q⟩
 have e:b=s1.heap.objs.size:=by simpa using hb
 subst e
 exact I1.fpOk (Nat.le_refl _) (I1.hok.fresh (Nat.le_refl _))
theorem jh {pins:List (Addr×Obj)} {Z:St} {H:Hp} {s:Shared} {R:It->Hp->Prop} {E:Value->Shared->Prop} {lo hi:Int} {t u v:Tok} {tk:Nat} (I:Inv X pins Z H s) (h1: -(2^62)<=lo) (h2:lo<2^62) (h3: -(2^62)<=hi) (h4:hi<2^62)
  (q:R (Itr lo (hi-lo).toNat) H):wpAny (model X.prog X.w) X.A (pyIter (.ref s.heap.objs.size)) (PIE X pins Z tg R) E {s with heap:=s.heap.push {cls:=.type "range",data:=.fields #[.int lo t,.int hi u,.int 1 v]},toks:=tk}:=by
 refine wpAny_pyIter_range (IsRange.new ..) (small_one h1 h2 h3 h4) ?_
 have I1:Inv X pins Z H {s with heap:=s.heap.push {cls:=.type "range",data:=.fields #[.int lo t,.int hi u,.int 1 v]},toks:=tk}:=I.kept fun b o e=>Heap.get?_push_of_some _ e
 refine ⟨(s.heap.push {cls:=.type "range",data:=.fields #[.int lo t,.int hi u,.int 1 v]}).objs.size,[(s.heap.push {cls:=.type "range",data:=.fields #[.int lo t,.int hi u,.int 1 v]}).objs.size],_,_,H,rfl,
  I1.kept (t':=tk) fun b o e=>Heap.get?_push_of_some _ e,j8 _ lo (hi-lo).toNat,?_,fun b hb=>?_,q⟩
 ·have e1:lo+ ((0:Nat):Int) *1=lo:=by simp
  have e2:(((hi-lo).toNat:Nat):Int) - ((0:Nat):Int)=Builtin.Range.rangeSize lo hi 1:=by rw [rangeSize_one];split <;> omega
  show IsRangeIter _ _ (lo+ ((0:Nat):Int) *1) ((((hi-lo).toNat:Nat):Int) - ((0:Nat):Int)) 1
  rw [e1,e2]
  exact Heap.get?_push_size _ rfl
 ·have e:b=(s.heap.push {cls:=.type "range",data:=.fields #[.int lo t,.int hi u,.int 1 v]}).objs.size:=by simpa using hb
  subst e
  exact I1.fpOk (Nat.le_refl _) (I1.hok.fresh (Nat.le_refl _))
noncomputable def vg (ta:TA):TI:=fun Z H R=>ta Z H fun vs H1=> ∃ j:Int,vs=[.int j]/\ -(2^62)<=j/\j<2^62/\R (Itr 0 j.toNat) H1
noncomputable def vf (ta:TA):TI:=fun Z H R=>ta Z H fun vs H1=> ∃ i j:Int,vs=[.int i,.int j]/\(-(2^62)<=i/\i<2^62/\ -(2^62)<=j/\j<2^62)/\R (Itr i (j-i).toNat) H1
theorem cY {a:Expr} {ta:TA} {p pos:Pos} (hg:Gl X "range") (hm:X.mg "range"=none) (ha:PA X [a] ta) (hs:starEach [a] X.env=[(false,eval a X.env)]:=by rfl):PI X tg (.Call (.Name "range" p) [a] [] pos) (vg ta):=by
 intro pins s Z H R I h
 refine Call_ (dA I hg hm boot_range (PyProof.Rows.callWith_type1 (thn (ha pos pins s Z H _ I h) fun us s1 ⟨vs,H1,I1,r1,q1⟩=>?_) hs rfl))
 obtain ⟨j,e,q1,q2,q⟩:=q1
 subst e
 cases r1 with
 | cons r rr=>
  cases rr
  obtain ⟨t,rfl⟩:=r
  exact call_range_1 (jh I1 (by omega) (by omega) q1 q2 (by simpa using q))
noncomputable def qQ (wi:TI) (g:TG) (tb:TS):TS:=fun D Z H=>wi Z H fun J H1=> ∃ W:Nat->Nat->St->Hp->Prop,(∃ m,W 0 m Z H1)/\ ∀ i m Z H,W i m Z H->
 (J.stop i H/\D.nx Z H)\/(J.go i H/\ ∃ N:St->Hp->Prop,(∀ Z' H',N Z' H'-> ∃ m',m'<m/\W (i+1) m' Z' H')/\ ∀ x H',J.yld i H x H'->g x Z H' fun Z2 H2=>tb {D with nx:=N,ct:=N,bk:=D.nx} Z2 H2)
noncomputable def dU (fp:List Addr) (h:Heap):List (Addr×Obj):=fp.filterMap fun b=>(h.get? b).map fun o=>(b,o)
theorem aY {fp:List Addr} {h:Heap} {b:Addr} {o:Obj} (hb:b∈fp) (e:h.get? b=some o):(b,o)∈dU fp h:=List.mem_filterMap.mpr ⟨b,hb,by rw [e];rfl⟩
theorem nC {fp:List Addr} {h:Heap} {p:Addr×Obj} (hp:p∈dU fp h):p.1∈fp/\h.get? p.1=some p.2:=by
 obtain ⟨b,hb,e⟩:=List.mem_filterMap.mp hp
 cases q:h.get? b with
 | none=>rw [q]at e;cases e
 | some o=>
  rw [q]at e
  have e':(b,o)=p:=Option.some.inj e
  subst e'
  exact ⟨hb,q⟩
theorem Inv.pinned {pins:List (Addr×Obj)} {Z:St} {H:Hp} {s:Shared} {fp:List Addr} (I:Inv X pins Z H s) (hf: ∀ b∈fp,eS X pins H b) (ho: ∀ b∈fp,∃ o,s.heap.get? b=some o/\ ∀ v,o.data≠ .cell v):Inv X (pins++dU fp s.heap) Z H s:=
 I.pins_of fun p hp=>(List.mem_append.mp hp).elim (fun z=>I.pin p (List.mem_append_right _ z)) fun z=>by
  obtain ⟨hb,e⟩:=nC z
  obtain ⟨f0,f1,f2,_⟩:=hf p.1 hb
  obtain ⟨o,e',d⟩:=ho p.1 hb
  rw [e]at e';cases e'
  exact ⟨e,f0,f1,f2,d⟩
theorem Inv.unpinned {pins pl:List (Addr×Obj)} {Z:St} {H:Hp} {s:Shared} (I:Inv X (pins++pl) Z H s):Inv X pins Z H s:=I.pins_of fun p hp=>I.pin p (List.mem_append_right _ (List.mem_append_left _ hp))
theorem kr {iter:Expr} {body:List Stmt} {wi:TI} {g:TG} {tb:TS} {pos:Pos} (hp:PassesOwn (model X.prog X.w) X.A X.env X.xe) (hc:X.calm=true) (hi:PI X tg iter wi) (hg:PG X tg g) (hb:PSs X body tb)
  (hs: ∀ x,foldedSetIterable iter X.env x=pure x:=by intro _;rfl):PS X (.For tg iter body [] pos) (qQ wi g tb):=by
 intro pins s Z H D I h
 refine wpAny_For (thn (hi pins s Z H _ I h) fun v s1 h1=>thn h1 fun itv s2 h2=>?_) hs
 obtain ⟨it,fp,tn,J,H2,e,I2,T,st2,f2,W,⟨m0,w0⟩,turn⟩:=h2
 subst e
 have stat: ∀ {H':Hp},(∀ b∈fp,H' b=none)-> ∀ b∈fp,eS X pins H' b:=fun hn b hb=>⟨hn b hb,(f2 b hb).2⟩
 refine codeAny_forLoop_any (fun n s'=> ∃ i Z' H',Inv X pins Z' H' s'/\tn i s'.heap/\(∀ b∈fp,H' b=none)/\W i n Z' H') ?_ m0 ⟨0,Z,H2,I2,st2,fun b hb=>(f2 b hb).1,w0⟩
 rintro n s3 ⟨i,Z3,H3,I3,st3,fr3,w3⟩
 rcases turn i n Z3 H3 w3 with ⟨stop,qn⟩ | ⟨go,N,hN,step⟩
 ·refine wpAny_passesOwn hp (thn (T.done X rfl rfl rfl hc i pins s3 Z3 H3 X.xe I3 (stat fr3) st3 stop) fun r s4 ⟨hr,I4⟩=>?_)
  subst hr
  exact wpAny_execs_nil ⟨Z3,H3,I4,qn⟩
 ·refine wpAny_passesOwn hp (thn (T.item X rfl rfl rfl hc i pins s3 Z3 H3 X.xe I3 (stat fr3) st3 go) fun r s4 ⟨u,hr,h4⟩=>?_)
  subst hr
  refine wpAny_passesOwn hp (thn h4 fun _ s5 ⟨x,H5,I5,r5,y5,st5,fr5⟩=>?_)
  have I5':=I5.pinned (stat fr5) (T.obj _ _ st5)
  refine wpAny_passesOwn hp (thn (hg _ s5 Z3 H5 x u _ I5' r5 (step x H5 y5)) fun _ s6 ⟨Z6,H6,I6,q6⟩=>?_)
  refine wpAny_passesOwn hp (thn (hb _ s6 Z6 H6 _ I6 q6) fun f s7 q7=>?_)
  have again: ∀ {Z7:St} {H7:Hp},Inv X (pins++dU fp s5.heap) Z7 H7 s7->N Z7 H7-> ∃ m,m<n/\ ∃ i Z' H',Inv X pins Z' H' s7/\tn i s7.heap/\(∀ b∈fp,H' b=none)/\W i m Z' H':=fun {Z7 H7} I7 n7=>by
   obtain ⟨m',hm,w7⟩:=hN Z7 H7 n7
   refine ⟨m',hm,i+1,Z7,H7,I7.unpinned,T.keep _ _ _ st5 fun b hb o e=>(I7.pin (b,o) (List.mem_append_right _ (List.mem_append_right _ (aY hb e)))).1,fun b hb=>?_,w7⟩
   obtain ⟨o,e,d⟩:=T.obj _ _ st5 b hb
   exact (I7.pin (b,o) (List.mem_append_right _ (List.mem_append_right _ (aY hb e)))).2.1
  cases f with
  | next=>obtain ⟨Z7,H7,I7,n7⟩:=q7;exact again I7 n7
  | cont=>obtain ⟨Z7,H7,I7,n7⟩:=q7;exact again I7 n7
  | brk=>obtain ⟨Z7,H7,I7,q7⟩:=q7;exact ⟨Z7,H7,I7.unpinned,q7⟩
  | ret v=>obtain ⟨x7,Z7,H7,I7,r7,q7⟩:=q7;exact ⟨x7,Z7,H7,I7.unpinned,r7,q7⟩
end
theorem jK {K:PySem.W.Frag} {a:Addr} {xs:List V} {g:TG} {tb:TS} {D:fw} {Z:St} {H:Hp} (Pv:Nat->St->Hp->Prop) (h0:Pv 0 Z H) (hl: ∀ i Z H,i<=xs.length->Pv i Z H->SqL K H a xs)
  (hs: ∀ i x Z H,xs[i]? =some x->Pv i Z H->g x Z H fun Z2 H2=>tb {D with nx:=Pv (i+1),ct:=Pv (i+1),bk:=D.nx} Z2 H2) (hd: ∀ Z H,Pv xs.length Z H->D.nx Z H):
  ∃ W:Nat->Nat->St->Hp->Prop,(∃ m,W 0 m Z H)/\ ∀ i m Z H,W i m Z H->
   ((Itl K a).stop i H/\D.nx Z H)\/((Itl K a).go i H/\ ∃ N:St->Hp->Prop,(∀ Z' H',N Z' H'-> ∃ m',m'<m/\W (i+1) m' Z' H')/\ ∀ x H',(Itl K a).yld i H x H'->g x Z H' fun Z2 H2=>tb {D with nx:=N,ct:=N,bk:=D.nx} Z2 H2):=by
 refine ⟨fun i m Z H=>m=xs.length-i/\i<=xs.length/\Pv i Z H,⟨xs.length,by simp,Nat.zero_le _,h0⟩,?_⟩
 rintro i m Z H ⟨rfl,hi,p⟩
 have q:=hl i Z H hi p
 by_cases hlt:i<xs.length
 ·refine .inr ⟨⟨xs,xs[i],q,by simp [hlt]⟩,Pv (i+1),fun Z' H' p'=>⟨xs.length- (i+1),by omega,rfl,hlt,p'⟩,fun x H' y=>?_⟩
  obtain ⟨e,y⟩:=y
  subst e
  exact hs i x Z _ (y xs q) p
 ·have e:i=xs.length:=by omega
  subst e
  exact .inl ⟨⟨xs,q,Nat.le_refl _⟩,hd Z H p⟩
theorem nS {lo:Int} {n:Nat} {g:TG} {tb:TS} {D:fw} {Z:St} {H:Hp} (Pv:Nat->St->Hp->Prop) (h0:Pv 0 Z H)
  (hs: ∀ i Z H,i<n->Pv i Z H->g (.int (lo+i)) Z H fun Z2 H2=>tb {D with nx:=Pv (i+1),ct:=Pv (i+1),bk:=D.nx} Z2 H2) (hd: ∀ Z H,Pv n Z H->D.nx Z H):
  ∃ W:Nat->Nat->St->Hp->Prop,(∃ m,W 0 m Z H)/\ ∀ i m Z H,W i m Z H->
   ((Itr lo n).stop i H/\D.nx Z H)\/((Itr lo n).go i H/\ ∃ N:St->Hp->Prop,(∀ Z' H',N Z' H'-> ∃ m',m'<m/\W (i+1) m' Z' H')/\ ∀ x H',(Itr lo n).yld i H x H'->g x Z H' fun Z2 H2=>tb {D with nx:=N,ct:=N,bk:=D.nx} Z2 H2):=by
 refine ⟨fun i m Z H=>m=n-i/\i<=n/\Pv i Z H,⟨n,by simp,Nat.zero_le _,h0⟩,?_⟩
 rintro i m Z H ⟨rfl,hi,p⟩
 by_cases hlt:i<n
 ·refine .inr ⟨hlt,Pv (i+1),fun Z' H' p'=>⟨n- (i+1),by omega,rfl,hlt,p'⟩,fun x H' y=>?_⟩
  obtain ⟨e,y⟩:=y
  subst e y
  exact hs i Z _ hlt p
 ·have e:i=n:=by omega
  subst e
  exact .inl ⟨Nat.le_refl _,hd Z H p⟩
theorem ee {c:TT} {tb:TS} {D:fw} {Z:St} {H:Hp} (Pv:St->Hp->Prop) (μ:St->Hp->Nat) (h0:Pv Z H)
  (hs: ∀ Z H,Pv Z H->c Z H fun b H1=>if b=true then tb {D with nx:=fun Z' H'=>Pv Z' H'/\μ Z' H'<μ Z H,ct:=fun Z' H'=>Pv Z' H'/\μ Z' H'<μ Z H,bk:=D.nx} Z H1 else D.nx Z H1)
  (mono: ∀ Z H Q Q',(∀ b H1,Q b H1->Q' b H1)->c Z H Q->c Z H Q'):oD c tb D Z H:=by
 refine ⟨fun m Z H=>m=μ Z H/\Pv Z H,⟨_,rfl,h0⟩,?_⟩
 rintro m Z H ⟨rfl,p⟩
 refine mono Z H _ _ (fun b H1 q=>?_) (hs Z H p)
 cases b with
 | true=>exact ⟨_,fun Z' H' ⟨p',l⟩=>⟨_,l,rfl,p'⟩,q⟩
 | false=>exact q
noncomputable abbrev R2:=V->V->Hp->VK->Prop
noncomputable def OpR (X:Cx) (f:Value->Value->Sem Value) (r:R2):Prop:=
 ∀ (pins:List (Addr×Obj)) (s:Shared) (Z:St) (H:Hp) (x y:V) (v u:Value) (Q:VK),Inv X pins Z H s->RelV x v->RelV y u->r x y H Q->
  wpAny (model X.prog X.w) X.A (f v u) (EP X pins Z Q) X.xe s
noncomputable def UnR (X:Cx) (f:Value->Sem Value) (r:V->Hp->VK->Prop):Prop:=
 ∀ (pins:List (Addr×Obj)) (s:Shared) (Z:St) (H:Hp) (x:V) (v:Value) (Q:VK),Inv X pins Z H s->RelV x v->r x H Q->
  wpAny (model X.prog X.w) X.A (f v) (EP X pins Z Q) X.xe s
noncomputable def da (X:Cx) (f:Value) (r:List V->Hp->VK->Prop):Prop:=
 ∀ (pins:List (Addr×Obj)) (s:Shared) (Z:St) (H:Hp) (xs:List V) (us:List Value) (Q:VK),Inv X pins Z H s->Vals xs us->r xs H Q->
  wpAny (model X.prog X.w) X.A (call f us) (EP X pins Z Q) X.xe s
noncomputable def wl (X:Cx) (r:V->Hp->(Bool->Hp->Prop)->Prop):Prop:=
 ∀ (pins:List (Addr×Obj)) (s:Shared) (Z:St) (H:Hp) (x:V) (v:Value) (Q:Bool->Hp->Prop),Inv X pins Z H s->RelV x v->r x H Q->
  wpAny (model X.prog X.w) X.A (truthy v) (TP X pins Z Q) X.xe s
noncomputable def tOp (r:R2) (ta tb:TE):TE:=fun Z H Q=>ta Z H fun x H1=>tb Z H1 fun y H2=>r x y H2 Q
noncomputable def tUn (r:V->Hp->VK->Prop) (ta:TE):TE:=fun Z H Q=>ta Z H fun x H1=>r x H1 Q
noncomputable def rI (C:Int->Int->Prop) (g:Int->Int->V):R2:=fun x y H Q=> ∃ i j,x=.int i/\y=.int j/\C i j/\Q (g i j) H
noncomputable def rI0 (g:Int->Int->V):R2:=fun x y H Q=> ∃ i j,x=.int i/\y=.int j/\Q (g i j) H
noncomputable def rU (g:Int->V):V->Hp->VK->Prop:=fun x H Q=> ∃ i,x=.int i/\Q (g i) H
section
variable {X:Cx} {a b c:Expr} {ta tb tc:TE} {pos:Pos}
theorem ux (ha:PE X a ta) (hb:PE X b tb) {pins:List (Addr×Obj)} {s:Shared} {Z:St} {H:Hp} {R:V->V->Hp->Prop} (I:Inv X pins Z H s)
  (h:ta Z H fun x H1=>tb Z H1 fun y H2=>R x y H2) {Q:Value->Shared->Prop} {f:Value->Value->Sem Value}
  (hf: ∀ v u s2 x y H2,Inv X pins Z H2 s2->RelV x v->RelV y u->R x y H2->wpAny (model X.prog X.w) X.A (f v u) Q X.xe s2):
  wpAny (model X.prog X.w) X.A (eval a X.env) (fun v s₁=>wpAny (model X.prog X.w) X.A (eval b X.env) (fun u s₂=>wpAny (model X.prog X.w) X.A (f v u) Q X.xe s₂) X.xe s₁) X.xe s:=by
 refine thn (ha pins s Z H _ I h) fun v s1 ⟨x,H1,I1,r1,q1⟩=>?_
 refine thn (hb pins s1 Z H1 _ I1 q1) fun u s2 ⟨y,H2,I2,r2,q2⟩=>?_
 exact hf v u s2 x y H2 I2 r1 r2 q2
theorem am {op:Operator} {r:R2} (ho:OpR X (binaryOp op) r) (ha:PE X a ta) (hb:PE X b tb):PE X (.BinOp a op b pos) (tOp r ta tb):=by
 intro pins s Z H Q I h
 exact wpAny_BinOp (ux ha hb I h fun v u s2 x y H2 I2 rx ry q=>ho pins s2 Z H2 x y v u Q I2 rx ry q)
theorem jo {op:UnaryOp} {r:V->Hp->VK->Prop} (ho:UnR X (unaryOp op) r) (ha:PE X a ta):PE X (.UnaryOp op a pos) (tUn r ta):=by
 intro pins s Z H Q I h
 exact UnaryOp_ (thn (ha pins s Z H _ I h) fun v s1 ⟨x,H1,I1,r1,q1⟩=>ho pins s1 Z H1 x v Q I1 r1 q1)
theorem opI {f:Value->Value->Sem Value} {C:Int->Int->Prop} {g:Int->Int->Int}
  (rule: ∀ (i j:Int) (t u:Tok) (s:Shared) (Q:Value->Shared->Prop) (E:Value->Shared->Prop),C i j->Q (.int (g i j) s.toks) {s with toks:=s.toks+1}->wpAny (model X.prog X.w) X.A (f (.int i t) (.int j u)) Q E s):
  OpR X f (rI C fun i j=>.int (g i j)):=by
 intro pins s Z H x y v u Q I rx ry h
 obtain ⟨i,j,rfl,rfl,hc,q⟩:=h
 obtain ⟨t,rfl⟩:=rx
 obtain ⟨t',rfl⟩:=ry
 exact rule i j t t' s _ _ hc ⟨.int (g i j),H,I.tok _,⟨_,rfl⟩,q⟩
theorem u8 {f:Value->Value->Sem Value} {g:Int->Int->Int}
  (rule: ∀ (i j:Int) (t u:Tok) (s:Shared) (Q:Value->Shared->Prop) (E:Value->Shared->Prop),Q (.int (g i j) s.toks) {s with toks:=s.toks+1}->wpAny (model X.prog X.w) X.A (f (.int i t) (.int j u)) Q E s):
  OpR X f (rI0 fun i j=>.int (g i j)):=by
 intro pins s Z H x y v u Q I rx ry h
 obtain ⟨i,j,rfl,rfl,q⟩:=h
 obtain ⟨t,rfl⟩:=rx
 obtain ⟨t',rfl⟩:=ry
 exact rule i j t t' s _ _ ⟨.int (g i j),H,I.tok _,⟨_,rfl⟩,q⟩
theorem tW {f:Value->Value->Sem Value} {g:Int->Int->Bool}
  (rule: ∀ (i j:Int) (t u:Tok) (s:Shared) (Q:Value->Shared->Prop) (E:Value->Shared->Prop),Q (.bool (g i j)) s->wpAny (model X.prog X.w) X.A (f (.int i t) (.int j u)) Q E s):
  OpR X f (rI0 fun i j=>.bl (g i j)):=by
 intro pins s Z H x y v u Q I rx ry h
 obtain ⟨i,j,rfl,rfl,q⟩:=h
 obtain ⟨t,rfl⟩:=rx
 obtain ⟨t',rfl⟩:=ry
 exact rule i j t t' s _ _ ⟨.bl (g i j),H,I,rfl,q⟩
noncomputable def wp (i j:Int):Prop:=0<j/\j<1073741824
noncomputable def CMul (i j:Int):Prop:=(-(2^64) <i/\i<2^64)\/(-(2^64) <j/\j<2^64)
theorem CMul.ok {i j:Int} (h:CMul i j):IntMulOk i j:=by
 rcases h with ⟨h1,h2⟩ | ⟨h1,h2⟩
 ·exact .of_left (intBits_le_64 h1 h2)
 ·exact .of_right (intBits_le_64 h1 h2)
theorem be:OpR X (binaryOp .Add) (rI0 fun i j=>.int (i+j)):=u8 fun _ _ _ _ _ _ _ q=>add_int q
theorem dW:OpR X (binaryOp .Sub) (rI0 fun i j=>.int (i-j)):=u8 fun _ _ _ _ _ _ _ q=>sub_int q
theorem cG:OpR X (binaryOp .Mult) (rI CMul fun i j=>.int (i*j)):=opI fun _ _ _ _ _ _ _ hc q=>mul_int q hc.ok
theorem lR:OpR X (binaryOp .FloorDiv) (rI wp fun i j=>.int (i/j)):=opI fun i j _ _ _ _ _ hc q=>by
 have h1:(0:Int) <j:=hc.1
 have h2:j<1073741824:=hc.2
 exact floordiv_int (by omega) (by rw [Int.fdiv_eq_ediv_of_nonneg i (by omega)];exact q) (.inl (PyProof.noPylong_small (by omega)))
theorem cv:OpR X (binaryOp .Mod) (rI (fun _ j=>0<j) fun i j=>.int (i%j)):=opI fun i j _ _ _ _ _ hc q=>by
 have h1:(0:Int) <j:=hc
 exact mod_int' (by omega) (by rw [Int.fmod_eq_emod_of_nonneg i (by omega)];exact q)
theorem unI {f:Value->Sem Value} {g:Int->Int}
  (rule: ∀ (i:Int) (t:Tok) (s:Shared) (Q:Value->Shared->Prop) (E:Value->Shared->Prop),Q (.int (g i) s.toks) {s with toks:=s.toks+1}->wpAny (model X.prog X.w) X.A (f (.int i t)) Q E s):
  UnR X f (rU fun i=>.int (g i)):=by
 intro pins s Z H x v Q I rx h
 obtain ⟨i,rfl,q⟩:=h
 obtain ⟨t,rfl⟩:=rx
 exact rule i t s _ _ ⟨.int (g i),H,I.tok _,⟨_,rfl⟩,q⟩
theorem fU:UnR X (unaryOp .USub) (rU fun i=>.int (-i)):=unI fun _ _ _ _ _ q=>neg_int q
end
noncomputable def uS:V->V->Bool
 | .non,.non=>true | .non,.int _=>true | .int _,.non=>true | .non,.bl _=>true | .bl _,.non=>true | .non,.str _=>true | .str _,.non=>true
 | .int _,.int _=>true | .bl _,.bl _=>true | .str _,.str _=>true | .byt _,.byt _=>true
 | .int _,.str _=>true | .str _,.int _=>true | .bl _,.str _=>true | .str _,.bl _=>true
 | _,_=>false
noncomputable def rEq:R2:=fun x y H Q=>uS x y=true/\Q (.bl (decide (x=y))) H
noncomputable def rNe:R2:=fun x y H Q=>uS x y=true/\Q (.bl (!decide (x=y))) H
theorem mf {i j:Int}:decide (V.int i=V.int j)=(i==j):=by
 rw [Bool.eq_iff_iff]
 simp
theorem qD {i j:Bool}:decide (V.bl i=V.bl j)=(i==j):=by
 rw [Bool.eq_iff_iff]
 simp
theorem me {i j:Str}:decide (V.str i=V.str j)=(i==j):=by
 rw [Bool.eq_iff_iff]
 simp
theorem mh {i j:Array UInt8}:decide (V.byt i=V.byt j)=(i.toList==j.toList):=by
 rw [Bool.eq_iff_iff]
 cases i
 cases j
 simp
section
variable {X:Cx} {a b c:Expr} {ta tb tc:TE} {pos:Pos}
theorem aQ {pins:List (Addr×Obj)} {Z:St} {H:Hp} {s:Shared} {Q:VK} {k k':Bool} (I:Inv X pins Z H s) (q:Q (.bl k) H) (e:k=k'):EP X pins Z Q (.bool k') s:=by
 subst e
 exact ⟨.bl k,H,I,rfl,q⟩
theorem bh:OpR X (compareOp .Eq) rEq:=by
 intro pins s Z H x y v u Q I rx ry h
 obtain ⟨hs,q⟩:=h
 cases x with
 | non=>
  cases rx
  cases y with
  | non=>cases ry;exact PySem.EqNone.eq_none_none (aQ I q (by simp))
  | bl j=>cases ry;exact PySem.EqNone.eq_none_bool (aQ I q (by simp))
  | int j=>obtain ⟨t',rfl⟩:=ry;exact PySem.EqNone.eq_none_int (aQ I q (by simp))
  | str j=>obtain ⟨t',rfl⟩:=ry;exact PySem.EqNone.eq_none_str (aQ I q (by simp))
  | _=>exact absurd (show false=true from hs) Bool.false_ne_true
 | bl i=>
  cases rx
  cases y with
  | non=>cases ry;exact PySem.EqNone.eq_bool_none (aQ I q (by simp))
  | bl j=>cases ry;exact eq_bool (aQ I q qD)
  | str j=>obtain ⟨t',rfl⟩:=ry;exact PySem.EqMixed.eq_bool_str (aQ I q (by simp))
  | _=>exact absurd (show false=true from hs) Bool.false_ne_true
 | int i=>
  obtain ⟨t,rfl⟩:=rx
  cases y with
  | non=>cases ry;exact PySem.EqNone.eq_int_none (aQ I q (by simp))
  | int j=>obtain ⟨t',rfl⟩:=ry;exact eq_int (aQ I q mf)
  | str j=>obtain ⟨t',rfl⟩:=ry;exact PySem.EqMixed.eq_int_str (aQ I q (by simp))
  | _=>exact absurd (show false=true from hs) Bool.false_ne_true
 | str i=>
  obtain ⟨t,rfl⟩:=rx
  cases y with
  | non=>cases ry;exact PySem.EqNone.eq_str_none (aQ I q (by simp))
  | bl j=>cases ry;exact PySem.EqMixed.eq_str_bool (aQ I q (by simp))
  | int j=>obtain ⟨t',rfl⟩:=ry;exact PySem.EqMixed.eq_str_int (aQ I q (by simp))
  | str j=>obtain ⟨t',rfl⟩:=ry;exact eq_str (aQ I q me)
  | _=>exact absurd (show false=true from hs) Bool.false_ne_true
 | byt i=>
  obtain ⟨t,rfl⟩:=rx
  cases y with
  | byt j=>obtain ⟨t',rfl⟩:=ry;exact PySem.W.eq_bytes (aQ I q mh)
  | _=>exact absurd (show false=true from hs) Bool.false_ne_true
 | _=>cases y <;> exact absurd (show false=true from hs) Bool.false_ne_true
theorem pK:OpR X (compareOp .NotEq) rNe:=by
 intro pins s Z H x y v u Q I rx ry h
 obtain ⟨hs,q⟩:=h
 cases x with
 | non=>
  cases rx
  cases y with
  | non=>cases ry;exact PySem.EqNone.ne_none_none (aQ I q (by simp))
  | bl j=>cases ry;exact PySem.EqNone.ne_none_bool (aQ I q (by simp))
  | int j=>obtain ⟨t',rfl⟩:=ry;exact PySem.EqNone.ne_none_int (aQ I q (by simp))
  | str j=>obtain ⟨t',rfl⟩:=ry;exact PySem.EqNone.ne_none_str (aQ I q (by simp))
  | _=>exact absurd (show false=true from hs) Bool.false_ne_true
 | bl i=>
  cases rx
  cases y with
  | non=>cases ry;exact PySem.EqNone.ne_bool_none (aQ I q (by simp))
  | bl j=>cases ry;exact ne_bool (aQ I q (congrArg not qD))
  | str j=>obtain ⟨t',rfl⟩:=ry;exact PySem.EqMixed.ne_bool_str (aQ I q (by simp))
  | _=>exact absurd (show false=true from hs) Bool.false_ne_true
 | int i=>
  obtain ⟨t,rfl⟩:=rx
  cases y with
  | non=>cases ry;exact PySem.EqNone.ne_int_none (aQ I q (by simp))
  | int j=>obtain ⟨t',rfl⟩:=ry;exact ne_int (aQ I q (congrArg not mf))
  | str j=>obtain ⟨t',rfl⟩:=ry;exact PySem.EqMixed.ne_int_str (aQ I q (by simp))
  | _=>exact absurd (show false=true from hs) Bool.false_ne_true
 | str i=>
  obtain ⟨t,rfl⟩:=rx
  cases y with
  | non=>cases ry;exact PySem.EqNone.ne_str_none (aQ I q (by simp))
  | bl j=>cases ry;exact PySem.EqMixed.ne_str_bool (aQ I q (by simp))
  | int j=>obtain ⟨t',rfl⟩:=ry;exact PySem.EqMixed.ne_str_int (aQ I q (by simp))
  | str j=>obtain ⟨t',rfl⟩:=ry;exact ne_str (aQ I q (congrArg not me))
  | _=>exact absurd (show false=true from hs) Bool.false_ne_true
 | byt i=>
  obtain ⟨t,rfl⟩:=rx
  cases y with
  | byt j=>obtain ⟨t',rfl⟩:=ry;exact PySem.W.ne_bytes (aQ I q (congrArg not mh))
  | _=>exact absurd (show false=true from hs) Bool.false_ne_true
 | _=>cases y <;> exact absurd (show false=true from hs) Bool.false_ne_true
theorem lQ:OpR X (compareOp .Lt) (rI0 fun i j=>.bl (decide (i<j))):=tW fun _ _ _ _ _ _ _ q=>lt_int q
theorem hV:OpR X (compareOp .LtE) (rI0 fun i j=>.bl (decide (i<=j))):=tW fun _ _ _ _ _ _ _ q=>le_int q
theorem pN:OpR X (compareOp .Gt) (rI0 fun i j=>.bl (decide (j<i))):=tW fun _ _ _ _ _ _ _ q=>gt_int q
theorem pL:OpR X (compareOp .Is) (fun x y H Q=>y=.non/\Q (.bl (decide (x=.non))) H):=by
 intro pins s Z H x y v u Q I rx ry h
 obtain ⟨rfl,q⟩:=h
 cases ry
 refine is_none_gen (aQ I q ?_)
 cases x <;> first
  | (cases rx;rfl)
  | (obtain ⟨t,rfl⟩:=rx;rfl)
theorem aB (b:Expr) {op:CmpOp} (h:op≠ .In:=by decide) (h2:op≠ .NotIn:=by decide):behindInMarks op b=false:=by
 have e1:(op==CmpOp.In)=false:=by cases op <;> first | rfl | exact absurd rfl h
 have e2:(op==CmpOp.NotIn)=false:=by cases op <;> first | rfl | exact absurd rfl h2
 cases b <;> simp [behindInMarks,e1,e2]
theorem cp {op:CmpOp} {r:R2} (ho:OpR X (compareOp op) r) (ha:PE X a ta) (hb:PE X b tb) (hm:behindInMarks op b=false):PE X (.Compare a [op] [b] pos) (tOp r ta tb):=by
 intro pins s Z H Q I h
 exact wpAny_Compare1 (ux ha hb I h fun v u s2 x y H2 I2 rx ry q=>ho pins s2 Z H2 x y v u Q I2 rx ry q) hm
noncomputable def sw (t:TE):TT:=fun Z H Q=>t Z H fun x H'=> ∃ k,x=.bl k/\Q k H'
theorem aA {op:CmpOp} {r:R2} (ho:OpR X (compareOp op) r) (ha:PE X a ta) (hb:PE X b tb) (hm:behindInMarks op b=false):PT X (.Compare a [op] [b] pos) (sw (tOp r ta tb)):=by
 intro pins s Z H Q I h
 refine wpAny_isTrue_Compare1 (thn (ha pins s Z H _ I h) fun v s1 ⟨x,H1,I1,r1,q1⟩=>thn (hb pins s1 Z H1 _ I1 q1) fun u s2 ⟨y,H2,I2,r2,q2⟩=>
  thn (ho pins s2 Z H2 x y v u _ I2 r1 r2 q2) fun c s3 ⟨z,H3,I3,r3,k,e,q3⟩=>?_) hm
 subst e
 cases r3
 exact wpAny_truthy_bool ⟨H3,I3,q3⟩
noncomputable def oI (r r':R2) (ta tb tc:TE):TE:=fun Z H Q=>ta Z H fun x H1=>tb Z H1 fun y H2=>r x y H2 fun z H3=> ∃ k,z=.bl k/\
 (if k=true then tc Z H3 fun w' H4=>r' y w' H4 Q else Q (.bl false) H3)
theorem gj {op op':CmpOp} {r r':R2} (ho:OpR X (compareOp op) r) (ho':OpR X (compareOp op') r') (ha:PE X a ta) (hb:PE X b tb) (hc:PE X c tc)
  (hm:lastMarks [op,op'] [b,c]=false:=by with_unfolding_all rfl):PE X (.Compare a [op,op'] [b,c] pos) (oI r r' ta tb tc):=by
 intro pins s Z H Q I h
 refine Compare_chain (thn (ha pins s Z H _ I h) fun v s1 ⟨x,H1,I1,r1,q1⟩=>chain_link (thn (hb pins s1 Z H1 _ I1 q1) fun u s2 ⟨y,H2,I2,r2,q2⟩=>
  thn (ho pins s2 Z H2 x y v u _ I2 r1 r2 q2) fun d s3 ⟨z,H3,I3,r3,k,e,q3⟩=>?_)) hm
 subst e
 cases r3
 refine wpAny_truthy_bool ?_
 cases k with
 | false=>exact ite_ff ⟨.bl false,H3,I3,rfl,q3⟩
 | true=>exact ite_tt (chain_last (thn (hc pins s3 Z H3 _ I3 q3) fun w' s4 ⟨z',H4,I4,r4,q4⟩=>ho' pins s4 Z H4 y z' u w' Q I4 r2 r4 q4))
theorem jl {op op':CmpOp} {r r':R2} (ho:OpR X (compareOp op) r) (ho':OpR X (compareOp op') r') (ha:PE X a ta) (hb:PE X b tb) (hc:PE X c tc)
  (hm:lastMarks [op,op'] [b,c]=false:=by with_unfolding_all rfl):PT X (.Compare a [op,op'] [b,c] pos) (sw (oI r r' ta tb tc)):=by
 intro pins s Z H Q I h
 refine isTrue_chain (thn (ha pins s Z H _ I h) fun v s1 ⟨x,H1,I1,r1,q1⟩=>test_link (thn (hb pins s1 Z H1 _ I1 q1) fun u s2 ⟨y,H2,I2,r2,q2⟩=>
  thn (ho pins s2 Z H2 x y v u _ I2 r1 r2 q2) fun d s3 ⟨z,H3,I3,r3,k,e,q3⟩=>?_)) hm
 subst e
 cases r3
 refine wpAny_truthy_bool ?_
 cases k with
 | false=>
  obtain ⟨k',e',q'⟩:=q3
  cases e'
  exact ite_ff ⟨H3,I3,q'⟩
 | true=>
  refine ite_tt (test_last (thn (hc pins s3 Z H3 _ I3 q3) fun w' s4 ⟨z',H4,I4,r4,q4⟩=>thn (ho' pins s4 Z H4 y z' u w' _ I4 r2 r4 q4) fun d' s5 ⟨z2,H5,I5,r5,k2,e2,q5⟩=>?_))
  subst e2
  cases r5
  exact wpAny_truthy_bool ⟨H5,I5,q5⟩
noncomputable def vx (K:PySem.W.Frag) (x:V) (H:Hp) (k:Bool):Prop:=
 match x with
 | .non=>k=false
 | .bl b=>k=b
 | .int i=>k=(i !=0)
 | .str y=>y.length<=sizeLine/\k=((y.length:Int)!=0)
 | .byt y=>y.size<=sizeLine/\k=((y.size:Int)!=0)
 | .ref p=>(∃ xs,SqL K H p xs/\k= !xs.isEmpty)\/(∃ xs,SqT K H p xs/\k= !xs.isEmpty)\/ ∃ kvs,H p=some (.dK kvs)/\k= !kvs.isEmpty
 | _=>False
theorem kZ {κ:Type} {kvs:List (κ×V)} {vs:List (κ×Value)} (r:KV kvs vs):(!vs.isEmpty)= !kvs.isEmpty:=by
 cases r <;> rfl
theorem gA {xs:List V} {its:List Value} (r:Vals xs its):(!its.toArray.isEmpty)= !xs.isEmpty:=by
 cases r <;> simp
theorem dX:(sizeLine:Nat) <2^63:=by rw [sizeLine_eq];decide
theorem sN:wl X (fun x H Q=> ∃ k,vx X.K x H k/\Q k H):=by
 intro pins s Z H x v Q I rx h
 obtain ⟨k,e,q⟩:=h
 have hl:=dX
 have hs:sizeLine=16777216:=sizeLine_eq
 cases x with
 | non=>
  cases rx
  have e':k=false:=e
  subst e'
  exact truthy_none ⟨H,I,q⟩
 | bl b=>
  cases rx
  have e':k=b:=e
  subst e'
  exact wpAny_truthy_bool ⟨H,I,q⟩
 | int i=>
  obtain ⟨t,rfl⟩:=rx
  have e':k=(i !=0):=e
  subst e'
  exact PySem.P.truthy_int ⟨H,I,q⟩
 | str y=>
  obtain ⟨t,rfl⟩:=rx
  obtain ⟨hy,e'⟩:y.length<=sizeLine/\k=((y.length:Int)!=0):=e
  subst e'
  exact PySem.P.truthy_str (by omega) ⟨H,I.tok _,q⟩
 | byt y=>
  obtain ⟨t,rfl⟩:=rx
  obtain ⟨hy,e'⟩:y.size<=sizeLine/\k=((y.size:Int)!=0):=e
  subst e'
  exact PySem.W.truthy_bytes (by omega) ⟨H,I.tok _,q⟩
 | ref p=>
  cases rx
  have e':(∃ xs,SqL X.K H p xs/\k= !xs.isEmpty)\/(∃ xs,SqT X.K H p xs/\k= !xs.isEmpty)\/ ∃ kvs,H p=some (.dK kvs)/\k= !kvs.isEmpty:=e
  rcases e' with ⟨xs,hx,e'⟩ | ⟨xs,hx,e'⟩ | ⟨kvs,hx,e'⟩
  ·subst e'
   obtain ⟨its,r,pl,hz⟩:=I.list hx
   have hlen:=r.length
   exact wpAny_truthy_list pl.isList (by simp only [List.size_toArray];omega) ⟨H,I.tok _,by rw [gA r];exact q⟩
  ·subst e'
   obtain ⟨its,r,pl,hz⟩:=I.tuple hx
   have hlen:=r.length
   exact truthy_tuple pl (by simp only [List.size_toArray];omega) ⟨H,I.tok _,by rw [gA r];exact q⟩
  ·subst e'
   obtain ⟨hz,hS,vs,r,m⟩:kvs.length<=sizeLine/\(p==sysModules)=false/\ ∃ vs,KV kvs vs/\s.heap.DictOf (bf X.prog X.w) p vs:=I.hok p _ hx
   have hlen:kvs.length=vs.length:=Paired.length r
   exact wpAny_truthy_dict hS m (by omega) ⟨H,I.tok _,by rw [kZ r];exact q⟩
 | _=>exact (show False from e).elim
theorem dv (ha:PE X a ta) (he: ∀ whole,isTrue a X.env whole=(do let v <- whole;standAt a.pos;holding [v] (truthy v))):
  PT X a (fun Z H Q=>ta Z H fun x H'=> ∃ k,vx X.K x H' k/\Q k H'):=by
 intro pins s Z H Q I h
 exact isTrue_plain (thn (ha pins s Z H _ I h) fun v s1 ⟨x,H1,I1,r1,q1⟩=>sN pins s1 Z H1 x v Q I1 r1 q1) (he _)
theorem ay:OpR X (binaryOp .Add) (fun x y H Q=> ∃ i j,x=.str i/\y=.str j/\i.length+j.length<=sizeLine/\Q (.str (i++j)) H):=by
 intro pins s Z H x y v u Q I rx ry h
 obtain ⟨i,j,rfl,rfl,hz,q⟩:=h
 obtain ⟨t,rfl⟩:=rx
 obtain ⟨t',rfl⟩:=ry
 exact add_str (fun t' tk=>⟨.str (i++j),H,I.tok _,⟨_,rfl⟩,q⟩) hz
theorem gQ {x:V} {us:List Value} (r:Vals [x] us): ∃ u,us=[u]/\RelV x u:=by
 cases r with
 | cons r1 r2=>cases r2;exact ⟨_,rfl,r1⟩
theorem fR {x y:V} {us:List Value} (r:Vals [x,y] us): ∃ u w',us=[u,w']/\RelV x u/\RelV y w':=by
 cases r with
 | cons r1 r2=>
  cases r2 with
  | cons r3 r4=>cases r4;exact ⟨_,_,rfl,r1,r3⟩
theorem nZ (hc:X.calm=true):da X (.builtin "max") (fun xs H Q=> ∃ i j,xs=[.int i,.int j]/\Q (.int (if j>i then j else i)) H):=by
 intro pins s Z H xs us Q I r h
 obtain ⟨i,j,rfl,q⟩:=h
 obtain ⟨u,w',rfl,⟨t,rfl⟩,⟨t',rfl⟩⟩:=fR r
 refine max_two_ints (I.ok.hd hc) fun h' tk k=>⟨_,H,I.kept k,?_,q⟩
 by_cases hj:j>i
 ·rw [if_pos hj,if_pos hj];exact ⟨_,rfl⟩
 ·rw [if_neg hj,if_neg hj];exact ⟨_,rfl⟩
theorem nY (hc:X.calm=true):da X (.builtin "min") (fun xs H Q=> ∃ i j,xs=[.int i,.int j]/\Q (.int (if j<i then j else i)) H):=by
 intro pins s Z H xs us Q I r h
 obtain ⟨i,j,rfl,q⟩:=h
 obtain ⟨u,w',rfl,⟨t,rfl⟩,⟨t',rfl⟩⟩:=fR r
 refine min_two_ints (I.ok.hd hc) fun h' tk k=>⟨_,H,I.kept k,?_,q⟩
 by_cases hj:j<i
 ·rw [if_pos hj,if_pos hj];exact ⟨_,rfl⟩
 ·rw [if_neg hj,if_neg hj];exact ⟨_,rfl⟩
theorem cc:da X (.type "str") (fun xs H Q=> ∃ i,xs=[.int i]/\i.natAbs.log2<1920/\Q (.str (toString i)) H):=by
 intro pins s Z H xs us Q I r h
 obtain ⟨i,rfl,hz,q⟩:=h
 obtain ⟨u,rfl,t,rfl⟩:=gQ r
 exact PySem.P.str_of_int hz ⟨.str _,H,I.tok _,⟨_,rfl⟩,q⟩
end
structure ObjM (h:Heap) (x dx C:Addr) (mA:Str->Option Value):Prop where
 obj:h.get? x=some (PySem.W.instObj C dx)
 ns:h.Ns1 dx mA
 ne:dx≠x
theorem nH {h:Heap} {dx:Addr} {mA:Str->Option Value} (n:h.Ns1 dx mA): ∃ od,h.get? dx=some od/\ ∀ name,PySem.W.lookIn name od=some (mA name):=by
 obtain ⟨o,es,ep,ho,hd,hk,_,hm⟩:=n
 refine ⟨o,ho,fun name=>?_⟩
 have e:=hm name
 unfold nsFind findBy at e
 rw [<- Array.find?_toList]at e
 unfold PySem.W.lookIn
 rw [hd]
 dsimp only
 split
 ·rename_i y q
  rw [q]at e
  exact congrArg some e
 ·rename_i q
  rw [q]at e
  have a:es.toList.any (·.refKey)=false:=by
   rw [List.any_eq_false]
   intro y hy
   obtain ⟨z,t,hkey⟩:=hk y (Array.mem_toList_iff.mp hy)
   simp [DictEntry.refKey,hkey]
  have a': ¬ es.toList.any (·.refKey)=true:=by rw [a];exact Bool.false_ne_true
  rw [if_neg a']
  exact congrArg some e
theorem ObjM.look {h:Heap} {x dx C:Addr} {mA:Str->Option Value} (I:ObjM h x dx C mA): ∃ od,PySem.W.InstAt h x (PySem.W.instObj C dx) C (some od)/\ ∀ name,PySem.W.lookIn name od=some (mA name):=
 let ⟨od,ho,hl⟩:=nH I.ns
 ⟨od,⟨I.obj,rfl,rfl,ho⟩,hl⟩
theorem RelO.some_of {v:V} {o:Option Value} (r:RelO (some v) o): ∃ u,o=some u/\RelV v u:=by
 cases o with
 | none=>exact (show False from r).elim
 | some u=>exact ⟨u,rfl,r⟩
section
variable {P:Program} {w:World} {H H':Hp} {h h':Heap} {a C dx:Addr} {fs fs':List (Str×V)}
theorem sh (hok:HOk P w H h) (e:H a=some (.ins C dx fs)): ∃ mA,ObjM h a dx C mA/\(∀ f,RelO (fs.lookup f) (mA f))/\PySem.Within mA (fs.map (·.1))/\fs.length<=1000/\H dx=some (.own a):=by
 obtain ⟨d,z,ne,ob,mA,n,r,q⟩:=(show ObjOk P w H h a (.ins C dx fs)from hok a _ e)
 exact ⟨mA,⟨ob,n,ne⟩,r,q,z,d⟩
end
structure Cls (K:PySem.W.Frag) (C:Addr):Prop where
 pg:PySem.W.plainGet K C Str.empty=true
 hd:PySem.W.hasDictIn K C=true
 po:PySem.W.plainOver K C=true
 sa:PySem.W.findIn K (.ref C) "__setattr__"=some (some (.builtin "object.__setattr__"))
theorem Cls.get {K:PySem.W.Frag} {C:Addr} (c:Cls K C) (f:Str):PySem.W.plainGet K C f=true:=c.pg
section
variable {X:Cx} {pins:List (Addr×Obj)} {Z:St} {H:Hp} {s:Shared} {A:Around} {E:Value->Shared->Prop} {Q:Value->Shared->Prop} {c:Value} {b:Bool}
inductive eR (K:PySem.W.Frag) (H:Hp):V->Value->Prop where
 | non:eR K H .non (.type "NoneType")
 | bl (x:Bool):eR K H (.bl x) (.type "bool")
 | int (i:Int):eR K H (.int i) (.type "int")
 | str (x:Str):eR K H (.str x) (.type "str")
 | flt (x:UInt64):eR K H (.flt x) (.type "float")
 | lst {a:Addr} {xs:List V} (e:H a=some (.lst xs)):eR K H (.ref a) (.type "list")
 | frz {a:Addr} {o:Obj} {xs:List V} (e:H a=some (.frz o (.lst xs))):eR K H (.ref a) (.type "list")
 | tup {a:Addr} {xs:List V} (e:H a=some (.tup xs)):eR K H (.ref a) (.type "tuple")
 | dK {a:Addr} {kvs:List (Key×V)} (e:H a=some (.dK kvs)):eR K H (.ref a) (.type "dict")
 | dT {a:Addr} {kvs:List (List Key×V)} (e:H a=some (.dT kvs)):eR K H (.ref a) (.type "dict")
 | ins {a C dx:Addr} {fs:List (Str×V)} (e:H a=some (.ins C dx fs)) (cl:Cls K C) (ha:PySem.W.findIn K (.ref C) "__class__"=some (some (.builtin "object.__class__")))
   (hn:PySem.W.specialIn K (.builtin "object.__class__") "__get__"=some (some (.builtin "getset_descriptor.__get__"))) (htk:PySem.W.takesIn K (.builtin "object.__class__")=some true)
   (hm:PySem.W.mroIn K C (.type "object")=some true):eR K H (.ref a) (.ref C)
theorem nL {x:V} {u t:Value} (I:Inv X pins Z H s) (rx:RelV x u) (ty:eR X.K H x t) (e:PySem.W.kitOne X.K t c=some b) (h: ∀ tk,Q (.bool b) {s with toks:=tk}):
  wpAny (model X.prog X.w) A (call (.builtin "isinstance") [u,c]) Q E s:=by
 cases ty with
 | non=>cases (show u=Value.none from rx);exact PySem.W.kia_one PySem.W.kitx_none I.kIn True.intro e (fun z=>nomatch z) h
 | bl y=>cases (show u=Value.bool y from rx);exact PySem.W.kia_one PySem.W.kitx_bool I.kIn True.intro e (fun z=>nomatch z) h
 | int i=>obtain ⟨t,q⟩:=(show ∃ t,u=Value.int i t from rx);cases q;exact PySem.W.kia_one PySem.W.kitx_int I.kIn True.intro e (fun z=>nomatch z) h
 | str y=>obtain ⟨t,q⟩:=(show ∃ t,u=Value.str y t from rx);cases q;exact PySem.W.kia_one PySem.W.kitx_str I.kIn True.intro e (fun z=>nomatch z) h
 | flt y=>obtain ⟨t,q⟩:=(show ∃ t,u=Value.float y t from rx);cases q;exact PySem.W.kia_one PySem.W.kitx_float I.kIn True.intro e (fun z=>nomatch z) h
 | @lst a xs ea=>
  cases (show u=Value.ref a from rx)
  obtain ⟨_,_,n,_,h1⟩:=(show ObjOk X.prog X.w H s.heap a (.lst xs)from I.hok a _ ea)
  exact PySem.W.kia_one PySem.W.kitx_list I.kIn ⟨_,h1,rfl⟩ e (fun z=>nomatch z) h
 | @frz a ob xs ea=>
  cases (show u=Value.ref a from rx)
  obtain ⟨_,_,_,n,_,h1⟩:=(show ObjOk X.prog X.w H s.heap a (.frz ob (.lst xs))from I.hok a _ ea)
  exact PySem.W.kia_one PySem.W.kitx_list I.kIn ⟨_,h1,rfl⟩ e (fun z=>nomatch z) h
 | @tup a xs ea=>
  cases (show u=Value.ref a from rx)
  obtain ⟨_,_,_,p⟩:=(show ObjOk X.prog X.w H s.heap a (.tup xs)from I.hok a _ ea)
  obtain ⟨o,h1,h2,_⟩:=p
  exact PySem.W.kia_one PySem.W.kitx_tuple I.kIn ⟨o,h1,h2⟩ e (fun z=>nomatch z) h
 | @dK a kvs ea=>
  cases (show u=Value.ref a from rx)
  obtain ⟨_,_,vs,_,p⟩:=(show ObjOk X.prog X.w H s.heap a (.dK kvs)from I.hok a _ ea)
  obtain ⟨o,es,ep,h1,h2,_⟩:=p
  exact PySem.W.kia_one PySem.W.kitx_dict I.kIn ⟨o,h1,h2.1⟩ e (fun z=>nomatch z) h
 | @dT a kvs ea=>
  cases (show u=Value.ref a from rx)
  obtain ⟨_,_,xs,_,o,es,ep,h1,h2,_⟩:=(show ObjOk X.prog X.w H s.heap a (.dT kvs)from I.hok a _ ea)
  exact PySem.W.kia_one PySem.W.kitx_dict I.kIn ⟨o,h1,h2.1⟩ e (fun z=>nomatch z) h
 | @ins a C dx fs ea cl ha hn htk hm=>
  cases (show u=Value.ref a from rx)
  obtain ⟨mA,O,_⟩:=sh I.hok ea
  obtain ⟨od,J,_⟩:=O.look
  exact PySem.W.kia_one (PySem.W.kitx_own (cl.get _) cl.hd ha hn htk hm) I.kIn J e (fun z=>nomatch z) h
end
structure Room (k:Nat) (A:Around):Prop where
 hd:A.handled=none
 dp:A.depth+3*k+5<recursionLimit
 un:A.units+16*k+200<cLine
theorem Room.mono {j k:Nat} {A:Around} (r:Room k A) (h:j<=k):Room j A:=⟨r.hd,by have:=r.dp;omega,by have:=r.un;omega⟩
theorem Room.deeper {k:Nat} {A:Around} (r:Room (k+1) A) (env:Env):Room k (A.deeper env):=
 ⟨r.hd,by have:=r.dp;show A.depth+1+3*k+5<_;omega,by have:=r.un;show A.units+3+16*k+200<_;omega⟩
theorem Room.depth {k:Nat} {A:Around} (r:Room k A):A.depth<recursionLimit:=by have:=r.dp;omega
theorem Room.units {k:Nat} {A:Around} (r:Room k A):A.units+64<cLine:=by have:=r.un;omega
theorem Room.units0 {k:Nat} {A:Around} (r:Room k A):A.units<cLine:=by have:=r.un;omega
noncomputable def vC:TA:=fun _ H Q=>Q [] H
noncomputable def i8 (ta:TE) (tr:TA):TA:=fun Z H Q=>ta Z H fun x H1=>tr Z H1 fun xs H2=>Q (x::xs) H2
section
variable {X:Cx} {e:Expr} {es:List Expr} {te:TE} {t:TA} {pos:Pos}
theorem ad:PA X [] vC:=fun _ _ _ _ H Q I h=>Calls.spliced_nil ⟨[],H,I,.nil,h⟩
theorem aa (ha:PE X e te) (hr:PA X es t) (hs:starEach (e::es) X.env=(false,eval e X.env)::starEach es X.env:=by rfl):PA X (e::es) (i8 te t):=by
 intro pos pins s Z H Q I h
 rw [hs]
 show wpAny _ _ (spliced ((false,eval e X.env)::backTo pos (starEach es X.env))) _ _ s
 refine Calls.spliced_cons (thn (ha pins s Z H _ I h) fun u s1 ⟨x,H1,I1,r1,q1⟩=>?_)
 exact thn (hr pos pins s1 Z H1 _ I1 q1) fun us s2 ⟨xs,H2,I2,r2,q2⟩=>⟨x::xs,H2,I2,.cons r1 r2,q2⟩
noncomputable def vB (t:TA):TE:=fun Z H Q=>t Z H fun xs H1=>xs.length<=sizeLine/\ ∀ p,H1 p=none->Q (.ref p) (upd H1 p (.tup xs))
noncomputable def uL (t:TA):TE:=fun Z H Q=>t Z H fun xs H1=>xs.length<=sizeLine/\ ∀ p,H1 p=none->Q (.ref p) (upd H1 p (.lst xs))
theorem bp {x1} (h:PA X es t):PE X (.Tuple es x1 pos) (vB t):=by
 intro pins s Z H Q I hq
 refine wpAny_Tuple_spliced (thn (h pos pins s Z H _ I hq) fun us s1 ⟨xs,H1,I1,r,z,q⟩=>⟨by rw [<- r.length];exact z,?_⟩)
 have hf:H1 s1.heap.objs.size=none:=I1.hok.fresh (Nat.le_refl _)
 refine ⟨.ref s1.heap.objs.size,upd H1 s1.heap.objs.size (.tup xs),I1.laid (t':=s1.toks) (fun b u e=>Heap.get?_push_of_some _ e) (Nat.le_refl _) ?_,rfl,q _ hf⟩
 exact ⟨z,us,r,⟨_,Heap.get?_push_size _ rfl,rfl,_,rfl⟩⟩
theorem bq (h:PA X es t):PE X (.List es pos) (uL t):=by
 intro pins s Z H Q I hq
 refine wpAny_List_spliced (thn (h pos pins s Z H _ I hq) fun us s1 ⟨xs,H1,I1,r,z,q⟩=>⟨by rw [<- r.length];exact z,?_⟩)
 have hf:H1 s1.heap.objs.size=none:=I1.hok.fresh (Nat.le_refl _)
 refine ⟨.ref s1.heap.objs.size,upd H1 s1.heap.objs.size (.lst xs),I1.laid (t':=s1.toks) (fun b u e=>Heap.get?_push_of_some _ e) (Nat.le_refl _) ?_,rfl,q _ hf⟩
 exact ⟨z,us,0,r,Heap.get?_push_size _ rfl⟩
end
noncomputable abbrev Sp:=List V->Hp->VK->XK->Prop
noncomputable abbrev CXT:=List Env->Hp->Shared->XK->Value->Shared->Prop
structure oh (P:Program) (w:World) (K:PySem.W.Frag) (mg:Str->Option Value) (base:Heap) (A:Around) (outer:List Env) (s:Shared) (H:Hp):Prop where
 frames:A.frames=some outer
 mod:Mod K mg base
 bs: ∀ b o,base.get? b=some o->s.heap.get? b=some o/\H b=none
 bsz:base.objs.size<=s.heap.objs.size
 funs:s.heap.FunFrames base outer
 frf: ∀ b∈frs outer,H b=none
 hok:HOk P w H s.heap
 bare:AllBare s.gens
noncomputable def CE (outer:List Env) (P:Program) (w:World) (H:Hp) (s:Shared) (Q:VK) (u:Value) (s':Shared):Prop:=
 ∃ v H',s'.os=s.os/\AllBare s'.gens/\Un (frs outer) [] H H' s.heap s'.heap/\HOk P w H' s'.heap/\RelV v u/\Q v H'
noncomputable def CR (CX:CXT) (outer:List Env) (P:Program) (w:World) (H:Hp) (s:Shared) (Q:VK) (E:XK) (r:Result) (s':Shared):Prop:=
 match r with
 | .ok (.ret u)=>CE outer P w H s Q u s'
 | .ok _=>False
 | .error e=>CX outer H s E e s'
structure FnOk (P:Program) (w:World) (K:PySem.W.Frag) (mg:Str->Option Value) (base:Heap) (CX:CXT) (k:Nat) (f:Addr) (fd:FuncData) (ps:List Str) (sp:Sp):Prop where
 len: ∀ vs H Q E,sp vs H Q E->vs.length=ps.length
 run: ∀ (A:Around) (outer:List Env) (s:Shared) (H:Hp) (args:Args) (us:List Value) (vs:List V) (Q:VK) (E:XK),Room k A->oh P w K mg base A outer s H->BindsTo s fd args (ps.zip us)->Vals vs us->sp vs H Q E->
  codeAny (model P w) A (.call (.ref f) args) (CR CX outer P w H s Q E) s
section
variable {X:Cx} {pins:List (Addr×Obj)} {Z:St} {H:Hp} {s s':Shared}
theorem Inv.env0 (I:Inv X pins Z H s):oh X.prog X.w X.K X.mg X.base X.A X.stack s H:=
 ⟨I.ok.frames,I.ok.mod,I.bs,Nat.le_trans I.ok.bsz I.sz,I.stack,I.stkFree,I.hok,I.bare⟩
theorem Inv.after {Q:VK} {u:Value} (I:Inv X pins Z H s) (h:CE X.stack X.prog X.w H s Q u s'):EP X pins Z Q u s':=by
 obtain ⟨v,H',os,bare,un,hok,r,q⟩:=h
 obtain ⟨hh,g,d,t,os'⟩:=s'
 obtain rfl:os'=s.os:=os
 exact ⟨v,H',I.call (h':=hh) (g':=g) (d':=d) (t':=t) (ch:=[]) un hok bare (fun b z=>absurd z (by simp)),r,q⟩
end
noncomputable def sx (sp:Sp) (dvs:List V) (E:XK) (t:TA):TE:=fun Z H Q=>t Z H fun vs H1=>sp (vs++dvs) H1 Q E
noncomputable def Binds (K:PySem.W.Frag) (fd:FuncData) (ps:List Str) (ds:List Value):Prop:=
 ∀ (s:Shared) (us:List Value),K.In s.heap->(us++ds).length=ps.length->BindsTo s fd ⟨us,[]⟩ (ps.zip (us++ds))
theorem Binds.all {K:PySem.W.Frag} {fd:FuncData} {ps:List Str} (h: ∀ us:List Value,us.length=ps.length->bindArgs fd ⟨us,[]⟩=pure (ps.zip us)):Binds K fd ps []:=fun s us _ hl=>by
 rw [List.append_nil]at hl ⊢
 exact .of_eq (h us hl)
noncomputable def dC (CX:CXT) (X:Cx) (E:XK):Prop:= ∀ (pins:List (Addr×Obj)) (Z:St) (H:Hp) (s:Shared) (e:Value) (s':Shared),Inv X pins Z H s->CX X.stack H s E e s'->X.xe e s'
section
variable {X:Cx} {CX:CXT} {k:Nat} {f C:Addr} {fd:FuncData} {ps:List Str} {sp:Sp} {dvs:List V} {ds:List Value} {E:XK} {x m:Str} {p pos apos:Pos} {e o:Expr} {es:List Expr} {ta:TE} {t:TA}
theorem tE {pins:List (Addr×Obj)} {Z:St} {H:Hp} {s:Shared} {Q:VK} {us:List Value} {vs:List V} (F:FnOk X.prog X.w X.K X.mg X.base CX k f fd ps sp) (hr:Room k X.A) (hb:Binds X.K fd ps ds) (hd:Vals dvs ds) (hx:dC CX X E)
  (I:Inv X pins Z H s) (r:Vals vs us) (h:sp (vs++dvs) H Q E):wpAny (model X.prog X.w) X.A (call (.ref f) us) (EP X pins Z Q) X.xe s:=by
 have r2:Vals (vs++dvs) (us++ds):=r.append hd
 have hl:(us++ds).length=ps.length:=by rw [<- r2.length];exact F.len _ _ _ _ h
 refine wpAny_call (codeAny_mono (F.run X.A X.stack s H ⟨us,[]⟩ (us++ds) (vs++dvs) Q E hr I.env0 (hb s us I.kIn hl) r2 h) fun r s' hq=>?_)
 cases r with
 | error e=>exact hx pins Z H s e s' I hq
 | ok fl=>
  cases fl with
  | ret u=>exact I.after hq
  | next=>exact False.elim hq
  | brk=>exact False.elim hq
  | cont=>exact False.elim hq
theorem aq (F:FnOk X.prog X.w X.K X.mg X.base CX k f fd ps sp) (hr:Room k X.A) (hg:Gl X x) (hm:X.mg x=some (.ref f)) (hk:PySem.W.keepIn X.K (.ref f)=true) (hb:Binds X.K fd ps ds) (hd:Vals dvs ds) (hx:dC CX X E)
  (ha:PA X (e::es) t) (hdb:(x==("__debug__":Str))=false:=by decide) (he:starEach (e::es) X.env=(false,eval e X.env)::starEach es X.env:=by rfl) (hpl:(backTo pos (starEach es X.env)).any (·.1)=false:=by rfl):
  PE X (.Call (.Name x p) (e::es) [] pos) (sx sp dvs E t):=by
 intro pins s Z H Q I h
 refine wpAny_Call_Name_kw (eI I hg hm ?_ hdb)
 refine PySem.W.callWith_K (h₀:=X.base) I.ok.mod.kin hk (thn (ha pos pins s Z H _ I h) fun us s1 ⟨vs,H1,I1,r,q⟩=>⟨I1.kIn,?_⟩) he hpl
 exact tE F hr hb hd hx I1 r q
end
structure au (N P:List Str) (sc:Scope):Prop where
 kind:sc.kind=.function
 co:sc.isCoroutine=false
 gen:sc.isGenerator=false
 nd:N.Nodup
 pre:N.take P.length=P
 par: ∀ x∈P,sc.names.lookup x=some .local\/sc.names.lookup x=some .cell
 nofree: ∀ y∈sc.names,y.2≠ .free
theorem fsc {N P:List Str} {sc:Scope} (kind_:sc.kind=.function:=by rfl) (co_:sc.isCoroutine=false:=by rfl) (gen_:sc.isGenerator=false:=by rfl) (nd_:N.Nodup:=by decide +kernel) (pre_:N.take P.length=P:=by rfl) (par_: ∀ x∈P,sc.names.lookup x=some .local\/sc.names.lookup x=some .cell:=by decide +kernel) (nofree_: ∀ y∈sc.names,y.2≠ .free:=by decide +kernel):au N P sc:=⟨kind_,co_,gen_,nd_,pre_,par_,nofree_⟩
theorem ig {kindOf:Str->Option NameKind} {x:Str}: ∀ {binds:List (Str×Value)} {m:Str->Option Value},(∀ v,(x,v)∉binds)->bindL kindOf binds m x=m x
 | [],_,_=>rfl
 | (n,v)::r,m,h=>by
  unfold bindL
  rw [ig fun w hw=>h w (List.mem_cons_of_mem _ hw)]
  split
  ·have:x≠n:=by rintro rfl;exact h v List.mem_cons_self
   simp [this]
  ·rfl
theorem ik {kindOf:Str->Option NameKind} {x:Str}: ∀ {binds:List (Str×Value)} {m:Str->Option Value},(∀ v,(x,v)∉binds)->bindC kindOf binds m x=m x
 | [],_,_=>rfl
 | (n,v)::r,m,h=>by
  unfold bindC
  rw [ik fun w hw=>h w (List.mem_cons_of_mem _ hw)]
  split
  ·rfl
  ·have:x≠n:=by rintro rfl;exact h v List.mem_cons_self
   simp [this]
theorem ij {kindOf:Str->Option NameKind} {x:Str} {v:Value}: ∀ {P:List Str} {vs:List Value} {i:Nat} {m:Str->Option Value},P.Nodup->P[i]? =some x->vs[i]? =some v->kindOf x=some .local->
  bindL kindOf (P.zip vs) m x=some v
 | [],_,_,_,_,h,_,_=>by simp at h
 | _::_,[],_,_,_,_,h,_=>by simp at h
 | p::P,w::vs,0,m,nd,h1,h2,hk=>by
  simp at h1 h2;subst h1;subst h2
  show bindL kindOf ((p,w)::P.zip vs) m p=_
  unfold bindL
  rw [ig fun v hv=>(List.nodup_cons.mp nd).1 (List.of_mem_zip hv).1,if_pos hk]
  simp
 | p::P,w::vs,i+1,m,nd,h1,h2,hk=>by
  show bindL kindOf ((p,w)::P.zip vs) m x=_
  unfold bindL
  exact ij (i:=i) (List.nodup_cons.mp nd).2 (by simpa using h1) (by simpa using h2) hk
theorem im {kindOf:Str->Option NameKind} {x:Str} {v:Value}: ∀ {P:List Str} {vs:List Value} {i:Nat} {m:Str->Option Value},P.Nodup->P[i]? =some x->vs[i]? =some v->kindOf x≠some .local->
  bindC kindOf (P.zip vs) m x=some v
 | [],_,_,_,_,h,_,_=>by simp at h
 | _::_,[],_,_,_,_,h,_=>by simp at h
 | p::P,w::vs,0,m,nd,h1,h2,hk=>by
  simp at h1 h2;subst h1;subst h2
  show bindC kindOf ((p,w)::P.zip vs) m p=_
  unfold bindC
  rw [ik fun v hv=>(List.nodup_cons.mp nd).1 (List.of_mem_zip hv).1,if_neg hk]
  simp
 | p::P,w::vs,i+1,m,nd,h1,h2,hk=>by
  show bindC kindOf ((p,w)::P.zip vs) m x=_
  unfold bindC
  exact im (i:=i) (List.nodup_cons.mp nd).2 (by simpa using h1) (by simpa using h2) hk
noncomputable def cq (N:List Str) (vs:List V):St:=vs.map some++List.replicate (N.length-vs.length) none
noncomputable def cz (CX:CXT) (P:Program) (w:World) (K:PySem.W.Frag) (mg:Str->Option Value) (base:Heap) (N:List Str) (qual:Str) (scope:Scope) (f:Addr) (cd:Value) (A:Around) (outer:List Env) (s:Shared) (H:Hp) (E:XK):Cx where
 prog:=P
 w:=w
 K:=K
 mg:=mg
 base:=base
 A:=A.deeper (envOfC qual scope s.heap.objs.size f cd)
 N:=N
 s₀:=s
 H₀:=H
 env:=envOfC qual scope s.heap.objs.size f cd
 outer:=outer
 stack:=envOfC qual scope s.heap.objs.size f cd::outer
 ex:=[]
 calm:=true
 fn:=fun _=>true
 pn:=[]
 xe:=fun e s'=>wpAny (model P w) (A.deeper (envOfC qual scope s.heap.objs.size f cd)) (leaving (envOfC qual scope s.heap.objs.size f cd) e) (fun _ s''=>CX outer H s E e s'') (fun e' s''=>CX outer H s E e' s'') s'
theorem jS {sc:Scope} {n:Nat} {x:Str} (h:sc.names.lookup x=some .cell): ∃ c,(cellsFrom n sc.names []).lookup x=some c:=by
 have q:=PySem.W.cellsFrom_some sc.names n [] (.inl h)
 exact Option.isSome_iff_exists.mp q
theorem fo {CX:CXT} {P:Program} {w:World} {K:PySem.W.Frag} {mg:Str->Option Value} {base:Heap} {N ps:List Str} {qual:Str} {scope:Scope} {f:Addr} {cd:Value} {A:Around} {outer:List Env} {s s1:Shared} {H:Hp} {E:XK} {us:List Value} {vs:List V}
  (S:au N ps scope) (hd:A.handled=none) (e0:oh P w K mg base A outer s H) (hl:vs.length=ps.length) (r:Vals vs us)
  (x:InCallC s s.heap.objs.size (bindL (envOfC qual scope s.heap.objs.size f cd).kindOf (ps.zip us) fun _=>none) (cellsFrom (s.heap.objs.size+1) scope.names []) (bindC (envOfC qual scope s.heap.objs.size f cd).kindOf (ps.zip us) fun _=>none) s1):
  Inv (cz CX P w K mg base N qual scope f cd A outer s H E) [] (cq N vs) H s1:=by
 have hpl:ps.length<=N.length:=by have:=congrArg List.length S.pre;rw [List.length_take]at this;omega
 obtain ⟨h1,tk,rfl,hk⟩:=x.done
 have noA: ∀ b:Addr,b∉(cz CX P w K mg base N qual scope f cd A outer s H E).ex:=fun b z=>absurd (show b∈([]:List Addr)from z) (by simp)
 refine ⟨⟨e0.mod,S.kind,rfl,rfl,Nat.le_refl _,fun y z c h1 h2=>?_,fun y hy=>?_,fun y c _ h=>?_,fun _=>hd,Around.frames_deeper e0.frames,.inr ⟨rfl,rfl⟩,fun b z=>absurd z (noA b),e0.bs,e0.bsz,fun b _ _=>noA b,fun b z=>absurd z (noA b),e0.funs,e0.frf⟩,
  rfl,e0.bare,Un.kept hk,⟨_,x.toInCall.ns,fun i y v h1 h2 h3=>?_⟩,fun y c h=>⟨_,x.cell y c h⟩,e0.hok.fresh (Nat.le_refl _),fun y c h=>?_,fun p hp=>absurd (show p∈([]:List (Addr×Obj))from hp) (by simp),e0.hok.kept hk,?_⟩
 ·exact name_of_addr x.apart (PySem.mem_of_lookup h1) (PySem.mem_of_lookup h2)
 ·have hy:scope.names.lookup y=some .cell\/scope.names.lookup y=some .free:=hy
  rcases hy with hy | hy
  ·exact jS hy
  ·exact absurd rfl (S.nofree _ (PySem.mem_of_lookup hy))
 ·exact Nat.le_of_lt (x.above y c (PySem.mem_of_lookup h))
 ·have hi:i<vs.length:=by
   unfold cq at h2
   by_cases hi:i<vs.length
   ·exact hi
   ·rw [List.getElem?_append_right (by simpa using hi)]at h2
    rw [List.getElem?_replicate]at h2
    split at h2 <;> cases h2
  have ha:vs[i]? =some v:=by
   unfold cq at h2
   rw [List.getElem?_append_left (by simpa using hi),List.getElem?_map]at h2
   cases e:vs[i]? with
   | none=>rw [e]at h2;cases h2
   | some a=>rw [e]at h2;cases h2;rfl
  obtain ⟨u,hu,rv⟩:=r.get ha
  have hp:ps[i]? =some y:=by
   rw [<- S.pre,List.getElem?_take_of_lt (by omega)];exact h1
  have ndP:ps.Nodup:=by rw [<- S.pre];exact S.nd.sublist (List.take_sublist _ _)
  refine ⟨u,rv,?_⟩
  rcases S.par y (List.mem_of_getElem? hp)with k | k
  ·exact .inl ⟨k,ij ndP hp hu k⟩
  ·obtain ⟨c,e⟩:=jS (n:=s.heap.objs.size+1) k
   refine .inr ⟨.inl k,c,e,?_⟩
   have q:=x.cell y c e
   rw [im ndP hp hu (by show scope.names.lookup y≠_;rw [k];decide)]at q
   exact q
 ·exact e0.hok.fresh (Nat.le_of_lt (x.above y c (PySem.mem_of_lookup h)))
 ·unfold cq
  show _=N.length
  rw [List.length_append,List.length_map,List.length_replicate]
  omega
theorem qw {CX:CXT} {P:Program} {w:World} {K:PySem.W.Frag} {mg:Str->Option Value} {base:Heap} {k:Nat} {f:Addr} {name qual:Str} {params:Arguments} {body:List Stmt} {scope:Scope} {dV kV doc pm cdv ct oc:Value} {an od:Option Addr}
  {osl:Array (Option Value)} {N ps:List Str} {sp:Sp} (lk:K.lookup f=some ⟨oc,od,.func (PySem.W.fnOf name qual params body scope dV kV doc pm an cdv ct),osl⟩) (hcd:PySem.W.codeIn K cdv qual=true) (S:au N ps scope)
  (len: ∀ vs H Q E,sp vs H Q E->vs.length=ps.length)
  (hbody: ∀ (A:Around) (outer:List Env) (s:Shared) (H:Hp) (vs:List V) (Q:VK) (E:XK),Room k (A.deeper (envOfC qual scope s.heap.objs.size f cdv))->sp vs H Q E->
   ∃ t,PSs (cz CX P w K mg base N qual scope f cdv A outer s H E) body t/\t {nx:=fun _ H'=>Q .non H',rt:=Q} (cq N vs) H):
  FnOk P w K mg base CX (k+1) f (PySem.W.fnOf name qual params body scope dV kV doc pm an cdv ct) ps sp:=by
 refine ⟨len,fun A outer s H args us vs Q E hr e0 hb r hsp=>?_⟩
 have hl:=len _ _ _ _ hsp
 have KX:K.In s.heap:=e0.mod.kin.keeps fun b o e=>(e0.bs b o e).1
 have lim:s.heap.NoLimit:=e0.mod.nolimit.keeps fun b o e=>(e0.bs b o e).1
 have hkind: ∀ y∈ps.zip us,scope.names.lookup y.1=some .local\/(scope.names.lookup y.1=some .cell/\((cellsFrom (s.heap.objs.size+1) scope.names []).lookup y.1).isSome=true):=fun ⟨n,v⟩ hy=>by
  rcases S.par n (List.of_mem_zip hy).1 with q | q
  ·exact .inl q
  ·exact .inr ⟨q,PySem.W.cellsFrom_some _ _ _ (.inl q)⟩
 refine codeAny_call_function hr.depth (KX _ _ lk) rfl S.co S.gen rfl (PySem.W.codeRec_of KX hcd) (hb _ _ _ _ ?_)
 refine wpAny_newFunctionEnv_cells S.kind hkind fun env he s1 x=>?_
 subst he
 refine ⟨lim.keeps x.toInCall.keep,codeAny_func ?_⟩
 obtain ⟨t,ht,hq⟩:=hbody A outer s H vs Q E (hr.deeper _) hsp
 have I:Inv (cz CX P w K mg base N qual scope f cdv A outer s H E) [] (cq N vs) H s1:=fo S hr.hd e0 hl r x
 refine wpAny_mono (ht [] s1 (cq N vs) H _ I hq) (fun fl s' hs=>?_) fun e s' hs=>hs
 have fin: ∀ {Z':St} {H':Hp} {v:V} {u:Value},Inv (cz CX P w K mg base N qual scope f cdv A outer s H E) [] Z' H' s'->RelV v u->Q v H'->CE outer P w H s Q u s':=
  fun {Z' H' v u} J rv q=>⟨v,H',J.os,J.bare,J.base,J.hok,rv,q⟩
 cases fl with
 | ret u=>
  obtain ⟨v,Z',H',J,rv,q⟩:=hs
  exact fin J rv q
 | next=>
  obtain ⟨Z',H',J,q⟩:=hs
  exact fin (v:=V.non) (u:=Value.none) J rfl q
 | brk=>
  obtain ⟨_,_,_,q⟩:=hs
  exact False.elim q
 | cont=>
  obtain ⟨_,_,_,q⟩:=hs
  exact False.elim q
section
variable {X:Cx} {x:Str} {p pos:Pos} {e:Expr} {es:List Expr} {t:TA} {id T:String} {r:List V->Hp->VK->Prop}
noncomputable def tCB (r:List V->Hp->VK->Prop) (t:TA):TE:=fun Z H Q=>t Z H fun vs H1=>r vs H1 Q
theorem al (hc:da X (.builtin id) r) (hg:Gl X x) (hm:X.mg x=none) (hv:bootBuiltins x=some (.builtin id)) (ha:PA X (e::es) t) (hn:x≠"__name__":=by decide) (hdb:(x==("__debug__":Str))=false:=by decide)
  (he:starEach (e::es) X.env=(false,eval e X.env)::starEach es X.env:=by rfl) (hpl:(backTo pos (starEach es X.env)).any (·.1)=false:=by rfl):PE X (.Call (.Name x p) (e::es) [] pos) (tCB r t):=by
 intro pins s Z H Q I h
 refine wpAny_Call_Name_kw (dA I hg hm hv ?_ hn hdb)
 exact PyProof.Rows.callWith_builtin1 (thn (ha pos pins s Z H _ I h) fun us s1 ⟨vs,H1,I1,r1,q1⟩=>hc pins s1 Z H1 vs us Q I1 r1 q1) he hpl
theorem bo (hc:da X (.type T) r) (hg:Gl X x) (hm:X.mg x=none) (hv:bootBuiltins x=some (.type T)) (ha:PA X (e::es) t) (hn:x≠"__name__":=by decide) (hdb:(x==("__debug__":Str))=false:=by decide)
  (he:starEach (e::es) X.env=(false,eval e X.env)::starEach es X.env:=by rfl) (hpl:(backTo pos (starEach es X.env)).any (·.1)=false:=by rfl):PE X (.Call (.Name x p) (e::es) [] pos) (tCB r t):=by
 intro pins s Z H Q I h
 refine wpAny_Call_Name_kw (dA I hg hm hv ?_ hn hdb)
 exact PyProof.Rows.callWith_type1 (thn (ha pos pins s Z H _ I h) fun us s1 ⟨vs,H1,I1,r1,q1⟩=>hc pins s1 Z H1 vs us Q I1 r1 q1) he hpl
end
end L2
namespace HT
open PySem PyProof.Rows
section
variable {prog:Program} {w:World} {A:Around} {E:Value->Shared->Prop} {s:Shared}
theorem cat_tup {t b:Addr} {vs ws:List Value} {Q:Value->Shared->Prop} (ht:IsTup s.heap t vs.toArray) (hb:IsTup s.heap b ws.toArray) (hv:vs≠[])
  (h1:ws=[]->Q (.ref t) s) (h2:ws≠[]->Q (.ref s.heap.objs.size) {s with heap:=s.heap.push {cls:=.type "tuple",data:=.seq (vs++ws).toArray}})
  (hsz:vs.length+ws.length<=sizeLine):wpAny (model prog w) A (binaryOp .Add (.ref t) (.ref b)) Q E s:=by
 obtain ⟨⟨cls,dd,data,sl⟩,ho,hc,n,hd⟩:=id ht
 obtain ⟨⟨cls2,dd2,data2,sl2⟩,ho2,hc2,n2,hd2⟩:=id hb
 simp only at hc hd hc2 hd2
 subst hc hd hc2 hd2
 have e:vs.toArray++ws.toArray=(vs++ws).toArray:=by simp
 by_cases hw:ws=[]
 ·exact concat_meets ⟨_,ho,rfl⟩ ⟨_,ho2,rfl⟩ noFill_tuple_add seq_tuple_add PySem.F.slot_tuple_add PySem.F.entry_tuple_add (PySem.F.args_tuple_add_2 _ _)
   (tuple_addW1 t b vs.toArray ws.toArray n n2 dd dd2 sl sl2 (by simpa using hv) (by simp [hw])) ⟨ho,ho2,h1 hw⟩
 ·refine concat_meets ⟨_,ho,rfl⟩ ⟨_,ho2,rfl⟩ noFill_tuple_add seq_tuple_add PySem.F.slot_tuple_add PySem.F.entry_tuple_add (PySem.F.args_tuple_add_2 _ _)
   (tuple_addW2 t b vs.toArray ws.toArray n n2 dd dd2 sl sl2 (by simpa using hv) (by simpa using hw) (by rw [List.size_toArray,List.size_toArray];exact hsz)) ⟨ho,ho2,?_⟩
  rw [e]
  exact h2 hw
noncomputable def sIx (n d:Nat):Option Int->Nat
 | none=>d
 | some v=>if v<0 then (v+ (n:Int)).toNat else min v.toNat n
theorem sIx_none (n d:Nat):sIx n d none=d:=rfl
theorem sIx_nat (n d k:Nat):sIx n d (some (k:Int))=min k n:=by
 show (if (k:Int) <0 then ((k:Int) + (n:Int)).toNat else min (k:Int).toNat n)=min k n
 rw [if_neg (by omega),Int.toNat_natCast]
theorem tD (n d:Nat) (hd:d<=n) (o:Option Int):sIx n d o<=n:=by
 cases o with
 | none=>exact hd
 | some v=>
  show (if v<0 then (v+ (n:Int)).toNat else min v.toNat n)<=n
  by_cases hv:v<0
  ·rw [if_pos hv];omega
  ·rw [if_neg hv];exact Nat.min_le_right _ _
theorem ml (v:Int) (n d:Nat):(if v<0 then max (v+ (n:Int)) 0 else min v (n:Int))=((sIx n d (some v):Nat):Int):=by
 show (if v<0 then max (v+ (n:Int)) 0 else min v (n:Int))=(((if v<0 then (v+ (n:Int)).toNat else min v.toNat n):Nat):Int)
 by_cases hv:v<0
 ·simp only [if_pos hv];omega
 ·simp only [if_neg hv];omega
theorem lq (lo hi:Option Int) (n:Nat):Builtin.Slice.sliceAdjust lo hi 1 (n:Int)=(((sIx n 0 lo:Nat):Int),((sIx n n hi:Nat):Int)):=by
 have h1: ¬ ((1:Int) <0):=by omega
 unfold Builtin.Slice.sliceAdjust
 simp only [h1,if_false]
 refine Prod.ext ?_ ?_
 ·cases lo with
  | none=>rfl
  | some v=>exact ml v n 0
 ·cases hi with
  | none=>rfl
  | some v=>exact ml v n n
theorem kt (i j:Nat):Builtin.Slice.slicePlaces (i:Int) (j:Int) 1=j-i:=by
 unfold Builtin.Slice.slicePlaces
 have h1:(1:Int) >0:=by omega
 simp only [h1,if_true,Int.ediv_one]
 split <;> omega
theorem cE {v:Value} {o:Option Int} {Q:Option Int->Shared->Prop} (p:IsPart v o) (h:Q o s):wpAny (model prog w) A (Builtin.Slice.slicePartIndex v) Q E s:=by
 cases p with
 | none=>exact slicePart_none h
 | int i t=>exact slicePart_int h
theorem fb {sl:Addr} {vl vu:Value} {lo hi:Option Int} {n:Nat} {Q:Int×Int×Nat->Shared->Prop} (hs:s.heap.IsSliceOf sl vl vu .none) (pl:IsPart vl lo) (pu:IsPart vu hi)
  (h:Q (((sIx n 0 lo:Nat):Int),1,sIx n n hi-sIx n 0 lo) s):wpAny (model prog w) A (Builtin.Slice.sliceApplied (.ref sl) (pure (n:Int))) Q E s:=by
 obtain ⟨os,hos,hcs,hds⟩:=id hs
 unfold Builtin.Slice.sliceApplied Builtin.Slice.sliceFields
 refine wpAny_bind (wpAny_bind (wpAny_field hos hds (x:=vl) rfl (wpAny_bind (wpAny_field hos hds (x:=vu) rfl (wpAny_bind (wpAny_field hos hds (x:=.none) rfl (wpAny_pure ?_)))))))
 refine wpAny_bind (slicePart_none ?_)
 show wpAny _ _ (if ((1:Int)==0)=true then _ else _) _ _ s
 rw [if_neg (by decide)]
 refine wpAny_bind (cE pl (wpAny_bind (cE pu (wpAny_bind (wpAny_pure ?_)))))
 show wpAny _ _ (match Builtin.Slice.sliceAdjust lo hi 1 (n:Int)with | (lo,hi)=>pure (lo,(1:Int),Builtin.Slice.slicePlaces lo hi 1)) _ _ s
 rw [lq lo hi n]
 show wpAny _ _ (pure (((sIx n 0 lo:Nat):Int),(1:Int),Builtin.Slice.slicePlaces ((sIx n 0 lo:Nat):Int) ((sIx n n hi:Nat):Int) 1)) _ _ s
 rw [kt]
 exact wpAny_pure h
theorem pk (xs:Array Value) (i k:Nat):((List.range k).filterMap fun (m:Nat)=>xs[((i:Int) + (m:Int) *1).toNat]?).toArray=((xs.toList.drop i).take k).toArray:=by
 have e:(fun (m:Nat)=>xs[((i:Int) + (m:Int) *1).toNat]?)=fun m=>xs[i+m]? :=by
  funext m
  have:((i:Int) + (m:Int) *1).toNat=i+m:=by omega
  rw [this]
 rw [e]
 have:=pick_run xs i k
 rw [List.filterMap_map]at this
 have e2:((fun x=>xs[x]?)∘fun x=>i+x)=fun m=>xs[i+m]? :=rfl
 rw [e2]at this
 rw [this]
theorem getItem_tuple_cut {t sl:Addr} {items:Array Value} {vl vu:Value} {lo hi:Option Int} {Q:Value->Shared->Prop} (ht:IsTup s.heap t items) (hs:s.heap.IsSliceOf sl vl vu .none) (pl:IsPart vl lo) (pu:IsPart vu hi)
  (hw: ¬ (sIx items.size 0 lo=0/\sIx items.size items.size hi=items.size))
  (h:Q (.ref s.heap.objs.size) {s with heap:=s.heap.push {cls:=.type "tuple",data:=.seq ((items.toList.drop (sIx items.size 0 lo)).take (sIx items.size items.size hi-sIx items.size 0 lo)).toArray}})
  (hsz:items.size<=sizeLine):wpAny (model prog w) A (getItem (.ref t) (.ref sl)) Q E s:=by
 have htake:sizeOk (.seq ((items.toList.drop (sIx items.size 0 lo)).take (sIx items.size items.size hi-sIx items.size 0 lo)).toArray):=by
  show ((items.toList.drop (sIx items.size 0 lo)).take (sIx items.size items.size hi-sIx items.size 0 lo)).toArray.size<=sizeLine
  rw [List.size_toArray,List.length_take,List.length_drop,Array.length_toList]
  omega
 have hj:sIx items.size items.size hi<=items.size:=tD _ _ (Nat.le_refl _) hi
 obtain ⟨os,hos,hcs,hds⟩:=id hs
 have hTs:s.TypeIs (.ref sl) "slice":=⟨os,hos,hcs⟩
 unfold getItem
 try with_reducible refine wpAny_holding ?_
 first | refine wpAny_bind (wpAny_pure ?_) | skip
 refine wpAny_bind (wpAny_sequenceKey ht.typeIs (by decide) ?_)
 refine wpAny_bind (wpAny_callSpecial?_slot (name:=Str.ofString "__getitem__") ht.typeIs PyProof.Rows.slot_tuple_getitem
  (wpAny_call_entry PyProof.Rows.slot_tuple_getitem ht.typeIs entry_tuple_getitem ?_ (args_tuple_getitem _ _)))
 show wpAny _ _ (Builtin.Tuple.tupleItemsOf (.ref t) >>= _) _ _ s
 refine wpAny_bind (tupleItemsOf_ ht ?_)
 refine wpAny_bind (wpAny_typeOf hTs ?_)
 rw [if_pos (by decide)]
 refine wpAny_bind (fb hs pl pu ?_)
 have hno: ¬ ((((sIx items.size 0 lo:Nat):Int)==0&&(1:Int)==1&&(sIx items.size items.size hi-sIx items.size 0 lo)==items.size)=true):=by
  intro q
  rw [Bool.and_eq_true,Bool.and_eq_true]at q
  have q1:((sIx items.size 0 lo:Nat):Int)=0:=eq_of_beq q.1.1
  have q2:sIx items.size items.size hi-sIx items.size 0 lo=items.size:=eq_of_beq q.2
  exact hw ⟨by omega,by omega⟩
 show wpAny _ _ (if (((sIx items.size 0 lo:Nat):Int)==0&&(1:Int)==1&&(sIx items.size items.size hi-sIx items.size 0 lo)==items.size)=true then _ else _) _ _ s
 rw [if_neg hno,pk]
 first
  | exact wpAny_bind (m:=Builtin.Tuple.tupleExact _) (wpAny_newObj_type (wpAny_pure ⟨_,rfl,wpAny_pure h⟩) htake)
  | exact wpAny_bind (m:=Builtin.Tuple.tupleExact _) (wpAny_newObj_type (wpAny_bind (wpAny_pure (wpAny_pure ⟨_,rfl,wpAny_pure h⟩))) htake)
  | exact wpAny_bind (wpAny_bind (m:=Builtin.Tuple.tupleExact _) (wpAny_newObj_type (wpAny_pure (wpAny_pure ⟨_,rfl,wpAny_pure h⟩)) htake))
  | exact wpAny_bind (wpAny_bind (m:=Builtin.Tuple.tupleExact _) (wpAny_newObj_type (wpAny_pure ⟨_,rfl,wpAny_pure h⟩) htake))
end
end HT
namespace L2
open PySem PySem.Spec PyProof.Rows
noncomputable abbrev TO:=St->Hp->(Option Int->Hp->Prop)->Prop
noncomputable def PO (X:Cx) (e:Option Expr) (t:TO):Prop:=
 ∀ (pins:List (Addr×Obj)) (s:Shared) (Z:St) (H:Hp) (Q:Option Int->Hp->Prop),Inv X pins Z H s->t Z H Q->
  wpAny (model X.prog X.w) X.A (evalPart e X.env) (fun u s'=> ∃ o H',Inv X pins Z H' s'/\IsPart u o/\Q o H') X.xe s
noncomputable def qP:TO:=fun _ H Q=>Q none H
noncomputable def uH (t:TE):TO:=fun Z H Q=>t Z H fun x H1=> ∃ i,x=.int i/\Q (some i) H1
section
variable {X:Cx} {e:Expr} {te:TE} {lo hi:Option Expr} {tl th:TO} {pos p2:Pos}
theorem bu:PO X none qP:=by
 intro pins s Z H Q I h
 rw [evalPart_none]
 exact wpAny_pure ⟨none,H,I,.none,h⟩
theorem bt (h:PE X e te):PO X (some e) (uH te):=by
 intro pins s Z H Q I hw
 rw [evalPart_some]
 refine thn (h pins s Z H _ I hw) fun u s1 ⟨x,H1,I1,r1,q1⟩=>?_
 obtain ⟨i,rfl,q⟩:=q1
 obtain ⟨t,rfl⟩:=r1
 exact ⟨some i,H1,I1,.int i t,q⟩
noncomputable def SlR (X:Cx) (r:V->Option Int->Option Int->Hp->VK->Prop):Prop:=
 ∀ (pins:List (Addr×Obj)) (s:Shared) (Z:St) (H:Hp) (x:V) (v vl vu:Value) (lo hi:Option Int) (sl:Addr) (Q:VK),Inv X pins Z H s->RelV x v->s.heap.IsSliceOf sl vl vu .none->IsPart vl lo->IsPart vu hi->r x lo hi H Q->
  ∃ T id,typeLookup (.type T) "__getitem__"=pure (some (.builtin id))/\s.TypeIs v T/\wpAny (model X.prog X.w) X.A (getItem v (.ref sl)) (EP X pins Z Q) X.xe s
noncomputable def tSl (r:V->Option Int->Option Int->Hp->VK->Prop) (te:TE) (tl th:TO):TE:=fun Z H Q=>te Z H fun x H1=>tl Z H1 fun l H2=>th Z H2 fun u H3=>r x l u H3 Q
theorem bj {r:V->Option Int->Option Int->Hp->VK->Prop} (hr:SlR X r) (he:PE X e te) (hl:PO X lo tl) (hu:PO X hi th):PE X (.Subscript e (.Slice lo hi none p2) pos) (tSl r te tl th):=by
 intro pins s Z H Q I h
 refine Subscript_ (thn (he pins s Z H _ I h) fun v s1 ⟨x,H1,I1,r1,q1⟩=>?_)
 refine wpAny_Slice (thn (hl pins s1 Z H1 _ I1 q1) fun vl s2 ⟨l,H2,I2,pl,q2⟩=>thn (hu pins s2 Z H2 _ I2 q2) fun vu s3 ⟨u,H3,I3,pu,q3⟩=>?_)
 rw [evalPart_none]
 refine wpAny_pure ?_
 have I4:Inv X pins Z H3 {s3 with heap:=s3.heap.push {cls:=.type "slice",data:=.fields #[vl,vu,.none]}}:=I3.kept (t':=s3.toks) fun b ob q=>Heap.get?_push_of_some _ q
 obtain ⟨T,id,hT,ht,hg⟩:=hr pins {s3 with heap:=s3.heap.push {cls:=.type "slice",data:=.fields #[vl,vu,.none]}} Z H3 x v vl vu l u s3.heap.objs.size Q I4 r1 (Heap.IsSliceOf.new ..) pl pu q3
 show wpAny (model X.prog X.w) X.A (subscriptTail e (.Slice lo hi none p2) v (.ref s3.heap.objs.size)) (EP X pins Z Q) X.xe {s3 with heap:=s3.heap.push {cls:=.type "slice",data:=.fields #[vl,vu,.none]}}
 exact tail_any (ops:=[.ref s3.heap.objs.size,v]) ht hT hg (by with_unfolding_all rfl)
noncomputable def dZ (xs:List V) (lo hi:Option Int):List V:=(xs.drop (HT.sIx xs.length 0 lo)).take (HT.sIx xs.length xs.length hi-HT.sIx xs.length 0 lo)
theorem fI (xs:List V) (lo hi:Option Int):(dZ xs lo hi).length<=xs.length:=by
 unfold dZ
 rw [List.length_take,List.length_drop]
 omega
noncomputable def vF (K:PySem.W.Frag):V->Option Int->Option Int->Hp->VK->Prop:=fun x lo hi H Q=> ∃ a xs,x=.ref a/\SqT K H a xs/\
 ¬ (HT.sIx xs.length 0 lo=0/\HT.sIx xs.length xs.length hi=xs.length)/\ ∀ p,H p=none->Q (.ref p) (upd H p (.tup (dZ xs lo hi)))
theorem oW:SlR X (vF X.K):=by
 intro pins s Z H x v vl vu lo hi sl Q I rx hs pl pu h
 obtain ⟨a,xs,rfl,hx,hw,q⟩:=h
 cases rx
 obtain ⟨its,r,ht,hz⟩:=I.tuple hx
 have hlen:its.toArray.size=xs.length:=by rw [List.size_toArray];exact r.length.symm
 refine ⟨"tuple",_,PyProof.Rows.slot_tuple_getitem.lookup,ht.typeIs,?_⟩
 refine HT.getItem_tuple_cut ht hs pl pu (by rw [hlen];exact hw) ?_ (by rw [hlen];exact hz)
 rw [hlen]
 refine ⟨.ref s.heap.objs.size,_,I.laid (t':=s.toks) (o:=.tup (dZ xs lo hi)) (fun b ob q=>Heap.get?_push_of_some _ q) (Nat.le_refl _) ?_,rfl,q _ (I.hok.fresh (Nat.le_refl _))⟩
 exact ⟨Nat.le_trans (fI xs lo hi) hz,_,(r.drop (HT.sIx xs.length 0 lo)).take (HT.sIx xs.length xs.length hi-HT.sIx xs.length 0 lo),IsTup.new _ _⟩
noncomputable def u0 (K:PySem.W.Frag):R2:=fun x y H Q=> ∃ a b xs ys,x=.ref a/\y=.ref b/\SqT K H a xs/\SqT K H b ys/\xs≠[]/\xs.length+ys.length<=sizeLine/\
 (ys=[]->Q (.ref a) H)/\(ys≠[]-> ∀ p,H p=none->Q (.ref p) (upd H p (.tup (xs++ys))))
theorem Vals.nil_iff {xs:List V} {us:List Value} (r:Vals xs us):us=[]↔xs=[]:=by
 cases r with
 | nil=>simp
 | cons _ _=>simp
theorem rK:OpR X (binaryOp .Add) (u0 X.K):=by
 intro pins s Z H x y v u Q I rx ry h
 obtain ⟨a,b,xs,ys,rfl,rfl,ha,hb,hx,hz,q1,q2⟩:=h
 cases rx
 cases ry
 obtain ⟨its,r1,p1,_⟩:=I.tuple ha
 obtain ⟨its2,r2,p2,_⟩:=I.tuple hb
 refine HT.cat_tup p1 p2 (fun z=>hx (r1.nil_iff.mp z)) (fun z=>⟨.ref a,H,I,rfl,q1 (r2.nil_iff.mp z)⟩) (fun z=>?_) (by rw [<- r1.length,<- r2.length];exact hz)
 refine ⟨.ref s.heap.objs.size,_,I.laid (t':=s.toks) (o:=.tup (xs++ys)) (fun b ob q=>Heap.get?_push_of_some _ q) (Nat.le_refl _) ?_,rfl,q2 (fun w=>z (r2.nil_iff.mpr w)) _ (I.hok.fresh (Nat.le_refl _))⟩
 exact ⟨by rw [List.length_append];exact hz,_,r1.append r2,IsTup.new _ _⟩
end
noncomputable def ixN (n:Nat) (i:Int):Option Nat:=if 0<=i then (if i<n then some i.toNat else none)else if -(n:Int)<=i then some (i+n).toNat else none
noncomputable def atI {α:Type} (xs:List α) (i:Int):Option α:=(ixN xs.length i).bind fun j=>xs[j]?
theorem lW {n:Nat} {i:Int} {j:Nat} (h:ixN n i=some j):seqIndex? i n=some j/\j<n/\ -(n:Int)<=i/\i<n:=by
 unfold ixN at h
 by_cases h0:0<=i
 ·rw [if_pos h0]at h
  by_cases h1:i<n
  ·rw [if_pos h1]at h
   have e:i.toNat=j:=Option.some.inj h
   exact ⟨by rw [seqIndex_of h0 h1,e],by omega,by omega,h1⟩
  ·rw [if_neg h1]at h;cases h
 ·rw [if_neg h0]at h
  by_cases h1: -(n:Int)<=i
  ·rw [if_pos h1]at h
   have e:(i+n).toNat=j:=Option.some.inj h
   exact ⟨by rw [seqIndex_neg (by omega) h1,e],by omega,h1,by omega⟩
  ·rw [if_neg h1]at h;cases h
theorem iQ {α:Type} {xs:List α} {i:Int} {v:α} (h:atI xs i=some v): ∃ j,seqIndex? i xs.length=some j/\xs[j]? =some v/\j<xs.length/\ -(xs.length:Int)<=i/\i<xs.length:=by
 unfold atI at h
 cases e:ixN xs.length i with
 | none=>rw [e]at h;cases h
 | some j=>
  rw [e]at h
  obtain ⟨h1,h2,h3,h4⟩:=lW e
  exact ⟨j,h1,h,h2,h3,h4⟩
theorem aW {α:Type} {xs:List α} {j:Nat} {v:α} (h:xs[j]? =some v):atI xs (j:Int)=some v:=by
 have hj:j<xs.length:=(List.getElem?_eq_some_iff.mp h).1
 have e:ixN xs.length (j:Int)=some j:=by
  unfold ixN
  rw [if_pos (by omega),if_pos (by omega)];simp
 unfold atI;rw [e];exact h
theorem qF {α:Type} (xs:List α) (v:α):atI (xs++[v]) (-1)=some v:=by
 have hl:(xs++[v]).length=xs.length+1:=by simp
 have e:ixN (xs++[v]).length (-1)=some xs.length:=by
  unfold ixN
  rw [hl,if_neg (by decide),if_pos (by omega)]
  congr 1
  omega
 unfold atI
 rw [e]
 show (xs++[v])[xs.length]? =some v
 simp
noncomputable def su (b:Expr):Prop:= ∀ o i,subscripted b false o i=operate [o,i] (getItem o i)
noncomputable def IxR (X:Cx) (r:R2):Prop:=
 ∀ (value slice:Expr) (pins:List (Addr×Obj)) (s:Shared) (Z:St) (H:Hp) (x y:V) (v u:Value) (Q:VK),Inv X pins Z H s->RelV x v->RelV y u->r x y H Q->
  subscripted slice false v u=operate [v,u] (getItem v u)->wpAny (model X.prog X.w) X.A (subscriptTail value slice v u) (EP X pins Z Q) X.xe s
noncomputable def MtR (X:Cx) (id:String) (r:V->List V->Hp->VK->Prop):Prop:=
 ∀ (pins:List (Addr×Obj)) (s:Shared) (Z:St) (H:Hp) (x:V) (xs:List V) (v:Value) (us:List Value) (Q:VK),Inv X pins Z H s->RelV x v->Vals xs us->r x xs H Q->
  wpAny (model X.prog X.w) X.A (call (.builtin id) (v::us)) (EP X pins Z Q) X.xe s
section
variable {X:Cx} {a b:Expr} {ta tb:TE} {pos:Pos}
theorem aF {r:R2} (hr:IxR X r) (ha:PE X a ta) (hb:PE X b tb) (hs:su b):PE X (.Subscript a b pos) (tOp r ta tb):=by
 intro pins s Z H Q I h
 exact Subscript_ (ux ha hb I h fun v u s2 x y H2 I2 rx ry q=>hr a b pins s2 Z H2 x y v u Q I2 rx ry q (hs _ _))
noncomputable def uY (K:PySem.W.Frag):R2:=fun x y H Q=> ∃ p xs i v,x=.ref p/\y=.int i/\SqL K H p xs/\atI xs i=some v/\Q v H
noncomputable def vI (K:PySem.W.Frag):R2:=fun x y H Q=> ∃ p xs i v,x=.ref p/\y=.int i/\SqT K H p xs/\atI xs i=some v/\Q v H
noncomputable def vJ:R2:=fun x y H Q=> ∃ z i c,x=.str z/\y=.int i/\z.length<=sizeLine/\atI z.cps.toList i=some c/\Q (.str ⟨#[c]⟩) H
theorem aJ:IxR X (uY X.K):=by
 intro value slice pins s Z H x y v u Q I rx ry h hs
 obtain ⟨p,xs,i,z,rfl,rfl,hq,he,q⟩:=h
 cases rx
 obtain ⟨t,rfl⟩:=ry
 obtain ⟨its,r,pl,hz⟩:=I.list hq
 obtain ⟨j,h1,h2,h3,h4,h5⟩:=iQ he
 obtain ⟨w,ew,rw'⟩:=r.get h2
 have hl:=r.length
 have hn:=dX
 have fin:EP X pins Z Q w s:=⟨z,H,I,rw',q⟩
 by_cases h0:0<=i
 ·have hj:i.toNat=j:=by
   rw [seqIndex_of h0 h5]at h1
   exact Option.some.inj h1
  exact item_listR pl.isList h0 (by omega) (by rw [hj];simpa using ew) fin hs
 ·have hj:(i+ (its.toArray.size:Int)).toNat=j:=by
   rw [seqIndex_neg (by omega) h4]at h1
   rw [List.size_toArray,<- hl]
   exact Option.some.inj h1
  exact subscriptTail_builtinR (x:=w) pl.isList.typeIs slot_list_getitem.lookup
   (wpAny_getItem_list_neg (Q:=fun r s'=>r=w/\EP X pins Z Q r s') pl.isList (by omega) (by rw [List.size_toArray] <;> omega) (by omega) (by rw [hj];simpa using ew) ⟨rfl,fin⟩) hs
theorem a9:IxR X (vI X.K):=by
 intro value slice pins s Z H x y v u Q I rx ry h hs
 obtain ⟨p,xs,i,z,rfl,rfl,hq,he,q⟩:=h
 cases rx
 obtain ⟨t,rfl⟩:=ry
 obtain ⟨its,r,pl,hz⟩:=I.tuple hq
 obtain ⟨j,h1,h2,h3,h4,h5⟩:=iQ he
 obtain ⟨w,ew,rw'⟩:=r.get h2
 have hl:=r.length
 have hn:=dX
 have fin:EP X pins Z Q w s:=⟨z,H,I,rw',q⟩
 exact subscriptTail_builtinR (x:=w) pl.typeIs slot_tuple_getitem.lookup
  (getItem_tuple (j:=j) (Q:=fun r s'=>r=w/\EP X pins Z Q r s') pl (by omega) (by omega) (by rw [List.size_toArray,<- hl];exact h1) (by simpa using ew) ⟨rfl,fin⟩) hs
theorem kQ:IxR X vJ:=by
 intro value slice pins s Z H x y v u Q I rx ry h hs
 obtain ⟨z,i,c,rfl,rfl,hz,he,q⟩:=h
 obtain ⟨t,rfl⟩:=rx
 obtain ⟨t',rfl⟩:=ry
 obtain ⟨j,h1,h2,h3,h4,h5⟩:=iQ he
 have hl:z.cps.toList.length=z.length:=by simp [Str.length]
 rw [hl]at h1 h4 h5
 have hn:=dX
 exact tail_any (typeIs_str s z t) slot_str_getitem.lookup (getItem_str (c:=c) (by
  have e1:decide (i< -(2^63:Int))=false:=decide_eq_false (by omega)
  have e2:decide (i≥2^63)=false:=decide_eq_false (by omega)
  rw [e1,e2,Bool.or_false]) (by rw [h1];simpa using h2) ⟨.str ⟨#[c]⟩,H,I.tok _,⟨_,rfl⟩,q⟩) hs
theorem kM (its:List Value) (n j:Nat) (u:Value):Obj.mapSeq (·.setIfInBounds j u) {cls:=.type "list",data:=.seq its.toArray n}={cls:=.type "list",data:=.seq (its.set j u).toArray n}:=by
 simp [Obj.mapSeq]
theorem Inv.lst {pins:List (Addr×Obj)} {Z:St} {H:Hp} {s:Shared} {p:Addr} {xs:List V} (I:Inv X pins Z H s) (h:H p=some (.lst xs)):
  ∃ (its:List Value) (n:Nat),Vals xs its/\s.heap.get? p=some {cls:=.type "list",data:=.seq its.toArray n}/\xs.length<=sizeLine:=by
 obtain ⟨z,its,n,r,e⟩:=I.hok p _ h
 exact ⟨its,n,r,e,z⟩
theorem Inv.lstUpd {pins:List (Addr×Obj)} {Z:St} {H:Hp} {s:Shared} {p:Addr} {xs ys:List V} {its its':List Value} {n n':Nat} {f:Obj->Obj} (I:Inv X pins Z H s) (h:H p=some (.lst xs))
  (ho:s.heap.get? p=some {cls:=.type "list",data:=.seq its.toArray n}) (hf:f {cls:=.type "list",data:=.seq its.toArray n}={cls:=.type "list",data:=.seq its'.toArray n'}) (r:Vals ys its') (hz:ys.length<=sizeLine) (t:Nat):
  Inv X pins Z (upd H p (.lst ys)) {s with heap:=s.heap.update p f,toks:=t}:=by
 have e:(s.heap.update p f).get? p=some {cls:=.type "list",data:=.seq its'.toArray n'}:=by
  rw [Heap.get?_update_self f ho (by rw [hf] <;> rfl),hf]
 refine I.write (x:=p) (e:=p) (by rw [h];trivial) (.inl rfl) (fun b u hb q=>(Heap.get?_update_other _ _ (Ne.symm hb)).trans q) ⟨_,e⟩ ?_
 exact ⟨hz,its',n',r,e⟩
noncomputable def uU:V->V->V->Hp->(Hp->Prop)->Prop:=fun o i v H Q=> ∃ p xs k j,o=.ref p/\i=.int k/\H p=some (.lst xs)/\ixN xs.length k=some j/\Q (upd H p (.lst (xs.set j v)))
theorem oX:vy X uU:=by
 intro pins s Z H o i v ov iv u Q I ro ri rv h
 obtain ⟨p,xs,k,j,rfl,rfl,hp,hj,q⟩:=h
 cases ro
 obtain ⟨t,rfl⟩:=ri
 obtain ⟨its,n,r,ho,hz⟩:=I.lst hp
 obtain ⟨h1,h2,h3,h4⟩:=lW hj
 have hl:=r.length
 have hn:=dX
 have I':Inv X pins Z (upd H p (.lst (xs.set j v))) {s with heap:=s.heap.update p (Obj.mapSeq (·.setIfInBounds j u))}:=
  I.lstUpd hp ho (kM its n j u) (r.set rv j) (by rw [List.length_set];exact hz) s.toks
 by_cases h0:0<=k
 ·have hk:k.toNat=j:=by
   rw [seqIndex_of h0 h4]at h1
   exact Option.some.inj h1
  exact PySem.W.ki_setAt ho h0 (by omega) (by rw [List.size_toArray,<- hl];exact h4) (by rw [hk];exact ⟨_,I',q⟩)
 ·have hk:(k+ (its.toArray.size:Int)).toNat=j:=by
   rw [seqIndex_neg (by omega) h3]at h1
   rw [List.size_toArray,<- hl]
   exact Option.some.inj h1
  exact PySem.W.ki_setBack ho (by omega) (by rw [List.size_toArray,<- hl];exact h3) (by omega) (by rw [hk];exact ⟨_,I',q⟩)
theorem iw (lo hi:Option Int) (n:Nat):(sliceBounds lo hi none n).1=((HT.sIx n 0 lo:Nat):Int)/\(sliceBounds lo hi none n).2.1=((HT.sIx n n hi:Nat):Int)/\(sliceBounds lo hi none n).2.2=1:=by
 refine ⟨?_,?_,rfl⟩
 ·cases lo with
  | none=>simp [sliceBounds,HT.sIx]
  | some i=>
   simp only [sliceBounds,HT.sIx,Option.getD_none,show (1:Int) >0 by decide,if_true]
   by_cases h:i<0
   ·simp only [h,if_true] <;> omega
   ·simp only [h,if_false] <;> omega
 ·cases hi with
  | none=>simp [sliceBounds,HT.sIx]
  | some i=>
   simp only [sliceBounds,HT.sIx,Option.getD_none,show (1:Int) >0 by decide,if_true]
   by_cases h:i<0
   ·simp only [h,if_true] <;> omega
   ·simp only [h,if_false] <;> omega
theorem gM (its:List Value) (lo hi:Option Int):slicePick its.toArray lo hi none=((its.drop (HT.sIx its.length 0 lo)).take (HT.sIx its.length its.length hi-HT.sIx its.length 0 lo)).toArray:=by
 obtain ⟨h1,h2,h3⟩:=iw lo hi its.toArray.size
 unfold slicePick
 rw [h1,h2,h3]
 simp only [sliceRange_one,pick_run,List.size_toArray] <;> rfl
noncomputable def vH (K:PySem.W.Frag):V->Option Int->Option Int->Hp->VK->Prop:=fun x lo hi H Q=> ∃ a xs,x=.ref a/\SqL K H a xs/\ ∀ p,H p=none->Q (.ref p) (upd H p (.lst (dZ xs lo hi)))
theorem et:SlR X (vH X.K):=by
 intro pins s Z H x v vl vu lo hi sl Q I rx hs pl pu h
 obtain ⟨a,xs,rfl,hx,q⟩:=h
 cases rx
 obtain ⟨its,r,ht,hz⟩:=I.list hx
 have hlen:=r.length
 refine ⟨"list",_,slot_list_getitem.lookup,ht.isList.typeIs,?_⟩
 refine wpAny_getItem_list_slice ht.isList hs pl pu .none (by simp) ?_ (by rw [List.size_toArray] <;> omega)
 rw [gM,<- hlen]
 refine ⟨.ref s.heap.objs.size,_,I.laid (t':=s.toks) (o:=.lst (dZ xs lo hi)) (fun b ob q=>Heap.get?_push_of_some _ q) (Nat.le_refl _) ?_,rfl,q _ (I.hok.fresh (Nat.le_refl _))⟩
 exact ⟨Nat.le_trans (fI xs lo hi) hz,_,0,(r.drop (HT.sIx xs.length 0 lo)).take (HT.sIx xs.length xs.length hi-HT.sIx xs.length 0 lo),Heap.get?_push_size _ rfl⟩
noncomputable def fG:V->Bool
 | .non=>true
 | .bl _=>true
 | .int _=>true
 | .str _=>true
 | _=>false
noncomputable def eqV:V->V->Bool
 | .non,.non=>true
 | .bl a,.bl b=>a==b
 | .bl a,.int b=>(if a then 1 else 0)==b
 | .int a,.bl b=>a==(if b then 1 else 0)
 | .int a,.int b=>a==b
 | .str a,.str b=>a==b
 | _,_=>false
theorem um {A:Around} {s:Shared} {y x:V} {u v:Value} (ry:RelV y u) (rx:RelV x v) (fy:fG y=true) (fx:fG x=true):SeqAt.EqAt A s u v (eqV y x):=by
 cases y with
 | non=>
  cases ry
  cases x with
  | non=>cases rx;exact SeqAt.EqAt.same _
  | bl b=>cases rx;exact SeqAt.EqAt.none_bool b
  | int b=>obtain ⟨t,rfl⟩:=rx;exact SeqAt.EqAt.none_int b t
  | str b=>obtain ⟨t,rfl⟩:=rx;exact SeqAt.EqAt.none_str b t
  | _=>exact absurd (show false=true from fx) Bool.false_ne_true
 | bl a=>
  cases ry
  cases x with
  | non=>cases rx;exact SeqAt.EqAt.bool_none a
  | bl b=>cases rx;exact SeqAt.EqAt.bool_bool a b
  | int b=>obtain ⟨t,rfl⟩:=rx;exact SeqAt.EqAt.bool_int a b t
  | str b=>obtain ⟨t,rfl⟩:=rx;exact SeqAt.EqAt.bool_str a b t
  | _=>exact absurd (show false=true from fx) Bool.false_ne_true
 | int a=>
  obtain ⟨t',rfl⟩:=ry
  cases x with
  | non=>cases rx;exact SeqAt.EqAt.int_none a t'
  | bl b=>cases rx;exact SeqAt.EqAt.int_bool a t' b
  | int b=>obtain ⟨t,rfl⟩:=rx;exact SeqAt.EqAt.int_int a t' b t
  | str b=>obtain ⟨t,rfl⟩:=rx;exact SeqAt.EqAt.int_str a t' b t
  | _=>exact absurd (show false=true from fx) Bool.false_ne_true
 | str a=>
  obtain ⟨t',rfl⟩:=ry
  cases x with
  | non=>cases rx;exact SeqAt.EqAt.str_none a t'
  | bl b=>cases rx;exact SeqAt.EqAt.str_bool a t' b
  | int b=>obtain ⟨t,rfl⟩:=rx;exact SeqAt.EqAt.str_int a t' b t
  | str b=>obtain ⟨t,rfl⟩:=rx;exact SeqAt.EqAt.str_str a t' b t
  | _=>exact absurd (show false=true from fx) Bool.false_ne_true
 | _=>exact absurd (show false=true from fy) Bool.false_ne_true
noncomputable def eqU (x:V) (u:Value):Bool:=match u with
 | .none=>eqV .non x
 | .bool b=>eqV (.bl b) x
 | .int i _=>eqV (.int i) x
 | .str z _=>eqV (.str z) x
 | _=>false
theorem qz {x y:V} {u:Value} (r:RelV y u) (f:fG y=true):eqU x u=eqV y x:=by
 cases y with
 | non=>cases r;rfl
 | bl b=>cases r;rfl
 | int i=>obtain ⟨t,rfl⟩:=r;rfl
 | str z=>obtain ⟨t,rfl⟩:=r;rfl
 | _=>exact absurd (show false=true from f) Bool.false_ne_true
theorem iT {x:V}: ∀ {xs:List V} {us:List Value},Vals xs us->xs.all fG=true->us.any (eqU x)=xs.any fun y=>eqV y x
 | _,_,.nil,_=>rfl
 | y::xs,u::us,.cons r t,f=>by
  rw [List.all_cons,Bool.and_eq_true]at f
  rw [List.any_cons,List.any_cons,qz r f.1,iT t f.2]
theorem gx {A:Around} {s:Shared} {x:V} {v:Value} (rx:RelV x v) (fx:fG x=true): ∀ {xs:List V} {us:List Value},Vals xs us->xs.all fG=true-> ∀ u∈us,SeqAt.EqAt A s u v (eqU x u)
 | _,_,.nil,_=>fun u hu=>by cases hu
 | y::xs,u::us,.cons r t,f=>fun u' hu=>by
  rw [List.all_cons,Bool.and_eq_true]at f
  rcases List.mem_cons.mp hu with rfl | hu
  ·rw [qz r f.1];exact um r rx f.1 fx
  ·exact gx rx fx t f.2 u' hu
noncomputable def inV (x:V) (xs:List V):Bool:=xs.any fun y=>eqV y x
noncomputable def rIn (K:PySem.W.Frag) (neg:Bool):R2:=fun x y H Q=> ∃ p xs,y=.ref p/\(SqL K H p xs\/SqT K H p xs)/\fG x=true/\xs.all fG=true/\Q (.bl (if neg then !inV x xs else inV x xs)) H
theorem nj:OpR X (compareOp .In) (rIn X.K false):=by
 intro pins s Z H x y v u Q I rx ry h
 obtain ⟨p,xs,rfl,hq,fx,fs,q⟩:=h
 cases ry
 rcases hq with hq | hq
 ·obtain ⟨its,r,pl,hz⟩:=I.list hq
  refine SeqAt.in_listAt (eqU x) pl.isList (fun w hw=>gx rx fx r fs w (by simpa using hw)) ⟨.bl _,H,I,rfl,?_⟩
  rw [show its.toArray.any (eqU x)=its.any (eqU x) by simp,iT r fs]
  exact q
 ·obtain ⟨its,r,pl,hz⟩:=I.tuple hq
  refine SeqAt.in_tupleAt (eqU x) pl (fun w hw=>gx rx fx r fs w (by simpa using hw)) ⟨.bl _,H,I,rfl,?_⟩
  rw [show its.toArray.any (eqU x)=its.any (eqU x) by simp,iT r fs]
  exact q
theorem ax:da X (.builtin "len") (fun xs H Q=> ∃ p ys,xs=[.ref p]/\(SqL X.K H p ys\/SqT X.K H p ys)/\Q (.int ys.length) H):=by
 intro pins s Z H xs us Q I r h
 obtain ⟨p,ys,rfl,hq,q⟩:=h
 obtain ⟨u,rfl,rx⟩:=gQ r
 cases rx
 have hn:=dX
 rcases hq with hq | hq
 ·obtain ⟨its,r',pl,hz⟩:=I.list hq
  have hlen:=r'.length
  exact Calls.call_len_list pl.isList (by simp only [List.size_toArray] <;> omega) ⟨.int ys.length,H,I.tok _,⟨s.toks+1,by rw [List.size_toArray,hlen]⟩,q⟩
 ·obtain ⟨its,r',pl,hz⟩:=I.tuple hq
  have hlen:=r'.length
  exact len_tuple pl (by simp only [List.size_toArray] <;> omega) ⟨.int ys.length,H,I.tok _,⟨s.toks+1,by rw [List.size_toArray,hlen]⟩,q⟩
theorem eQ:da X (.builtin "len") (fun xs H Q=> ∃ z,xs=[.str z]/\z.length<=sizeLine/\Q (.int z.length) H):=by
 intro pins s Z H xs us Q I r h
 obtain ⟨z,rfl,hz,q⟩:=h
 obtain ⟨u,rfl,t,rfl⟩:=gQ r
 have hn:=dX
 exact len_str (by omega) ⟨.int z.length,H,I.tok _,⟨_,rfl⟩,q⟩
theorem dP:da X (.type "tuple") (fun xs H Q=> ∃ p ys,xs=[.ref p]/\((SqL X.K H p ys/\ ∀ l,H l=none->Q (.ref l) (upd H l (.tup ys)))\/(SqT X.K H p ys/\Q (.ref p) H))):=by
 intro pins s Z H xs us Q I r h
 obtain ⟨p,ys,rfl,h⟩:=h
 obtain ⟨u,rfl,rx⟩:=gQ r
 cases rx
 rcases h with ⟨hq,q⟩ | ⟨hq,q⟩
 ·obtain ⟨its,r',pl,hz⟩:=I.list hq
  have hlen:=r'.length
  refine call_tuple_list pl.isList (fun h' kp=>?_) (by simp only [List.size_toArray] <;> omega)
  have I1:Inv X pins Z H {s with heap:=h'}:=I.kept (t':=s.toks) kp
  have I2:Inv X pins Z (upd H h'.objs.size (.tup ys)) {s with heap:=h'.push {cls:=.type "tuple",data:=.seq its.toArray}}:=
   I1.laid (t':=s.toks) (fun b o e=>Heap.get?_push_of_some _ e) (Nat.le_refl _) (show ObjOk X.prog X.w _ _ _ (.tup ys)from ⟨hz,its,r',IsTup.new _ _⟩)
  exact ⟨.ref h'.objs.size,_,I2,rfl,q _ (I1.hok.fresh (Nat.le_refl _))⟩
 ·obtain ⟨its,r',pl,hz⟩:=I.tuple hq
  exact call_tuple_same pl ⟨.ref p,H,I,rfl,q⟩
noncomputable def tyV (K:PySem.W.Frag) (T:String) (x:V) (H:Hp):Prop:=match x with
 | .str _=>T="str"
 | .int _=>T="int"
 | .ref p=>(T="list"/\ ∃ xs,SqL K H p xs)\/(T="tuple"/\ ∃ o,K.lookup p=some o/\o.cls=.type "tuple"/\o.dict=none)\/
   (T="dict"/\((∃ kvs,H p=some (.dK kvs))\/ ∃ kvs,H p=some (.dT kvs)))\/(T="set"/\ ∃ S n,H p=some (.set S n))
 | _=>False
theorem jY {pins:List (Addr×Obj)} {Z:St} {H:Hp} {s:Shared} {T:String} {x:V} {v:Value} (I:Inv X pins Z H s) (r:RelV x v) (ty:tyV X.K T x H):
  s.TypeIs v T/\ ∀ a,v=.ref a-> ∃ ob,s.heap.get? a=some ob/\ob.dict=none:=by
 cases x with
 | str z=>
  obtain ⟨t,rfl⟩:=r
  cases (show T="str" from ty)
  exact ⟨typeIs_str s z t,fun _ e=>nomatch e⟩
 | int i=>
  obtain ⟨t,rfl⟩:=r
  cases (show T="int" from ty)
  exact ⟨typeIs_int s i t,fun _ e=>nomatch e⟩
 | ref p=>
  cases r
  rcases ty with ⟨rfl,xs,hq⟩ | ⟨rfl,o,hk,hc,hd⟩ | ⟨rfl,hk⟩ | ⟨rfl,S,n,hk⟩
  ·obtain ⟨its,_,pl,_⟩:=I.list hq
   refine ⟨pl.isList.typeIs,fun a e=>?_⟩
   cases e
   obtain ⟨o,n,e,c,hd,_⟩:=pl
   exact ⟨o,e,hd⟩
  ·refine ⟨⟨o,I.kIn p o hk,hc⟩,fun a e=>?_⟩
   cases e
   exact ⟨o,I.kIn _ o hk,hd⟩
  ·have z: ∃ o,s.heap.get? p=some o/\o.ExactDict:=by
    rcases hk with ⟨kvs,hk⟩ | ⟨kvs,hk⟩
    ·obtain ⟨_,_,_,_,o,_,_,e,ex,_⟩:=I.hok p _ hk
     exact ⟨o,e,ex⟩
    ·obtain ⟨_,_,_,_,o,_,_,e,ex,_⟩:=I.hok p _ hk
     exact ⟨o,e,ex⟩
   obtain ⟨o,e,ex⟩:=z
   refine ⟨⟨o,e,ex.1⟩,fun a e2=>?_⟩
   cases e2
   exact ⟨o,e,ex.2.1⟩
  ·obtain ⟨o,_,_,_,e,ex,_⟩:=I.hok p _ hk
   refine ⟨⟨o,e,ex.1⟩,fun a e2=>?_⟩
   cases e2
   exact ⟨o,e,ex.2.1⟩
 | _=>exact False.elim ty
noncomputable def uR (K:PySem.W.Frag) (T:String) (r:V->List V->Hp->VK->Prop) (to:TE):TE:=fun Z H Q=>to Z H fun x H1=>tyV K T x H1/\r x [] H1 Q
noncomputable def tBM (K:PySem.W.Frag) (T:String) (r:V->List V->Hp->VK->Prop) (to:TE) (t:TA):TE:=fun Z H Q=>to Z H fun x H1=>tyV K T x H1/\t Z H1 fun xs H2=>r x xs H2 Q
variable {o e:Expr} {es:List Expr} {to:TE} {t:TA} {name:Str} {apos cpos:Pos} {T id:String} {r:V->List V->Hp->VK->Prop}
theorem fi (pa:PlainAttrs T) (slot:Slot T name id) (hty:typeOf (.builtin id)=pure (.type "method_descriptor")) (hm:MtR X id r) (ho:PE X o to)
  (hbase:attributeBase o name X.env (eval o X.env)=eval o X.env:=by rfl) (hline:(apos.endLine==cpos.line)=true:=by rfl):PE X (.Call (.Attribute o name apos) [] [] cpos) (uR X.K T r to):=by
 intro pins s Z H Q I h
 refine wpAny_Call_method0_late hbase hline (thn (ho pins s Z H _ I h) fun v s1 ⟨x,H1,I1,r1,ty,q1⟩=>?_)
 obtain ⟨h1,h2⟩:=jY I1 r1 ty
 exact ⟨T,id,pa,slot,hty,h1,h2,Calls.callWith_builtin rfl (PySem.evalArgs_none (hm pins s1 Z H1 x [] v [] Q I1 r1 .nil q1))⟩
theorem dk (pa:PlainAttrs T) (slot:Slot T name id) (hty:typeOf (.builtin id)=pure (.type "method_descriptor")) (hm:MtR X id r) (ho:PE X o to) (ha:PA X (e::es) t)
  (hbase:attributeBase o name X.env (eval o X.env)=eval o X.env:=by rfl)
  (hfew:((backTo cpos (starEach (e::es) X.env)).all (fun x=> !x.1)&&(backToKw cpos (keywordEach [] X.env)).all (fun x=>x.1.isSome)
   &&decide ((e::es).length+ ([]:List Keyword).length+ (if ([]:List Keyword).isEmpty then 0 else 1) <30))=true:=by rfl)
  (hline:(apos.endLine==cpos.line)=true:=by rfl) (hs:starEach (e::es) X.env=(false,eval e X.env)::starEach es X.env:=by rfl) (hplain:(backTo cpos (starEach es X.env)).any (·.1)=false:=by rfl):
  PE X (.Call (.Attribute o name apos) (e::es) [] cpos) (tBM X.K T r to t):=by
 intro pins s Z H Q I h
 refine wpAny_Call_method_late hbase hfew hline rfl (thn (ho pins s Z H _ I h) fun v s1 ⟨x,H1,I1,r1,ty,q1⟩=>?_)
 obtain ⟨h1,h2⟩:=jY I1 r1 ty
 refine ⟨T,id,pa,slot,hty,h1,h2,?_⟩
 have hA:=ha cpos pins s1 Z H1 _ I1 q1
 rw [hs]at hA ⊢
 refine Calls.callWith_builtin (by show (false||(backTo cpos (starEach es X.env)).any (·.1))=false;rw [hplain] <;> rfl) (Calls.evalArgs_plain ?_)
 exact thn hA fun us s2 ⟨vs,H2,I2,r2,q2⟩=>hm pins s2 Z H2 x vs v us Q I2 r1 r2 q2
end
noncomputable def MtM (X:Cx) (id:String) (r:V->List V->Hp->VK->Prop):Prop:=
 ∀ (pins:List (Addr×Obj)) (s:Shared) (Z:St) (H:Hp) (x:V) (xs:List V) (v:Value) (us:List Value) (Q:VK),Inv X pins Z H s->RelV x v->Vals xs us->r x xs H Q->
  wpAny (model X.prog X.w) X.A (call (.builtin id) (v::us)) (EP X pins Z Q) X.xe s
theorem Vals.one: ∀ {x:V} {us:List Value},Vals [x] us-> ∃ u,us=[u]/\RelV x u
 | _,_,.cons r .nil=>⟨_,rfl,r⟩
theorem Vals.zero: ∀ {us:List Value},Vals [] us->us=[]
 | _,.nil=>rfl
theorem Vals.dropLast {xs:List V} {us:List Value} (h:Vals xs us):Vals xs.dropLast us.dropLast:=by
 induction h with
 | nil=>exact .nil
 | cons r t ih=>
  cases t with
  | nil=>exact .nil
  | cons q t'=>exact .cons r ih
theorem lb {α:Type} (l:List α):l.eraseIdx (l.length-1)=l.dropLast:=by
 induction l with
 | nil=>rfl
 | cons a r ih=>
  cases r with
  | nil=>rfl
  | cons b r=>
   have e:(a::b::r).length-1=((b::r).length-1) +1:=by
    have h1:(a::b::r).length=r.length+2:=rfl
    have h2:(b::r).length=r.length+1:=rfl
    omega
   rw [e,List.eraseIdx_cons_succ,ih]
   all_goals rfl
section
variable {X:Cx} {pins:List (Addr×Obj)} {Z:St} {H:Hp} {s:Shared} {l b:Addr} {xs ys zs:List V}
theorem Inv.lset {its its':List Value} {n:Nat} {f:Array Value->Array Value} {t':Nat} (I:Inv X pins Z H s) (hH:H l=some (.lst xs))
  (e:s.heap.get? l=some {cls:=.type "list",data:=.seq its.toArray n}) (hf:f its.toArray=its'.toArray) (hv:Vals ys its') (hz:ys.length<=sizeLine):
  Inv X pins Z (upd H l (.lst ys)) {s with heap:=s.heap.update l (Obj.mapSeq f),toks:=t'}:=by
 have q:=PySem.IsL.update e f
 rw [hf]at q
 refine I.write (x:=l) (e:=l) (by rw [hH];exact trivial) (.inl rfl) (fun b' u hb hu=>(Heap.get?_update_other s.heap (Obj.mapSeq f) (Ne.symm hb)).trans hu) ⟨_,q⟩ ?_
 exact ⟨hz,its',_,hv,q⟩
theorem Inv.lnew {its:List Value} {t':Nat} (I:Inv X pins Z H s) (hv:Vals ys its) (hz:ys.length<=sizeLine):
  Inv X pins Z (upd H s.heap.objs.size (.lst ys)) {s with heap:=s.heap.push {cls:=.type "list",data:=.seq its.toArray},toks:=t'}:=
 I.laid (fun _ _ q=>Heap.get?_push_of_some _ q) (Nat.le_refl _) ⟨hz,its,0,hv,Heap.get?_push_size _ rfl⟩
theorem Inv.fresh (I:Inv X pins Z H s):H s.heap.objs.size=none:=I.hok.fresh (Nat.le_refl _)
theorem Inv.lstM (I:Inv X pins Z H s) (hH:H l=some (.lst xs)):xs.length<=sizeLine/\ ∃ (its:List Value) (n:Nat),Vals xs its/\xs.length=its.length/\s.heap.get? l=some {cls:=.type "list",data:=.seq its.toArray n}:=by
 obtain ⟨z,its,n,r,e⟩:=I.hok l _ hH
 exact ⟨z,its,n,r,r.length,e⟩
theorem qa {n:Nat} (h:n<=sizeLine):Builtin.List.listTooLong n=false:=by
 unfold Builtin.List.listTooLong
 exact decide_eq_false (by omega)
end
section
variable {X:Cx}
noncomputable def q9:V->List V->Hp->VK->Prop:=fun x vs H Q=> ∃ l xs y,x=.ref l/\vs=[y]/\H l=some (.lst xs)/\xs.length<sizeLine/\Q .non (upd H l (.lst (xs++[y])))
theorem bw:MtM X "list.append" q9:=by
 intro pins s Z H x vs v us Q I rx rv h
 obtain ⟨l,xs,y,rfl,rfl,hH,hz,q⟩:=h
 cases rx
 obtain ⟨u,rfl,ru⟩:=rv.one
 obtain ⟨z,its,n,r,hl,e⟩:=I.lstM hH
 refine call_meets F.slot_list_append ⟨_,e,rfl⟩ F.entry_list_append (F.args_list_append_2 _ _) (PySem.list_append l its.toArray n u (by rw [List.size_toArray];omega)) ⟨e,?_⟩
 refine ⟨.non,_,I.lset (its':=its++[u]) hH e (by simp) (r.append (.cons ru .nil)) ?_,rfl,q⟩
 rw [List.length_append,List.length_singleton]
 omega
noncomputable def uV:V->List V->Hp->VK->Prop:=fun x vs H Q=> ∃ l xs y,x=.ref l/\vs=[]/\H l=some (.lst xs)/\xs[xs.length-1]? =some y/\Q y (upd H l (.lst xs.dropLast))
theorem fj:MtM X "list.pop" uV:=by
 intro pins s Z H x vs v us Q I rx rv h
 obtain ⟨l,xs,y,rfl,rfl,hH,hy,q⟩:=h
 cases rx
 have hus:=rv.zero
 subst hus
 obtain ⟨z,its,n,r,hl,e⟩:=I.lstM hH
 obtain ⟨u,hu,ru⟩:=r.get hy
 have hy':its.toArray[its.toArray.size-1]? =some u:=by
  show its.toArray[its.length-1]? =some u
  rw [<- Array.getElem?_toList,<- hl]
  exact hu
 refine call_meets F.slot_list_pop ⟨_,e,rfl⟩ F.entry_list_pop (F.args_list_pop_1 _) (MeetsSeq.list_pop_last l its.toArray n u hy' (by rw [List.size_toArray];omega)) ⟨e,?_⟩
 refine ⟨y,_,I.lset (its':=its.dropLast) hH e ?_ r.dropLast ?_,ru,q⟩
 ·show its.toArray.eraseIdxIfInBounds (its.toArray.size-1)=its.dropLast.toArray
  rw [List.size_toArray,List.eraseIdxIfInBounds_toArray,lb]
 ·rw [List.length_dropLast]
  omega
noncomputable def vL:R2:=fun x y H Q=> ∃ l b xs zs,x=.ref l/\y=.ref b/\H l=some (.lst xs)/\H b=some (.lst zs)/\xs.length+zs.length<=sizeLine/\ ∀ p,H p=none->Q (.ref p) (upd H p (.lst (xs++zs)))
theorem gq:OpR X (binaryOp .Add) vL:=by
 intro pins s Z H x y v u Q I rx ry h
 obtain ⟨l,b,xs,zs,rfl,rfl,hH,hB,hz,q⟩:=h
 cases rx
 cases ry
 obtain ⟨z,its,n,r,hl,e⟩:=I.lstM hH
 obtain ⟨z2,its2,n2,r2,hl2,e2⟩:=I.lstM hB
 refine PySem.P.add_list e e2 ?_ (by rw [List.size_toArray,List.size_toArray];omega)
 have ea:its.toArray++its2.toArray=(its++its2).toArray:=by simp
 rw [ea]
 exact ⟨.ref _,_,I.lnew (t':=s.toks) (r.append r2) (by rw [List.length_append];omega),rfl,q _ I.fresh⟩
end
section
variable {κ:Type} [DecidableEq κ]
noncomputable def db (kvs:List (κ×V)) (k:κ):Option V:=(kvs.find? fun kv=>decide (kv.1=k)).map (·.2)
noncomputable def jk (kvs:List (κ×V)) (k:κ) (v:V):List (κ×V):=
 if (kvs.any fun kv=>decide (kv.1=k))=true then kvs.map (fun kv=>if kv.1=k then (kv.1,v)else kv)else kvs++[(k,v)]
theorem oy {k:κ}:db ([]:List (κ×V)) k=none:=rfl
theorem fS {p:κ×V} {r:List (κ×V)} {k:κ} (e:p.1=k):db (p::r) k=some p.2:=by simp [db,List.find?_cons,e]
theorem bQ {p:κ×V} {r:List (κ×V)} {k:κ} (e: ¬ p.1=k):db (p::r) k=db r k:=by simp [db,List.find?_cons,e]
theorem jC (kvs:List (κ×V)) (k:κ) (v:V):(jk kvs k v).length<=kvs.length+1:=by
 unfold jk
 split
 ·rw [List.length_map];omega
 ·rw [List.length_append,List.length_cons,List.length_nil];omega
theorem RelO.isSome_eq {o:Option V} {u:Option Value} (r:RelO o u):o.isSome=u.isSome:=by
 cases o with
 | none=>cases u with
  | none=>rfl
  | some _=>exact (show False from r).elim
 | some _=>cases u with
  | none=>exact (show False from r).elim
  | some _=>rfl
theorem KV.val {kvs:List (κ×V)} {vs:List (κ×Value)} (r:KV kvs vs) (k:κ):RelO (db kvs k) (valueAt vs k):=by
 unfold KV at r
 induction r with
 | nil=>exact True.intro
 | @cons p q ps qs h t ih=>
  obtain ⟨h1,h2⟩:=h
  by_cases e:p.1=k
  ·have e':q.1=k:=h1.symm.trans e
   have b:valueAt (q::qs) k=some q.2:=by simp [valueAt,List.find?_cons,e']
   rw [fS e,b];exact h2
  ·have e': ¬ q.1=k:=fun z=>e (h1.trans z)
   have b:valueAt (q::qs) k=valueAt qs k:=by simp [valueAt,List.find?_cons,e']
   rw [bQ e,b];exact ih
theorem KV.any {kvs:List (κ×V)} {vs:List (κ×Value)} (r:KV kvs vs) (k:κ):(kvs.any fun kv=>decide (kv.1=k))=vs.any fun kv=>decide (kv.1=k):=by
 unfold KV at r
 induction r with
 | nil=>rfl
 | cons h t ih=>rw [List.any_cons,List.any_cons,ih,h.1]
theorem KV.repl {kvs:List (κ×V)} {vs:List (κ×Value)} (r:KV kvs vs) (k:κ) {y:V} {u:Value} (ry:RelV y u):
  KV (kvs.map fun kv=>if kv.1=k then (kv.1,y)else kv) (vs.map fun kv=>if kv.1=k then (kv.1,u)else kv):=by
 unfold KV at r ⊢
 induction r with
 | nil=>exact .nil
 | @cons p q ps qs h t ih=>
  rw [List.map_cons,List.map_cons]
  refine .cons ?_ ih
  obtain ⟨h1,h2⟩:=h
  by_cases e:p.1=k
  ·rw [if_pos e,if_pos (h1.symm.trans e)];exact ⟨h1,ry⟩
  ·rw [if_neg e,if_neg (fun z=>e (h1.trans z))];exact ⟨h1,h2⟩
theorem KV.put {kvs:List (κ×V)} {vs:List (κ×Value)} (r:KV kvs vs) (k:κ) {y:V} {u:Value} (ry:RelV y u):KV (jk kvs k y) (stored vs k u):=by
 unfold jk stored
 rw [r.any k]
 by_cases e:(vs.any fun kv=>decide (kv.1=k))=true
 ·rw [if_pos e,if_pos e];exact r.repl k ry
 ·rw [if_neg e,if_neg e];exact Paired.snoc r ⟨rfl,ry⟩
end
theorem jF {P:Program} {w:World} {k:Key} {u:Value} (r:RelV (kV k) u):(bf P w).is k u=true:=by
 cases k with
 | inl i=>obtain ⟨t,e⟩:=(show ∃ t,u=Value.int i t from r);subst e;exact jA P w i t
 | inr x=>obtain ⟨t,e⟩:=(show ∃ t,u=Value.str x t from r);subst e;exact jz P w x t
theorem ia {P:Program} {w:World}: ∀ {ks:List Key} {us:List Value},Vals (ks.map kV) us->ItemsAre (bf P w) ks us
 | [],_,r=>by rw [List.map_nil]at r;cases r;exact .nil
 | k::ks,_,r=>by
  rw [List.map_cons]at r
  cases r with
  | cons h t=>exact .cons (jF h) (ia t)
noncomputable abbrev KT (H:Hp):List (List Key×V)->List (List Key×Addr×Value)->Prop:=Paired fun p q=>p.1=q.1/\H q.2.1=some (.tup (p.1.map kV))/\RelV p.2 q.2.2
theorem KT.val {H:Hp} {kvs:List (List Key×V)} {xs:List (List Key×Addr×Value)} (r:KT H kvs xs) (k:List Key):RelO (db kvs k) ((atKey xs k).map (·.2)):=by
 induction r with
 | nil=>exact True.intro
 | @cons p q ps qs h t ih=>
  obtain ⟨h1,_,h2⟩:=h
  by_cases e:p.1=k
  ·have e':q.1=k:=h1.symm.trans e
   have b:atKey (q::qs) k=some q.2:=by simp [atKey,List.find?_cons,e']
   rw [fS e,b];exact h2
  ·have e': ¬ q.1=k:=fun z=>e (h1.trans z)
   have b:atKey (q::qs) k=atKey qs k:=by simp [atKey,List.find?_cons,e']
   rw [bQ e,b];exact ih
section
variable {P:Program} {w:World} {H:Hp} {h:Heap} {a:Addr}
theorem sB {u:HO} (ok:HOk P w H h) (e:Rd H a u):ObjOk P w H h a u:=e.ok ok
theorem qB {kvs:List (Key×V)} (ok:HOk P w H h) (e:Rd H a (.dK kvs)):kvs.length<=sizeLine/\(a==sysModules)=false/\ ∃ vs,KV kvs vs/\h.DictOf (bf P w) a vs:=
 show ObjOk P w H h a (.dK kvs)from sB ok e
theorem vp {kvs:List (Key×V)} (ok:HOk P w H h) (e:H a=some (.dK kvs)):kvs.length<=sizeLine/\(a==sysModules)=false/\ ∃ vs,KV kvs vs/\h.DictOf (bf P w) a vs:=qB ok (.inl e)
theorem qi {ks:List Key} (ok:HOk P w H h) (e:H a=some (.tup (ks.map kV))):(tupleKind (bf P w)).is h ks a:=by
 obtain ⟨_,its,r,o,h1,h2,n,h3⟩:=(show ObjOk P w H h a (.tup (ks.map kV))from ok a _ e)
 exact ⟨o,its.toArray,n,h1,h2,h3,by simpa using ia r⟩
theorem sH {kvs:List (List Key×V)} (ok:HOk P w H h) (e:Rd H a (.dT kvs)):kvs.length<=sizeLine/\(a==sysModules)=false/\
  ∃ xs,KT H kvs xs/\h.DictOfH (tupleKind (bf P w)) a xs:=by
 obtain ⟨z,y,xs,r,o,es,ep,h1,h2,h3,h4,h5⟩:=(show ObjOk P w H h a (.dT kvs)from sB ok e)
 refine ⟨z,y,xs,r,o,es,ep,h1,h2,h3,h4,fun x hx=>?_,h5⟩
 have all: ∀ {l:List (List Key×V)} {m:List (List Key×Addr×Value)},KT H l m-> ∀ x∈m,(tupleKind (bf P w)).is h x.1 x.2.1:=by
  intro l m q
  induction q with
  | nil=>intro x hx;exact nomatch hx
  | @cons p q ps qs hq t ih=>
   intro x hx
   rcases List.mem_cons.mp hx with e | hx
   ·subst e
    exact qi ok (by rw [<- hq.1];exact hq.2.1)
   ·exact ih x hx
 exact all r x hx
end
noncomputable def DGet (H:Hp) (a:Addr) (y:V) (r:Option V):Prop:=
 (∃ kvs k,Rd H a (.dK kvs)/\y=kV k/\r=db kvs k)\/ ∃ kvs k b,Rd H a (.dT kvs)/\y=.ref b/\H b=some (.tup (k.map kV))/\r=db kvs k
theorem DGet.k {H:Hp} {a:Addr} {kvs:List (Key×V)} {k:Key} (e:H a=some (.dK kvs)):DGet H a (kV k) (db kvs k):=.inl ⟨kvs,k,.inl e,rfl,rfl⟩
section
variable {X:Cx} {pins:List (Addr×Obj)} {Z:St} {H:Hp} {s:Shared} {a:Addr} {y v:V} {u r:Value} {o:Option V} {A:Around} {E:Value->Shared->Prop}
theorem Inv.big (I:Inv X pins Z H s):sysModules<s.heap.objs.size:=by
 have h:mainGlobals<s.heap.objs.size:=(I.mod.glob.keeps I.bk).lt
 exact Nat.lt_trans (by decide) h
theorem nV {Q:Value->Shared->Prop} (hu:A.units+1<cLine) (I:Inv X pins Z H s) (g:DGet H a y (some v)) (ry:RelV y u) (h: ∀ w' s',Inv X pins Z H s'->RelV v w'->Q w' s'):
  wpAny (model X.prog X.w) A (getItem (.ref a) u) Q E s:=by
 rcases g with ⟨kvs,k,e,ey,l⟩ | ⟨kvs,k,b,e,ey,eb,l⟩
 ·subst ey
  obtain ⟨z,hd,vs,rel,dd⟩:=qB I.hok e
  obtain ⟨w',hw,rw'⟩:=RelO.some_of (v:=v) (o:=valueAt vs k) (by rw [l];exact rel.val k)
  exact wpAny_getItem_of (jF ry) dd.mapOf hw (h w' _ (I.tok _) rw')
 ·subst ey
  cases (show u=Value.ref b from ry)
  obtain ⟨z,hd,xs,rel,dd⟩:=sH I.hok e
  obtain ⟨w',hw,rw'⟩:=RelO.some_of (v:=v) (o:=(atKey xs k).map (·.2)) (by rw [l];exact rel.val k)
  obtain ⟨p,hp,hp2⟩:=Option.map_eq_some_iff.mp hw
  refine wpAny_getItem_heap (tupleKind_room_in1 hu) (qi I.hok eb) dd hp ?_
  rw [hp2]
  exact h w' _ (I.tok _) rw'
theorem ss {h':Heap} {t':Nat} {ob:HO} (I:Inv X pins Z H s) (mu:Mut (H a)) (hs:Heap.SameBut a s.heap h') (he: ∃ q,h'.get? a=some q) (new:ObjOk X.prog X.w (upd H a ob) h' a ob):
  Inv X pins Z (upd H a ob) {s with heap:=h',toks:=t'}:=
 I.write (x:=a) (e:=a) mu (.inl rfl) (fun b q hb z=>(hs.2 b hb).trans z) he new
theorem uq {P:Program} {w:World} {H':Hp} {h':Heap} {kvs:List (Key×V)} {vs:List (Key×Value)} (z:kvs.length<=sizeLine) (hd:(a==sysModules)=false) (rel:KV kvs vs) (dd:h'.DictOf (bf P w) a vs):
  ObjOk P w H' h' a (.dK kvs):=⟨z,hd,vs,rel,dd⟩
end
noncomputable def uB (i:Expr):Prop:= ∀ ov iv,subscripted i false ov iv=operate [ov,iv] (getItem ov iv)
theorem ly {prog:Program} {w:World} {A:Around} {E:Value->Shared->Prop} {s:Shared} {env:Env} {value slice:Expr} {pos:Pos} {T id:String} {Q:Value->Shared->Prop}
  (hl:typeLookup (.type T) "__getitem__"=pure (some (.builtin id))) (hs:uB slice)
  (h:wpAny (model prog w) A (eval value env) (fun o s₁=>wpAny (model prog w) A (eval slice env) (fun i s₂=>s₂.TypeIs o T/\wpAny (model prog w) A (getItem o i) Q E s₂) E s₁) E s):
  wpAny (model prog w) A (eval (.Subscript value slice pos) env) Q E s:=by
 refine Subscript_ (wpAny_mono h (fun o s₁ h₁=>wpAny_mono h₁ (fun i s₂ h₂=>?_) fun _ _ x=>x) fun _ _ x=>x)
 obtain ⟨hT,h₂⟩:=h₂
 unfold subscriptTail
 refine wpAny_bind ?_
 rw [getitemInPython_of_ne hT.not_modules]
 refine wpAny_bind (wpAny_specialOf hT hl ?_)
 have fin:wpAny (model prog w) A (subscripted slice false o i) (fun r s₃=>wpAny (model prog w) A (letTemporaryGo value o r >>= fun _=>pure r) Q E s₃) E s₂:=by
  rw [hs o i]
  exact wpAny_operating (wpAny_mono h₂ (fun r s₃ h₃=>wpAny_bind (wpAny_letTemporaryGo (wpAny_pure h₃))) fun _ _ x=>x)
 first
  | exact wpAny_pure (wpAny_bind fin)
  | exact wpAny_bind (wpAny_pure (wpAny_bind fin))
  | exact wpAny_bind fin
theorem jO {X:Cx} {pins:List (Addr×Obj)} {Z:St} {H:Hp} {s:Shared} {a:Addr} {y:V} {o:Option V} (I:Inv X pins Z H s) (g:DGet H a y o):s.TypeIs (.ref a) "dict":=by
 rcases g with ⟨kvs,k,e,_,_⟩ | ⟨kvs,k,b,e,_,_,_⟩
 ·obtain ⟨_,_,vs,_,dd⟩:=qB I.hok e
  exact dd.typeIs
 ·obtain ⟨_,_,xs,_,dd⟩:=sH I.hok e
  exact dd.typeIs
noncomputable def uQ (td ty:TE):TE:=fun Z H Q=>td Z H fun x H1=>ty Z H1 fun y H2=> ∃ a v,x=.ref a/\DGet H2 a y (some v)/\Q v H2
section
variable {X:Cx} {o i e value:Expr} {pos pos' tpos:Pos} {td ty tv:TE}
theorem rG (hu:X.A.units+1<cLine) (ho:PE X o td) (hi:PE X i ty) (hs:uB i):PE X (.Subscript o i pos) (uQ td ty):=by
 intro pins s Z H Q I h
 refine ly PySem.F.slot_dict_getitem.lookup hs (thn (ho pins s Z H _ I h) fun u s1 ⟨x,H1,I1,rx,q1⟩=>thn (hi pins s1 Z H1 _ I1 q1) fun iv s2 ⟨y,H2,I2,ry,a,v,ex,g,q2⟩=>?_)
 subst ex
 obtain rfl:u=Value.ref a:=rx
 exact ⟨jO I2 g,nV hu I2 g ry fun w' s3 I3 rw'=>⟨v,H2,I3,rw',q2⟩⟩
end
theorem qC {P:Program} {w:World} {H:Hp} (h:Heap) (hb:sysModules<h.objs.size):ObjOk P w H (h.push {cls:=.type "dict",data:=.dict #[]}) h.objs.size (.dK []):=
 ⟨Nat.zero_le _,beq_eq_false_iff_ne.mpr (Ne.symm (Nat.ne_of_lt hb)),[],.nil,Heap.DictOf.new h⟩
noncomputable def iq:List (TE×TE)->St->Hp->(List (V×V)->Hp->Prop)->Prop
 | [],_,H,Q=>Q [] H
 | (tk,tv)::r,Z,H,Q=>tk Z H fun x H1=>tv Z H1 fun y H2=>iq r Z H2 fun ps H3=>Q ((x,y)::ps) H3
noncomputable abbrev VV:List (V×V)->List (Value×Value)->Prop:=Paired fun p q=>RelV p.1 q.1/\RelV p.2 q.2
noncomputable def PPs (X:Cx) (pos:Pos) (keys:List (Option Expr)) (values:List Expr) (trs:List (TE×TE)):Prop:=
 ∀ (pins:List (Addr×Obj)) (s:Shared) (Z:St) (H:Hp) (Q:List (V×V)->Hp->Prop),Inv X pins Z H s->iq trs Z H Q->
  wpAny (model X.prog X.w) X.A (evalPairs (pairTrees keys values X.env pos)) (fun vs s'=> ∃ ps H',Inv X pins Z H' s'/\VV ps vs/\Q ps H') X.xe s
theorem rm {X:Cx} {pos:Pos}:PPs X pos [] [] []:=fun pins s Z H Q I h=>pairTrees_nil_walk ⟨[],H,I,.nil,h⟩
theorem pj {X:Cx} {pos:Pos} {k v:Expr} {ks:List (Option Expr)} {vs:List Expr} {tk tv:TE} {trs:List (TE×TE)} (hk:PE X k tk) (hv:PE X v tv) (hr:PPs X pos ks vs trs):
  PPs X pos (some k::ks) (v::vs) ((tk,tv)::trs):=fun pins s Z H Q I h=>
 pairTrees_cons_walk (thn (hk pins s Z H _ I h) fun u s1 ⟨x,H1,I1,rx,q1⟩=>thn (hv pins s1 Z H1 _ I1 q1) fun w2 s2 ⟨y,H2,I2,ry,q2⟩=>
  thn (hr pins s2 Z H2 _ I2 q2) fun ws s3 ⟨ps,H3,I3,rel,q3⟩=>⟨(x,y)::ps,H3,I3,.cons ⟨rx,ry⟩ rel,q3⟩)
noncomputable def cH (kvs more:List (Key×V)):List (Key×V):=more.foldl (fun acc kv=>jk acc kv.1 kv.2) kvs
theorem KV.merge: ∀ {more:List (Key×V)} {rs:List (Key×Value)} {kvs:List (Key×V)} {vs:List (Key×Value)},KV more rs->KV kvs vs->KV (cH kvs more) (merged vs rs):=by
 intro more rs kvs vs r
 unfold KV at r
 induction r generalizing kvs vs with
 | nil=>intro q;exact q
 | @cons p q ps qs h t ih=>
  intro r0
  have e:KV (jk kvs p.1 p.2) (stored vs q.1 q.2):=by
   have:=r0.put p.1 h.2
   rw [<- h.1];exact this
  exact ih e
theorem dN: ∀ (more kvs:List (Key×V)),(cH kvs more).length<=kvs.length+more.length
 | [],kvs=>by show kvs.length<=kvs.length+0;omega
 | p::r,kvs=>by
  have h1:=dN r (jk kvs p.1 p.2)
  have h2:=jC kvs p.1 p.2
  show (cH (jk kvs p.1 p.2) r).length<=_
  rw [List.length_cons];omega
theorem gH {P:Program} {w:World}: ∀ {kvs:List (Key×V)} {ws:List (Value×Value)},VV (kvs.map fun kv=>(kV kv.1,kv.2)) ws-> ∃ rs,Carries (bf P w) ws rs/\KV kvs rs
 | [],_,r=>by rw [List.map_nil]at r;cases r;exact ⟨[],True.intro,.nil⟩
 | p::kvs,_,r=>by
  rw [List.map_cons]at r
  cases r with
  | @cons a b as bs h t=>
   obtain ⟨rs,c,q⟩:=gH (P:=P) (w:=w) t
   obtain ⟨b1,b2⟩:=b
   exact ⟨(p.1,b2)::rs,⟨jF h.1,rfl,c⟩,.cons ⟨rfl,h.2⟩ q⟩
noncomputable def uO (trs:List (TE×TE)):TE:=fun Z H Q=> ∀ p,H p=none->iq trs Z (upd H p (.dK [])) fun ps H2=>H2 p=some (.dK [])/\ ∃ kvs:List (Key×V),ps=kvs.map (fun kv=>(kV kv.1,kv.2))/\kvs.length<=15/\Q (.ref p) (upd H2 p (.dK (cH [] kvs)))
theorem rF {X:Cx} {pos:Pos} {keys:List (Option Expr)} {values:List Expr} {trs:List (TE×TE)} (h:PPs X pos keys values trs) (hall:keys.all (·.isSome)=true) (hl:keys.length=values.length) (h0:keys≠[])
  (h15:keys.length<=15):PE X (.Dict keys values pos) (uO trs):=by
 intro pins s Z H Q I q
 have hn:=I.hok.fresh (Nat.le_refl s.heap.objs.size)
 have I1:=I.laid (a:=s.heap.objs.size) (o:=.dK []) (h':=s.heap.push {cls:=.type "dict",data:=.dict #[]}) (t':=s.toks) (fun _ _ q=>Heap.get?_push_of_some _ q) (Nat.le_refl _) (qC s.heap I.big)
 refine wpAny_Dict_walk (knd:=bf X.prog X.w) hall hl h0 h15 (thn (h pins _ Z _ _ I1 (q _ hn)) fun ws s2 ⟨ps,H2,I2,rel,e,kvs,ep,lk,q2⟩=>?_)
 subst ep
 obtain ⟨rs,c,rk⟩:=gH (P:=X.prog) (w:=X.w) rel
 obtain ⟨z,hd,vs0,r0,dd⟩:=vp I2.hok e
 cases r0
 refine ⟨rs,c,dd,fun h' dd' hs=>⟨.ref s.heap.objs.size,_,?_,rfl,q2⟩⟩
 have hz:(cH [] kvs).length<=sizeLine:=by
  have h1:=dN kvs []
  rw [List.length_nil]at h1
  rw [sizeLine_eq];omega
 have he: ∃ q,h'.get? s.heap.objs.size=some q:=let ⟨q,_,_,hq,_⟩:=dd';⟨q,hq⟩
 exact ss I2 (by rw [e];exact True.intro) hs he (uq hz hd (rk.merge .nil) dd')
end L2
namespace Att
open PySem PySem.W PySem.Calls PyProof.Rows
theorem fK {P:Params} {h:Heap}: ∀ (ns:List Int) (vs:List Value),WellAll P h vs (ns.map WData.int)->IntsAre vs ns:=by
 intro ns
 induction ns with
 | nil=>
  intro vs w
  rw [List.map_nil]at w
  cases w
  exact .nil
 | cons n ns ih=>
  intro vs w
  rw [List.map_cons]at w
  cases w with
  | cons a b=>
   cases a
   exact .cons _ _ (ih _ b)
theorem mE {l:OpenLaw} {n:Nat} (hn:l.most=some n) {P:Params} {h:Heap} {args:List WData} {vals:List Value}
  (hpre:l.row.toRowW.claim.pre args=true) (hwl:WellAll P h vals args):
  ∃ a vs ns,vals=[Value.ref a]/\args=[WData.list (ns.map WData.int)]/\h.get? a=some {cls:=.type "list",data:=.seq vs.toArray}/\IntsAre vs ns/\ns.length<=n:=by
 have hsh:WShape.hasAll [] args [.list .int]=true:=(pre_splitW hpre).1
 have hc:l.pre.holds [] {args:=args}=true:=(pre_splitW hpre).2
 obtain ⟨d,r,rfl,h1,h2⟩:=hasAllW_cons hsh
 obtain rfl:=hasAllW_nil h2
 obtain ⟨xs,rfl,h3⟩:=hasW_list h1
 obtain ⟨ns,rfl⟩:=items_int h3
 have hlen:ns.length<=n:=by
  unfold OpenLaw.pre at hc
  have h4:(WTm.not (.lt (.lit (.int (n:Int))) (.len (.arg 0)))).holds [] {args:=[.list (ns.map .int)]}=true:=by
   have h4:=(holds_andW hc).1
   rw [hn]at h4
   exact h4
  have h5:=condW_of h4 (w_not (w_lt w_lit (w_len_list (w_arg rfl))))
  rw [List.length_map]at h5
  refine Nat.le_of_not_lt fun q=>?_
  have q':(n:Int) < ((ns.length:Nat):Int):=by omega
  first
   | (rw [decide_eq_true q']at h5;exact absurd h5 (by decide))
   | (simp at h5;omega)
 cases hwl with
 | cons w1 w2=>
  cases w2
  cases w1 with
  | list ho hall=>exact ⟨_,_,ns,rfl,rfl,ho,fK ns _ hall,hlen⟩
theorem na (l:OpenLaw) (args:List WData):l.row.toRowW.claim.post args (.bool true) args=true:=
 postW_of (r:=l.row.toRowW) (X:=(true==true))
  (show WShape.has [] (.bool true) .bool=true by first | rfl | decide | simp [WShape.has,WShape.arms,WShape.armsAll])
  (show (WTm.eq .res (.lit (.bool true))).value [] {args:=args,res:=some (.bool true),after:=args}=some (.bool (true==true))from w_eq_bool (w_res rfl) w_lit) rfl
theorem attach_call {l:OpenLaw} {n:Nat} {q:Program} {loose:List Str} {XP:(Str->Option Value)->Heap->Prop} {YP:World->Heap->Prop} {d:DefRec}
  (hn:l.most=some n) (hdf:d.params.defaults=[])
  (call: ∀ (w:World) (s₀ s₁:Shared) (mg mb:Str->Option Value) (fa:Addr) (o:Obj) (pm cd doc:Value) (a:Addr) (vs:List Value) (ns:List Int),
   Ground q loose [] XP w s₀ mg mb s₁.heap->YP w s₁.heap->
   s₁.heap.get? fa=some o->o.data=.func (docDef d.name d.params d.body d.scope pm cd doc)->s₁.heap.CodeRec cd d.name->mg d.name=some (.ref fa)->
   s₁.heap.get? a=some {cls:=.type "list",data:=.seq vs.toArray}->IntsAre vs ns->ns.length<=n->s₁.gens= #[]->
   codeAny (model l.prog w) callerA (.call (.ref fa) ⟨[.ref a],[]⟩) (fun r s'=>r=.ok (.ret (.bool true))/\OldK s₁.heap s'.heap/\s'.os=s₁.os/\AllBare s'.gens) s₁):
  WalkO q loose XP YP l.row.toRowW d [] (fun f vs=>PySem.call f vs):=by
 intro w s₀ s₁ mg mb G Y fa o pm cd doc dV kV ho hd hcd hD hmg hg args vals as hpre hlay hrd hwl hlo
 obtain rfl:dV=.none:=Dflts.none hD hdf
 obtain rfl:kV=.none:=Dflts.noKw hD
 obtain ⟨a,vs,ns,rfl,rfl,hobj,hints,hlen⟩:=mE hn hpre hwl
 refine enter_call (codeAny_mono (call w s₀ s₁ mg mb fa o pm cd doc a vs ns G Y ho (fd_plain hd) hcd hmg hobj hints hlen hg) fun r s' hq=>?_)
 obtain ⟨rfl,h2,h3,h4⟩:=hq
 exact ⟨.inl ⟨.bool true,.bool true,[],rfl,fun _=>rfl,.bool true,na l _,fun _=>⟨List.Pairwise.nil,fun _ hm=>(nomatch hm)⟩⟩,h2,h3,h4⟩
end Att
namespace L2
open PySem PySem.Spec PyProof.Rows
theorem gP: ∀ {vs:List Value} {ns:List Int},IntsAre vs ns->Vals (ns.map V.int) vs
 | _,_,.nil=>.nil
 | _,_,.cons n t h=>.cons ⟨t,rfl⟩ (gP h)
noncomputable def eO (s:Stmt):Arguments:=match s with
 | .FunctionDef _ a _ _ _ _ _ _ _ _=>a
 | _=>{posonlyargs:=[],args:=[],vararg:=none,kwonlyargs:=[],kw_defaults:=[],kwarg:=none,defaults:=[]}
noncomputable def bd (s:Stmt):List Stmt:=match s with
 | .FunctionDef _ _ b _ _ _ _ _ _ _=>b
 | _=>[]
noncomputable def ag (s:Stmt):Scope:=match s with
 | .FunctionDef _ _ _ _ _ _ sc _ _ _=>sc
 | _=>{kind:=.function,names:=[],isGenerator:=false,isCoroutine:=false}
noncomputable abbrev CX0:CXT:=fun _ _ _ _ _ _=>False
noncomputable abbrev E0:XK:=fun _ _ _=>False
theorem aL {X:Cx}:dC CX0 X E0:=fun _ _ _ _ _ _ _ h=>h.elim
structure Fun (K:PySem.W.Frag) (x qual:Str) (st:Stmt) (f:Addr) (fd:FuncData):Prop where
 ex: ∃ (oc:Value) (od:Option Addr) (kV doc pm:Value) (an:Option Addr) (cdv ct:Value) (osl:Array (Option Value)),
  fd=PySem.W.fnOf x qual (eO st) (bd st) (ag st) .none kV doc pm an cdv ct/\K.lookup f=some ⟨oc,od,.func fd,osl⟩/\PySem.W.codeIn K cdv qual=true
 kp:PySem.W.keepIn K (.ref f)=true
section
variable {P:Program} {w:World} {K:PySem.W.Frag} {mg:Str->Option Value} {base:Heap}
theorem Fun.ok {x qual:Str} {st:Stmt} {f:Addr} {fd:FuncData} {N ps:List Str} {k:Nat} {sp:Sp} (F:Fun K x qual st f fd) (S:au N ps (ag st)) (len: ∀ vs H Q E,sp vs H Q E->vs.length=ps.length)
  (hbody: ∀ (cdv:Value) (A:Around) (outer:List Env) (s:Shared) (H:Hp) (vs:List V) (Q:VK) (E:XK),Room k (A.deeper (envOfC qual (ag st) s.heap.objs.size f cdv))->sp vs H Q E->
   ∃ t,PSs (cz CX0 P w K mg base N qual (ag st) f cdv A outer s H E).nox (bd st) t/\t {nx:=fun _ H'=>Q .non H',rt:=Q} (cq N vs) H):FnOk P w K mg base CX0 (k+1) f fd ps sp:=by
 obtain ⟨oc,od,kV,doc,pm,an,cdv,ct,osl,rfl,lk,hcd⟩:=F.ex
 refine qw lk hcd S len fun A outer s H vs Q E hr hsp=>?_
 obtain ⟨t,h,q⟩:=hbody cdv A outer s H vs Q E hr hsp
 exact ⟨t,h.nox,q⟩
theorem Fun.binds {x qual:Str} {st:Stmt} {f:Addr} {fd:FuncData} {ps:List Str} (F:Fun K x qual st f fd)
  (h: ∀ (kV doc pm:Value) (an:Option Addr) (cdv ct:Value) (us:List Value),us.length=ps.length->bindArgs (PySem.W.fnOf x qual (eO st) (bd st) (ag st) .none kV doc pm an cdv ct) ⟨us,[]⟩=pure (ps.zip us)):Binds K fd ps []:=by
 obtain ⟨oc,od,kV,doc,pm,an,cdv,ct,osl,rfl,lk,hcd⟩:=F.ex
 exact .all (h kV doc pm an cdv ct)
end
theorem sF {A:Around} {k:Nat} (hr:Room k A):A.units+1<cLine:=Nat.lt_of_le_of_lt (Nat.add_le_add_left (by decide:1<=64) _) hr.units
theorem aG {n:Nat} (h:n<=1000):n<sizeLine:=Nat.lt_of_le_of_lt h (by decide)
section
variable {X:Cx}
theorem pv (i:Nat) {x:Str} {pos:Pos} (hN:X.N[i]? =some x:=by rfl) (hv:Vis X.env.scope x:=by first | exact Or.inl rfl | exact Or.inr (Or.inl rfl) | exact Or.inr (Or.inr rfl)) (hd:(x==("__debug__":Str))=false:=by decide)
  (hcd:(x==("__classdict__":Str))=false:=by decide):PE X (.Name x pos) (sP i):=pB hN hv hd hcd
end
theorem bJ {A B:Prop} (h:B):if false=true then A else B:=by
 rw [if_neg Bool.false_ne_true]
 exact h
theorem cL {A B:Prop} (h:A):if true=true then A else B:=by
 rw [if_pos rfl]
 exact h
theorem aZ {c A B:Prop} [Decidable c] (h1:c->A) (h2: ¬ c->B):if c then A else B:=by
 by_cases h:c
 ·rw [if_pos h]
  exact h1 h
 ·rw [if_neg h]
  exact h2 h
noncomputable def Same (H H':Hp):Prop:= ∀ b o,H b=some o->H' b=some o
theorem Same.refl (H:Hp):Same H H:=fun _ _ h=>h
theorem Same.trans {H H1 H2:Hp} (a:Same H H1) (b:Same H1 H2):Same H H2:=fun c o h=>b c o (a c o h)
theorem Same.free {H H':Hp} (e:Same H H') {l:Addr} (h:H' l=Option.none):H l=Option.none:=by
 cases q:H l with
 | none=>rfl
 | some o=>
  rw [e l o q]at h
  cases h
theorem Same.seq {K:PySem.W.Frag} {H H':Hp} {a:Addr} {xs:List V} (e:Same H H') (h:SqL K H a xs):SqL K H' a xs:=by
 rcases h with (h | ⟨o,h⟩) | h
 ·exact .inl (.inl (e _ _ h))
 ·exact .inl (.inr ⟨o,e _ _ h⟩)
 ·exact .inr h
section
variable {X:Cx}
theorem qE:da X (.builtin "isinstance") (fun xs H Q=> ∃ x T t b,xs=[x,.ty T]/\eR X.K H x t/\PySem.W.kitOne X.K t (.type T)=some b/\Q (.bl b) H):=by
 intro pins s Z H xs us Q I r h
 obtain ⟨x,T,t,b,rfl,ty,e,q⟩:=h
 obtain ⟨u,w',rfl,ru,rw'⟩:=fR r
 cases (show w'=Value.type T from rw')
 exact nL I ru ty e fun tk=>⟨.bl b,H,I.tok tk,rfl,q⟩
theorem dI:OpR X (compareOp .LtE) (fun x y H Q=> ∃ i j,x=.str i/\y=.str j/\Q (.bl (!decide (j.cps.toList<i.cps.toList))) H):=by
 intro pins s Z H x y v u Q I rx ry h
 obtain ⟨i,j,rfl,rfl,q⟩:=h
 obtain ⟨t,rfl⟩:=rx
 obtain ⟨t',rfl⟩:=ry
 exact PySem.P.le_str (aQ I q rfl)
end
noncomputable def Itw (n:Nat) (R:Nat->V->Prop):It:=⟨fun i _=>i<n,fun i H x H'=>H'=H/\R i x,fun i _=>i=n⟩
theorem j0 {P:Program} {w:World} {K:PySem.W.Frag} {tg:Expr} (it:Addr) (n:Nat) (Pv:Nat->Value->Prop) (tn:Nat->Heap->Prop) (R:Nat->V->Prop)
  (hW: ∀ A:Around,A.handled=none->Walks P w A it [it] [it] n Pv tn)
  (hobj: ∀ i h,tn i h-> ∃ (o:Obj) (nm:String) (vs:Array Value),h.get? it=some o/\o.cls=.type nm/\o.data=.fields vs/\
   ["enumerate","zip","dict_itemiterator","dict_reverseitemiterator","odict_iterator","itertools.zip_longest","itertools.pairwise"].contains nm=false)
  (hP: ∀ i v,Pv i v-> ∃ x,RelV x v/\R i x)
  (hself: ∀ (A:Around) (i:Nat) (s:Shared) (Q:Value->Shared->Prop) (E:Value->Shared->Prop),tn i s.heap->Q (.ref it) s->wpAny (model P w) A (pyIter (.ref it)) Q E s):iU P w K tg (Itw n R) [it] it tn where
 mem:=by simp
 obj:=fun i h st b hb=>by
  have e:b=it:=by simpa using hb
  subst e
  obtain ⟨o,nm,vs,e,_,d,_⟩:=hobj i h st
  exact ⟨o,e,fun v z=>by rw [d]at z;cases z⟩
 keep:=fun i h h' st k=>(hW callerA rfl).frame i h h' st fun b hb o e=>k b hb o e
 item:=by
  intro X hP' hw hK hc i pins s Z H E I hf st hg
  subst hP' hw hK
  obtain ⟨f0,f1,f2,f3,f4,f5⟩:=hf it (by simp)
  refine (hW X.A (I.ok.hd hc)).item i s _ _ hg st fun v h' tk hv st' kk=>?_
  obtain ⟨x,rx,qx⟩:=hP i v hv
  have I1:Inv X pins Z H {s with heap:=h',toks:=tk}:=I.turned (fun b o hb e=>kk b o (by simpa using hb) e) f0 f1 f3 f4 f5
  obtain ⟨o,nm,vs,e,c,d,ne⟩:=hobj _ _ st'
  exact ⟨v,rfl,jJ (s:={s with heap:=h',toks:=tk}) e c d ne ⟨x,H,I1,rx,⟨rfl,qx⟩,st',fun b hb=>(hf b hb).1⟩⟩
 done:=by
  intro X hP' hw hK hc i pins s Z H E I hf st hg
  subst hP' hw hK
  obtain ⟨f0,f1,f2,f3,f4,f5⟩:=hf it (by simp)
  have hg':i=n:=hg
  subst hg'
  exact (hW X.A (I.ok.hd hc)).done s _ _ st fun h' tk kk=>⟨rfl,I.turned (t':=tk) (fun b o hb e=>kk b o (by simpa using hb) e) f0 f1 f3 f4 f5⟩
 self:=hself
section
variable {X:Cx} {tg:Expr}
noncomputable def vT (tl:TE):TI:=fun Z H R=>tl Z H fun x H1=> ∃ z,x=.str z/\R (Itw z.length fun i v=> ∃ c,z.cps[i]? =some c/\v=.str ⟨#[c]⟩) H1
theorem pq {l:Expr} {tl:TE} (hl:PE X l tl):PI X tg l (vT tl):=by
 intro pins s Z H R I h
 refine thn (hl pins s Z H _ I h) fun v s1 ⟨x,H1,I1,r1,z,ez,q⟩=>?_
 subst ez
 obtain ⟨t,rfl⟩:=r1
 have go: ∀ (T:String) (o:Obj),(∀ (A:Around) (i:Nat) (s:Shared) (Q:Value->Shared->Prop) (E:Value->Shared->Prop),s.heap.IsStrIter s1.heap.objs.size T z t i->Q (.ref s1.heap.objs.size) s->wpAny (model X.prog X.w) A (pyIter (.ref s1.heap.objs.size)) Q E s)->(∀ A:Around,A.handled=none->Walks X.prog X.w A s1.heap.objs.size [s1.heap.objs.size] [s1.heap.objs.size] z.cps.size (SignAt z) (fun i h=>h.IsStrIter s1.heap.objs.size T z t i))->
   ["enumerate","zip","dict_itemiterator","dict_reverseitemiterator","odict_iterator","itertools.zip_longest","itertools.pairwise"].contains T=false->
   (s1.heap.push o).IsStrIter s1.heap.objs.size T z t 0->PIE X pins Z tg R (.ref s1.heap.objs.size) {s1 with heap:=s1.heap.push o}:=by
  intro T o hS hW hT st
  refine ⟨s1.heap.objs.size,[s1.heap.objs.size],_,Itw z.length fun i v=> ∃ c,z.cps[i]? =some c/\v=.str ⟨#[c]⟩,H1,rfl,I1.kept (t':=s1.toks) fun b o e=>Heap.get?_push_of_some _ e,
   j0 s1.heap.objs.size z.length (SignAt z) (fun i h=>h.IsStrIter s1.heap.objs.size T z t i) _ hW (fun i h st=>?_) (fun i v hv=>?_) hS,st,fun b hb=>?_,q⟩
  ·obtain ⟨o,e,c,d⟩:=st
   exact ⟨o,T,_,e,c,d,hT⟩
  ·obtain ⟨c,u,e,rfl⟩:=hv
   exact ⟨.str ⟨#[c]⟩,⟨u,rfl⟩,c,e,rfl⟩
  ·have e:b=s1.heap.objs.size:=by simpa using hb
   subst e
   exact I1.fpOk (Nat.le_refl _) I1.fresh
 cases ha:z.cps.all (· <128)
 ·exact wpAny_pyIter_wide ha (go "str_iterator" _ (fun _ _ _ _ _ st h=>wpAny_pyIter_striter_wide st h) (fun A hA=>Walks.strWide hA _ z t) (by decide) ⟨_,Heap.get?_push_size _ rfl,rfl,rfl⟩)
 ·exact wpAny_pyIter_ascii ha (go "str_ascii_iterator" _ (fun _ _ _ _ _ st h=>wpAny_pyIter_striter_ascii st h) (fun A hA=>Walks.strAscii hA _ z t) (by decide) ⟨_,Heap.get?_push_size _ rfl,rfl,rfl⟩)
end
section
variable {X:Cx} {e k:Expr} {te tk:TE} {pos p2:Pos}
theorem cf: ∀ (ix:List Nat) {xs:List V} {us:List Value},Vals xs us->Vals (ix.filterMap (xs[·]?)) (ix.filterMap (us[·]?))
 | [],_,_,_=>.nil
 | i::r,xs,us,h=>by
  rw [List.filterMap_cons,List.filterMap_cons]
  cases ex:xs[i]? with
  | none=>
   rw [h.none_of ex]
   exact cf r h
  | some x=>
   obtain ⟨u,eu,ru⟩:=h.get ex
   rw [eu]
   exact .cons ru (cf r h)
noncomputable def dq (n:Nat) (c:Int):List Nat:=sliceRange (sliceBounds none none (some c) n).1 (sliceBounds none none (some c) n).2.1 (sliceBounds none none (some c) n).2.2
noncomputable def fA (xs:List V) (c:Int):List V:=(dq xs.length c).filterMap (xs[·]?)
theorem ko {α:Type} (xs:List α):(List.range xs.length).filterMap (xs[·]?)=xs:=by
 induction xs with
 | nil=>rfl
 | cons x r ih=>
  rw [List.length_cons,List.range_succ_eq_map,List.filterMap_cons,List.filterMap_map]
  show x::List.filterMap ((fun j=>(x::r)[j]?)∘Nat.succ) (List.range r.length)=x::r
  congr 1
theorem j9 (n:Nat):dq n 1=List.range n:=by
 unfold dq sliceBounds sliceRange
 simp only [Option.getD_some,show (1:Int) >0 by decide,if_true]
 by_cases h:n=0
 ·subst h
  rfl
 ·rw [if_pos (by omega)]
  have e:(((n:Int) -0+1-1) /1).toNat=n:=by rw [Int.ediv_one];omega
  rw [e]
  conv=>rhs;rw [<- List.map_id (List.range n)]
  apply List.map_congr_left
  intro k hk
  show (0+1* (k:Int)).toNat=k
  omega
theorem mx (xs:List V):fA xs 1=xs:=by
 unfold fA
 rw [j9]
 exact ko xs
theorem ka (n:Nat):dq n (-1)=(List.range n).map fun k=>n-1-k:=by
 unfold dq sliceBounds sliceRange
 simp only [Option.getD_some,show ¬ ((-1:Int) >0) by decide,if_false]
 by_cases h:n=0
 ·subst h
  rfl
 ·rw [if_pos (by omega)]
  have e:(((n:Int) -1- -1- -1-1) / (- -1)).toNat=n:=by
   rw [show (- -1:Int)=1 by decide,Int.ediv_one];omega
  rw [e]
  apply List.map_congr_left
  intro k hk
  have:=List.mem_range.mp hk
  show ((n:Int) -1+ -1* (k:Int)).toNat=n-1-k
  omega
theorem rev_pick {α:Type} (xs:List α):((List.range xs.length).map fun k=>xs.length-1-k).filterMap (xs[·]?)=xs.reverse:=by
 apply List.ext_getElem?
 intro i
 have hall:((List.range xs.length).map fun k=>xs.length-1-k).filterMap (xs[·]?)=(List.range xs.length).filterMap fun k=>xs[xs.length-1-k]? :=by
  rw [List.filterMap_map]
  rfl
 rw [hall]
 have hsome: ∀ (l:List Nat),(∀ k∈l,k<xs.length)-> ∀ j:Nat,(l.filterMap fun k=>xs[xs.length-1-k]?)[j]? =l[j]?.bind fun k=>xs[xs.length-1-k]? :=by
  intro l
  induction l with
  | nil=>intro _ j;rfl
  | cons a r ih=>
   intro hl j
   have ha:=hl a List.mem_cons_self
   have hx:xs[xs.length-1-a]? =some xs[xs.length-1-a]:=List.getElem?_eq_getElem (by omega)
   rw [List.filterMap_cons,hx]
   cases j with
   | zero=>simp [hx]
   | succ j=>
    rw [List.getElem?_cons_succ,List.getElem?_cons_succ]
    exact ih (fun k hk=>hl k (List.mem_cons_of_mem _ hk)) j
 rw [hsome _ (fun k hk=>List.mem_range.mp hk) i]
 by_cases hi:i<xs.length
 ·rw [List.getElem?_range hi,List.getElem?_reverse hi]
  rfl
 ·rw [List.getElem?_eq_none (by simpa using hi),List.getElem?_eq_none (by simpa using hi)]
  rfl
theorem gU (xs:List V):fA xs (-1)=xs.reverse:=by
 unfold fA
 rw [ka]
 exact rev_pick xs
noncomputable def uE (K:PySem.W.Frag) (te tk:TE):TE:=fun Z H Q=>te Z H fun x H1=>tk Z H1 fun y H2=> ∃ a xs c,x=.ref a/\y=.int c/\SqL K H2 a xs/\c≠0/\ ∀ p,H2 p=none->Q (.ref p) (upd H2 p (.lst (fA xs c)))
theorem lM (he:PE X e te) (hk:PE X k tk):PE X (.Subscript e (.Slice none none (some k) p2) pos) (uE X.K te tk):=by
 intro pins s Z H Q I h
 refine Subscript_ (thn (he pins s Z H _ I h) fun v s1 ⟨x,H1,I1,r1,q1⟩=>?_)
 refine wpAny_Slice ?_
 rw [evalPart_none,evalPart_some]
 refine wpAny_pure (wpAny_pure ?_)
 refine thn (hk pins s1 Z H1 _ I1 q1) fun vk s3 ⟨y,H3,I3,ry,a,xs,c,ex,ey,hq,hc,q⟩=>?_
 subst ex ey
 obtain ⟨t,rfl⟩:=ry
 cases r1
 have I4:Inv X pins Z H3 {s3 with heap:=s3.heap.push {cls:=.type "slice",data:=.fields #[.none,.none,.int c t]}}:=I3.kept (t':=s3.toks) fun b ob q=>Heap.get?_push_of_some _ q
 obtain ⟨its,r,ht,hz⟩:=I4.list hq
 have hlen:=r.length
 have hpick:slicePick its.toArray none none (some c)=((dq xs.length c).filterMap (its[·]?)).toArray:=by
  unfold slicePick dq
  rw [List.size_toArray,hlen]
  simp
 have hle:(fA xs c).length<=sizeLine:=by
  have h1:=slicePick_size_le its.toArray none none (some c)
  rw [hpick,List.size_toArray,List.size_toArray]at h1
  have h2:=(cf (dq xs.length c) r).length
  unfold fA
  omega
 show wpAny (model X.prog X.w) X.A (subscriptTail e (.Slice none none (some k) p2) (.ref a) (.ref s3.heap.objs.size)) (EP X pins Z Q) X.xe {s3 with heap:=s3.heap.push {cls:=.type "slice",data:=.fields #[.none,.none,.int c t]}}
 refine tail_any (ops:=[.ref a,.ref s3.heap.objs.size]) ht.isList.typeIs slot_list_getitem.lookup (wpAny_getItem_list_slice ht.isList (Heap.IsSliceOf.new ..) .none .none (.int c t) (by simpa using hc) ?_ (by rw [List.size_toArray];omega)) (by with_unfolding_all rfl)
 rw [hpick]
 refine ⟨.ref (s3.heap.push {cls:=.type "slice",data:=.fields #[.none,.none,.int c t]}).objs.size,_,I4.laid (t':=s3.toks) (o:=.lst (fA xs c)) (fun b ob q=>Heap.get?_push_of_some _ q) (Nat.le_refl _) ?_,rfl,q _ I4.fresh⟩
 exact ⟨hle,_,0,cf _ r,Heap.get?_push_size _ rfl⟩
noncomputable def vG:V->Option Int->Option Int->Hp->VK->Prop:=fun x lo hi H Q=> ∃ z,x=.str z/\z.length<=sizeLine/\Q (.str (Txt.slice z lo hi)) H
theorem ga:SlR X vG:=by
 intro pins s Z H x v vl vu lo hi sl Q I rx hs pl pu h
 obtain ⟨z,rfl,hz,q⟩:=h
 obtain ⟨t,rfl⟩:=rx
 refine ⟨"str",_,F.slot_str_getitem.lookup,typeIs_str _ _ _,?_⟩
 have go: ∀ (l u:Option (Int×Tok)),vl=partValue l->vu=partValue u->lo=l.map (·.1)->hi=u.map (·.1)->wpAny (model X.prog X.w) X.A (getItem (.str z t) (.ref sl)) (EP X pins Z Q) X.xe s:=by
  intro l u e1 e2 e3 e4
  subst e1 e2 e3 e4
  refine wpAny_getItem_str_slice (l:=l) (u:=u) (st:=none) hs rfl ?_
  exact post_val_or_str ⟨Nat.le_trans (Txt.slice_le z _ _) hz,fun t' k=>⟨.str (Txt.slice z (l.map (·.1)) (u.map (·.1))),H,I.tok k,⟨t',rfl⟩,q⟩⟩
 cases pl with
 | none=>
  cases pu with
  | none=>exact go none none rfl rfl rfl rfl
  | int j tj=>exact go none (some (j,tj)) rfl rfl rfl rfl
 | int i ti=>
  cases pu with
  | none=>exact go (some (i,ti)) none rfl rfl rfl rfl
  | int j tj=>exact go (some (i,ti)) (some (j,tj)) rfl rfl rfl rfl
open PySem.AutoSeq1 (wpAny_loadPart')in
theorem la (l:Addr) (items:Array Value) (n:Nat) (b:Addr) (items2:Array Value) (n2:Nat) (dd:Option Addr) (sl:Array (Option Value)) (hs0: ¬(!items.isEmpty&&Builtin.List.listTooLong (items.size+items2.size))=true) (hs1:items.size<=sizeLine) (hs2:items.size+items2.size<=sizeLine+1):
  Meets (Builtin.«list.extend» ⟨[.ref l,.ref b],[]⟩) (fun _ R s=>s.heap.get? l=some {cls:=.type "list",dict:=none,data:=.seq items n,slots:= #[]}/\s.heap.get? b=some {cls:=.type "tuple",dict:=dd,data:=.seq items2 n2,slots:=sl}/\R (.ok (.ret Value.none)) {s with heap:=s.heap.update l (Obj.mapSeq fun x=>x++items2),toks:=s.toks}):=
 .of_wp fun prog w A R s h=>by
  obtain ⟨hp,g,d,tk,os⟩:=s;obtain ⟨hl,hb,h⟩:=h;have f1:=AutoSeq1.idx_int;have f2:=AutoSeq1.sub_tuple_tuple;have f3:=AutoSeq1.sub_list_list;have f4:=AutoSeq1.sub_tuple_list;have f5:=AutoSeq1.sub_list_tuple;
  have hz':(items++items2).size<=sizeLine+1:=by rw [Array.size_append];exact hs2
  wp_walk using (wpAny_updateSeq hl rfl (hz:=hs1) (_hz':=hz')),wpAny_loadPart' hl,wpAny_loadPart' hb;exact ⟨_,rfl,h⟩
noncomputable def uZ (K:PySem.W.Frag):V->List V->Hp->VK->Prop:=fun x vs H Q=> ∃ l b xs zs,x=.ref l/\vs=[.ref b]/\H l=some (.lst xs)/\SqT K H b zs/\xs.length+zs.length<=sizeLine/\Q .non (upd H l (.lst (xs++zs)))
theorem lV:MtM X "list.extend" (uZ X.K):=by
 intro pins s Z H x vs v us Q I rx rv h
 obtain ⟨l,b,xs,zs,rfl,rfl,hH,hB,hz,q⟩:=h
 cases rx
 obtain ⟨u,rfl,ru⟩:=rv.one
 cases ru
 obtain ⟨z,its,n,r,hl,e⟩:=I.lstM hH
 obtain ⟨its2,r2,ht2,hz2⟩:=I.tuple hB
 obtain ⟨⟨c2,d2,dat2,sl2⟩,e2,hc2,n2,hd2⟩:=ht2
 dsimp only at hc2 hd2
 subst hc2 hd2
 have hl2:=r2.length
 have hsz:its.toArray.size+its2.toArray.size<=sizeLine:=by rw [List.size_toArray,List.size_toArray];omega
 have hlong: ¬ (!its.toArray.isEmpty&&Builtin.List.listTooLong (its.toArray.size+its2.toArray.size))=true:=by
  rw [qa hsz,Bool.and_false]
  exact Bool.false_ne_true
 refine call_meets F.slot_list_extend ⟨_,e,rfl⟩ F.entry_list_extend (F.args_list_extend_2 _ _)
  (la l its.toArray n b its2.toArray n2 d2 sl2 hlong (by rw [List.size_toArray];omega) (by omega)) ⟨e,e2,?_⟩
 refine ⟨.non,_,I.lset (its':=its++its2) hH e (by simp) (r.append r2) ?_,rfl,q⟩
 rw [List.length_append]
 omega
theorem mY (bs:List Bool):((List.range bs.length).all fun i=>(bs[i]?).getD true)=bs.all id:=by
 induction bs with
 | nil=>rfl
 | cons b r ih=>
  rw [List.length_cons,List.range_succ_eq_map,List.all_cons,List.all_map]
  show (b&&(List.range r.length).all (fun i=>((b::r)[i+1]?).getD true))=(b&&r.all id)
  rw [<- ih]
  rfl
theorem gI (hc:X.calm=true):da X (.builtin "all") (fun xs H Q=> ∃ (p:Addr) (bs:List Bool),xs=[.ref p]/\SqL X.K H p (bs.map V.bl)/\Q (.bl (bs.all id)) H):=by
 intro pins s Z H xs us Q I r h
 obtain ⟨p,bs,rfl,hq,q⟩:=h
 obtain ⟨u,rfl,ru⟩:=gQ r
 cases ru
 obtain ⟨its,rv,pl,hz⟩:=I.list hq
 have hl:=pl.isList
 have hlt:p<s.heap.objs.size:=by obtain ⟨_,e,_⟩:=hl;exact Heap.lt_size e
 have hn:its.toArray.size=bs.length:=by have:=rv.length;rw [List.length_map]at this;rw [List.size_toArray];omega
 refine call_all_walk (wpAny_pyIter_list hl ?_)
 refine ⟨s.heap.objs.size,[s.heap.objs.size,p],[s.heap.objs.size],its.toArray.size,_,_,fun i=>(bs[i]?).getD true,rfl,Walks.list (A:=X.A.in1) (I.ok.hd hc) _ p (Nat.ne_of_lt hlt) its.toArray,
  ⟨⟨_,Heap.get?_push_size _ rfl,rfl,rfl⟩,hl.push _⟩,fun i v s' Q' E' hP hQ=>?_,fun h' tk hk=>?_⟩
 ·have hv:its[i]? =some v:=by simpa using hP
  have hi:i<bs.length:=by
   have:=(List.getElem?_eq_some_iff.mp hv).1
   have:=rv.length
   rw [List.length_map]at this
   omega
  have hb:(bs.map V.bl)[i]? =some (V.bl bs[i]):=by rw [List.getElem?_map,List.getElem?_eq_getElem hi] <;> rfl
  obtain ⟨u,eu,ru⟩:=rv.get hb
  rw [hv]at eu
  cases eu
  cases (show v=Value.bool bs[i]from ru)
  have hQ':=hQ
  simp only [List.getElem?_eq_getElem hi,Option.getD_some]at hQ'
  exact wpAny_truthy_bool hQ'
 ·rw [hn,mY]
  refine ⟨.bl (bs.all id),H,I.kept (t':=tk) fun b x e=>?_,rfl,q⟩
  exact hk b x (fun hm=>by rw [List.mem_singleton.mp hm]at e;exact Nat.lt_irrefl _ (Heap.lt_size e)) (Heap.get?_push_of_some _ e)
noncomputable def iX (P:Program) (w:World) (K:PySem.W.Frag) (a:Addr) (kvs:List (Key×V)):Prop:=
 (a==sysModules)=false/\ ∀ h:Heap,K.In h-> ∃ vs,KV kvs vs/\h.DictOf (bf P w) a vs
noncomputable def vK (P:Program) (w:World) (K:PySem.W.Frag) (neg:Bool):R2:=fun x y H Q=> ∃ k a kvs,x=kV k/\y=.ref a/\iX P w K a kvs/\Q (.bl (if neg then !(db kvs k).isSome else (db kvs k).isSome)) H
theorem pM:OpR X (compareOp .In) (vK X.prog X.w X.K false):=by
 intro pins s Z H x y v u Q I rx ry h
 obtain ⟨k,a,kvs,rfl,rfl,⟨hd,T⟩,q⟩:=h
 cases (show u=Value.ref a from ry)
 obtain ⟨vs,rel,dd⟩:=T _ I.kIn
 refine wpAny_in_of (jF rx) hd dd.mapOf ?_
 rw [<- (rel.val k).isSome_eq]
 exact ⟨.bl (db kvs k).isSome,H,I.tok _,rfl,q⟩
noncomputable def uP (P:Program) (w:World) (K:PySem.W.Frag) (td ty:TE):TE:=fun Z H Q=>td Z H fun x H1=>ty Z H1 fun y H2=> ∃ a kvs k v,x=.ref a/\y=kV k/\iX P w K a kvs/\db kvs k=some v/\Q v H2
theorem lN {o i:Expr} {td ty:TE} (ho:PE X o td) (hi:PE X i ty) (hs:uB i):PE X (.Subscript o i pos) (uP X.prog X.w X.K td ty):=by
 intro pins s Z H Q I h
 refine ly PySem.F.slot_dict_getitem.lookup hs (thn (ho pins s Z H _ I h) fun u s1 ⟨x,H1,I1,rx,q1⟩=>thn (hi pins s1 Z H1 _ I1 q1) fun iv s2 ⟨y,H2,I2,ry,a,kvs,k,v,ex,ey,⟨hd,T⟩,l,q2⟩=>?_)
 subst ex ey
 obtain rfl:u=Value.ref a:=rx
 obtain ⟨vs,rel,dd⟩:=T _ I2.kIn
 obtain ⟨w',hw,rw'⟩:=RelO.some_of (v:=v) (o:=valueAt vs k) (by rw [<- l];exact rel.val k)
 exact ⟨dd.typeIs,wpAny_getItem_of (jF ry) dd.mapOf hw ⟨v,H2,I2.tok _,rw',q2⟩⟩
end
theorem eL {α β:Type} {f:α->β->Sem (ForInStep β)} (g:β->α->β): ∀ {l:List α} (c:β),(∀ x∈l,∀ c,f x c=pure (.yield (g c x)))->forIn l c f=pure (l.foldl g c)
 | [],c,_=>rfl
 | x::l,c,h=>by
  have hx:=h x List.mem_cons_self c
  rw [List.forIn_cons,hx,pure_bind]
  exact eL g (g c x) fun y hy=>h y (List.mem_cons_of_mem _ hy)
noncomputable def bn (cells:List (Str×Addr)) (c:List (Str×Addr)) (x:Str×NameKind):List (Str×Addr):=
 if x.2=.free then (match cells.lookup x.1 with | some a=>(x.1,a)::c | none=>c)else c
noncomputable def bG (cells:List (Str×Addr)) (names:List (Str×NameKind)):List (Str×Addr):=names.foldl (bn cells) []
theorem cP {scope:Scope} {env:Env} (h: ∀ x∈scope.names,x.2=.free-> ∃ c,env.cells.lookup x.1=some c):closureFor scope env=pure (bG env.cells scope.names):=by
 simp only [closureFor]
 rw [eL (bn env.cells) [] (fun x hx c=>by
  obtain ⟨n,kind⟩:=x
  by_cases hk:kind=.free
  ·subst hk
   obtain ⟨a,ha⟩:=h _ hx rfl
   simp only [bn,if_true,beq_self_eq_true,cellOf,ha,pure_bind]
  ·have hb:(kind==NameKind.free)=false:=by simpa using hk
   simp only [bn,hb,hk,Bool.false_eq_true,if_false])]
 rfl
theorem gF {cells:List (Str×Addr)}: ∀ {names:List (Str×NameKind)} {acc:List (Str×Addr)},(∀ p∈acc,cells.lookup p.1=some p.2)-> ∀ p∈names.foldl (bn cells) acc,cells.lookup p.1=some p.2
 | [],_,h=>h
 | x::r,acc,h=>by
  refine gF (names:=r) (acc:=bn cells acc x) ?_
  intro p hp
  unfold bn at hp
  split at hp
  ·split at hp
   ·rename_i a ha
    rcases List.mem_cons.mp hp with e | e
    ·subst e
     exact ha
    ·exact h p e
   ·exact h p hp
  ·exact h p hp
theorem gG {cells:List (Str×Addr)}: ∀ {names:List (Str×NameKind)} {acc:List (Str×Addr)} {p:Str×Addr},p∈acc->p∈names.foldl (bn cells) acc
 | [],_,_,h=>h
 | x::r,acc,p,h=>by
  refine gG (names:=r) (acc:=bn cells acc x) ?_
  unfold bn
  split
  ·split
   ·exact List.mem_cons_of_mem _ h
   ·exact h
  ·exact h
theorem jR {cells:List (Str×Addr)} {n:Str} {c:Addr} (hc:cells.lookup n=some c): ∀ {names:List (Str×NameKind)} {acc:List (Str×Addr)},(n,NameKind.free)∈names->(n,c)∈names.foldl (bn cells) acc
 | [],_,h=>by simp at h
 | x::r,acc,h=>by
  rcases List.mem_cons.mp h with e | e
  ·subst e
   refine gG (names:=r) ?_
   simp [bn,hc]
  ·exact jR hc (names:=r) e
theorem mem_of_lookup {α β:Type} [BEq α] [LawfulBEq α] {k:α} {v:β}: ∀ {l:List (α×β)},l.lookup k=some v->(k,v)∈l
 | [],h=>by simp at h
 | (a,b)::r,h=>by
  rw [List.lookup_cons]at h
  split at h
  ·rename_i e
   have:=eq_of_beq e
   subst this
   cases h
   exact List.mem_cons_self
  ·exact List.mem_cons_of_mem _ (mem_of_lookup h)
theorem dM {α β:Type} [BEq α] [LawfulBEq α] {k:α} {v:β}: ∀ {l:List (α×β)},(k,v)∈l-> ∃ v',l.lookup k=some v'
 | [],h=>by simp at h
 | (a,b)::r,h=>by
  rw [List.lookup_cons]
  split
  ·exact ⟨b,rfl⟩
  ·rename_i e
   rcases List.mem_cons.mp h with q | q
   ·cases q
    simp at e
   ·exact dM q
theorem bA {cells:List (Str×Addr)} {names:List (Str×NameKind)} {n:Str} {c:Addr} (h:(bG cells names).lookup n=some c):cells.lookup n=some c:=
 gF (names:=names) (acc:=[]) (by simp) (n,c) (mem_of_lookup h)
theorem cK {cells:List (Str×Addr)} {names:List (Str×NameKind)} {n:Str} {c:Addr} (hc:cells.lookup n=some c) (h:(n,NameKind.free)∈names):(bG cells names).lookup n=some c:=by
 obtain ⟨c',e⟩:=dM (jR hc (acc:=[]) h)
 have:=bA e
 rw [hc]at this
 cases this
 exact e
noncomputable def bg (sc0 scope:Scope):List (Str×NameKind):=
 scope.names.map fun (n,k)=>if (k== .free&&sc0.kind== .function&&sc0.names.lookup n==some .cell)then (n,.cell)else (n,k)
structure iY (sc0:Scope) (N0:List Str) (scope:Scope) (x:Str) (ys:List Str) (fr:List Nat):Prop where
 kind:scope.kind=.function
 nocell: ∀ y∈scope.names,y.2≠ .cell
 loc: ∀ y∈scope.names,y.2=.local->scope.names.lookup y.1=some .local
 xl:(bg sc0 scope).lookup x=some .local
 free: ∀ y∈scope.names,y.2=.free->sc0.names.lookup y.1=some .cell
 nd:(x::ys).Nodup
 len:ys.length=fr.length
 sl: ∀ q∈ys.zip fr,N0[q.2]? =some q.1/\sc0.names.lookup q.1=some .cell/\(bg sc0 scope).lookup q.1=some .cell
theorem cok {sc0:Scope} {N0:List Str} {scope:Scope} {x:Str} {ys:List Str} {fr:List Nat} (kind_:scope.kind=.function:=by rfl) (nocell_: ∀ y∈scope.names,y.2≠ .cell:=by decide +kernel) (loc_: ∀ y∈scope.names,y.2=.local->scope.names.lookup y.1=some .local:=by decide +kernel) (xl_:(bg sc0 scope).lookup x=some .local:=by decide +kernel) (free_: ∀ y∈scope.names,y.2=.free->sc0.names.lookup y.1=some .cell:=by decide +kernel) (nd_:(x::ys).Nodup:=by decide +kernel) (len_:ys.length=fr.length:=by rfl) (sl_: ∀ q∈ys.zip fr,N0[q.2]? =some q.1/\sc0.names.lookup q.1=some .cell/\(bg sc0 scope).lookup q.1=some .cell:=by decide +kernel):iY sc0 N0 scope x ys fr:=⟨kind_,nocell_,loc_,xl_,free_,nd_,len_,sl_⟩
noncomputable def cJ (X:Cx) (x:Str) (ys:List Str) (scope:Scope) (C:Addr) (s:Shared) (H:Hp) (ex:List Addr):Cx:=
 {X with N:=x::ys,s₀:=s,H₀:=H,env:=compEnvC scope (bG X.env.cells scope.names) C X.env,outer:=X.stack,stack:=X.stack,ex:=ex,fn:=fun _=>false,pn:=[],xe:=fun _ _=>False}
section
variable {prog:Program} {w:World} {A:Around} {R:Result->Shared->Prop} {s:Shared}
theorem dO {elt target iter:Expr} {scope:Scope} {pos:Pos} {it acc:Value} {env:Env} (I:Nat->Shared->Prop)
  (turn: ∀ n s,I n s->wpAny (model prog w) A (pyNext it) (fun r s₁=>match r with
   | none=>R (.ok .next) s₁
   | some v=>wpAny (model prog w) A (letOwnedTupleGo target it v) (fun _ s₁'=>wpAny (model prog w) A (assign target env v) (fun _ s₂=>wpAny (model prog w) A (eval elt env) (fun x s₃=>
     wpAny (model prog w) A (call (.builtin "list.append") [acc,x]) (fun _ s₄=> ∃ m,m<n/\I m s₄) (fun _ _=>False) s₃) (fun _ _=>False) s₂) (fun _ _=>False) s₁') (fun _ _=>False) s₁) (fun _ _=>False) s)
  (n:Nat) (h:I n s):codeAny (model prog w) A (.compLoop (.ListComp elt [⟨target,iter,[],0⟩] scope pos) 0 it acc env) R s:=by
 refine codeAny_loop rfl I (fun n s hI=>?_) n h
 show wpAny _ _ ((compTurn (.ListComp elt [⟨target,iter,[],0⟩] scope pos) 0 it acc env).onRaise (fun x=>do noteFrame x env;theTreesLotGoes x)) _ _ s
 refine wpAny_noted ?_
 rw [compTurn_list1]
 refine wpAny_noRaise ?_
 refine wpAny_bind (wpAny_standAt (wpAny_bind (wpAny_mono (turn n s hI) (fun r s₁ h₁=>?_) fun _ _ h'=>h')))
 cases r with
 | none=>exact wpAny_pure h₁
 | some v=>
  refine wpAny_bind (wpAny_mono h₁ (fun _ s₁' h₁'=>?_) fun _ _ h'=>h')
  exact wpAny_bind (wpAny_mono h₁' (fun _ s₂ h₂=>wpAny_bind (wpAny_bind (wpAny_mono h₂ (fun x s₃ h₃=>wpAny_bind (wpAny_mono h₃
   (fun _ s₄ h₄=>wpAny_pure (wpAny_pure ⟨rfl,h₄⟩)) fun _ _ h'=>h')) fun _ _ h'=>h'))) fun _ _ h'=>h')
end
noncomputable def cx (fr:List Nat) (Z:St):St:=fr.map fun j=>(Z[j]?).join
noncomputable def fV (fr:List Nat) (te:TE) (Z:St) (J:It) (H1:Hp) (Q:VK):Prop:=
 ∀ p,H1 p=none-> ∃ W:Nat->Nat->List V->Hp->Prop,(∃ m,W 0 m [] (upd H1 p (.lst [])))/\ ∀ i m ys H,W i m ys H->H p=some (.lst ys)/\
  ((J.stop i H/\Q (.ref p) H)\/(J.go i H/\ys.length<sizeLine/\ ∀ x H',J.yld i H x H'->te (some x::cx fr Z) H' fun v H2=>
   H2 p=some (.lst ys)/\ ∃ m',m'<m/\W (i+1) m' (ys++[v]) (upd H2 p (.lst (ys++[v])))))
noncomputable def oH (wi:TI) (fr:List Nat) (te:TE):TE:=fun Z H Q=>wi Z H fun J H1=>fV fr te Z J H1 Q
section
variable {X:Cx} {x:Str} {px pos fpos:Pos} {iter elt:Expr} {scope sc0:Scope} {N0 ys:List Str} {fr:List Nat} {wi:TI} {te:TE} {pins:List (Addr×Obj)} {Z:St} {H:Hp} {s:Shared}
theorem ie {use:Option (Value->Sem Unit)} {Qv:Value->Shared->Prop} {Q:VK} (hcalm:X.calm=true) (hi:PI X (.Name x px) iter wi) (hsc:X.env.scope=sc0) (hN:X.N=N0) (ok:iY sc0 N0 scope x ys fr)
  (hE: ∀ C s H ex,PE (cJ X x ys scope C s H ex) elt te) (I:Inv X pins Z H s) (h:oH wi fr te Z H Q) (hs: ∀ v,foldedSetIterable iter X.env v=pure v)
  (fin: ∀ (p C:Addr) (H':Hp) (s':Shared) (m:Str->Option Value),Inv X pins Z H' s'->s'.heap.Ns C m->H' C=none->C≠X.env.locals->X.s₀.heap.objs.size<=C->(∀ y c,X.env.cells.lookup y=some c->c≠C)->(∀ q∈X.pn++pins,q.1≠C)->Q (.ref p) H'->
   compPost (model X.prog X.w) X.A X.xe use Qv (.ref p) C (.ok .next) s'):
  wpAny (model X.prog X.w) X.A (comprehension (.ListComp elt [⟨.Name x px,iter,[],0⟩] scope pos) scope X.env fpos (newList []) false (eval iter X.env) use) Qv X.xe s:=by
 subst hsc hN
 have hkof: ∀ y,X.env.kindOf y=X.env.scope.names.lookup y:=fun y=>rfl
 have hfree: ∀ y∈scope.names,y.2=.free-> ∃ c,X.env.cells.lookup y.1=some c:=fun y hy e=>I.ok.has y.1 (.inl (ok.free y hy e))
 refine wpAny_comprehension_free (gs:=[]) rfl hs (cP hfree) ok.kind ok.loc (thn (hi pins s Z H _ I h) fun v s1 h1=>thn h1 fun itv s2 h2=>?_)
 obtain ⟨it,fp,tn,J,H2,e,I2,T,st2,f2,hp⟩:=h2
 subst e
 refine wpAny_newObj_type (wpAny_newFunctionEnv ok.nocell (by intro y hy;simp at hy) (fun h₁ hns₁ hsb₁=>?_) ok.kind)
 dsimp only at hns₁ hsb₁ ⊢
 have I3:Inv X pins Z (upd H2 s2.heap.objs.size (.lst [])) {s2 with heap:=s2.heap.push {cls:=.type "list",data:=.seq ([]:List Value).toArray}}:=
  I2.lnew (its:=[]) (ys:=[]) (t':=s2.toks) .nil (Nat.zero_le _)
 have hf2: ∀ b∈fp,b<s2.heap.objs.size:=fun b hb=>by
  obtain ⟨o,e,_⟩:=T.obj _ _ st2 b hb
  exact Heap.lt_size e
 have hps:s2.heap.objs.size< (s2.heap.push {cls:=.type "list",data:=.seq ([]:List Value).toArray}).objs.size:=by rw [Heap.size_push];exact Nat.lt_succ_self _
 have W0:=hp s2.heap.objs.size I2.fresh
 have st3:tn 0 (s2.heap.push {cls:=.type "list",data:=.seq ([]:List Value).toArray}):=T.keep _ _ _ st2 fun b hb o e=>Heap.get?_push_of_some _ e
 generalize hpp:s2.heap.objs.size=p at I3 W0 hf2 hps ⊢
 generalize hh3:(s2.heap.push {cls:=.type "list",data:=.seq ([]:List Value).toArray})=h3 at I3 hns₁ hsb₁ hps st3 ⊢
 generalize hH3:upd H2 p (.lst [])=H3 at I3 W0
 have hold: ∀ b o,h3.get? b=some o->h₁.get? b=some o:=fun b o e=>hsb₁.extBut b o (Nat.ne_of_lt (Heap.lt_size e)) (Heap.get?_push_of_some _ e)
 have fH3: ∀ b∈fp,H3 b=none:=fun b hb=>by
  rw [<- hH3,ah (Nat.ne_of_lt (hf2 b hb))]
  exact (f2 b hb).1
 have hclos: ∀ y c,(bG X.env.cells scope.names).lookup y=some c->X.env.cells.lookup y=some c:=fun y c e=>bA e
 have hcell3: ∀ y c,X.env.cells.lookup y=some c->c<h3.objs.size:=fun y c e=>by
  obtain ⟨v,o,ho,_⟩:=I3.cell y c e
  exact Heap.lt_size ho
 have hlt3:X.env.locals<h3.objs.size:=I3.lt
 have Yok:(cJ X x ys scope h3.objs.size {s2 with heap:=h3} H3 fp).Ok:={
  mod:=I.ok.mod
  kind:=ok.kind
  glob:=I.ok.glob
  blt:=I.ok.blt
  above:=Nat.le_refl _
  inj:=fun y z c e1 e2=>I.ok.inj y z c (hclos _ _ e1) (hclos _ _ e2)
  has:=fun y hk=>by
   have hfr:(y,NameKind.free)∈scope.names:=by
    have hm: ∃ k,(bg X.env.scope scope).lookup y=some k/\(k=.cell\/k=.free):=by
     rcases hk with hk | hk
     ·exact ⟨_,hk,.inl rfl⟩
     ·exact ⟨_,hk,.inr rfl⟩
    obtain ⟨k,hk,hkk⟩:=hm
    have hmem:=mem_of_lookup hk
    unfold bg at hmem
    obtain ⟨⟨n,k0⟩,hn,en⟩:=List.mem_map.mp hmem
    dsimp only at en
    split at en
    ·rename_i hc
     simp only [Bool.and_eq_true]at hc
     have hk0:k0=.free:=by simpa using hc.1.1
     cases en
     rw [<- hk0]
     exact hn
    ·cases en
     rcases hkk with e | e
     ·exact absurd e (ok.nocell _ hn)
     ·rw [<- e]
      exact hn
   obtain ⟨c,hc⟩:=hfree _ hfr rfl
   exact ⟨c,cK hc hfr⟩
  cab:=fun y c hf _=>by cases hf
  hd:=I.ok.hd
  frames:=I.ok.frames
  stk:=.inl rfl
  exf:=fun b hb=>⟨fun e=>absurd (hf2 b hb) (by rw [e];exact Nat.not_lt.mpr (Nat.le_of_lt hps)),fun y c e=>(f2 b hb).2.2.2.2.1 y c (hclos _ _ e)⟩
  bs:=fun b o e=>⟨(I3.bs b o e).1,(I3.bs b o e).2⟩
  bsz:=Nat.le_trans I.ok.bsz I3.sz
  noex:=fun b o e hb=>by
   rcases (f2 b hb).2.2.2.1 with q | q
   ·exact I.ok.noex b o e q
   ·have h1:b<X.base.objs.size:=Heap.lt_size e
    exact absurd h1 (Nat.not_lt.mpr (Nat.le_trans I.ok.bsz q))
  exfs:=fun b hb hm=>by
   rcases List.mem_cons.mp (I3.stkSub b hm)with q | q
   ·exact (f2 b hb).2.1 q
   ·exact (f2 b hb).2.2.1 q
  funs:=I3.stack
  frf:=I3.stkFree}
 have IY:Inv (cJ X x ys scope h3.objs.size {s2 with heap:=h3} H3 fp) [] (none::cx fr Z) H3 {s2 with heap:=h₁,toks:=s2.toks+ ([]:List (Str×Value)).length}:={
  ok:=Yok
  os:=rfl
  bare:=I2.bare
  base:=Un.kept hold
  loc:=by
   refine ⟨_,hns₁,fun i y v hy hv hvis=>?_⟩
   cases i with
   | zero=>cases hv
   | succ j=>
    have hy':ys[j]? =some y:=hy
    have hv':(cx fr Z)[j]? =some (some v):=hv
    unfold cx at hv'
    rw [List.getElem?_map]at hv'
    obtain ⟨i0,hi0,hv0⟩:=Option.map_eq_some_iff.mp hv'
    have hz:(y,i0)∈ys.zip fr:=by
     refine List.mem_iff_getElem?.mpr ⟨j,?_⟩
     rw [List.getElem?_zip_eq_some]
     exact ⟨hy',hi0⟩
    obtain ⟨hn,hk,hk2⟩:=ok.sl _ hz
    have hZ:Z[i0]? =some (some v):=by
     cases e:Z[i0]? with
     | none=>rw [e]at hv0;cases hv0
     | some o=>
      rw [e]at hv0
      rw [show o=some v from hv0]
    obtain ⟨m,hm,hl⟩:=I3.loc
    obtain ⟨u,ru,lk⟩:=hl i0 y v hn hZ (.inr (.inl hk))
    refine ⟨u,ru,.inr ⟨.inl hk2,?_⟩⟩
    rcases lk with ⟨a,_⟩ | ⟨_,c,hc,hcell⟩
    ·have a':X.env.scope.names.lookup y=some .local:=a
     have hk':X.env.scope.names.lookup y=some .cell:=hk
     rw [hk']at a'
     cases a'
    ·have hfr:(y,NameKind.free)∈scope.names:=by
      have hmem:=mem_of_lookup hk2
      unfold bg at hmem
      obtain ⟨⟨n,k0⟩,hn0,en⟩:=List.mem_map.mp hmem
      dsimp only at en
      split at en
      ·rename_i hc0
       simp only [Bool.and_eq_true]at hc0
       have hk0:k0=.free:=by simpa using hc0.1.1
       cases en
       rw [<- hk0]
       exact hn0
      ·cases en
       exact absurd rfl (ok.nocell _ hn0)
     exact ⟨c,cK hc hfr,hcell.keeps hold⟩
  cell:=fun y c e=>by
   obtain ⟨v,hv⟩:=I3.cell y c (hclos _ _ e)
   exact ⟨v,hv.keeps hold⟩
  free:=I3.fresh
  freeC:=fun y c e=>I3.freeC y c (hclos _ _ e)
  pin:=fun q hq=>by cases hq
  hok:=I3.hok.kept hold
  len:=by
   show (none::cx fr Z).length=(x::ys).length
   rw [List.length_cons,List.length_cons,ok.len]
   unfold cx
   rw [List.length_map]}
 have hxl:(cJ X x ys scope h3.objs.size {s2 with heap:=h3} H3 fp).env.scope.names.lookup x=some .local:=ok.xl
 have pgx:PG (cJ X x ys scope h3.objs.size {s2 with heap:=h3} H3 fp) (.Name x px) (eK 0):=bZ (i:=0) ok.nd rfl (.inl hxl) (.inr hxl)
 have pel:=hE h3.objs.size {s2 with heap:=h3} H3 fp
 obtain ⟨W,⟨m0,w0⟩,turn⟩:=W0
 have stat: ∀ {H':Hp},(∀ b∈fp,H' b=none)-> ∀ b∈fp,eS (cJ X x ys scope h3.objs.size {s2 with heap:=h3} H3 fp) [] H' b:=fun hn b hb=>
  ⟨hn b hb,(Yok.exf b hb).1,Yok.exfs b hb,.inl hb,(Yok.exf b hb).2,fun q hq=>by cases hq⟩
 have loop:codeAny (model X.prog X.w) X.A (.compLoop (.ListComp elt [⟨.Name x px,iter,[],0⟩] scope pos) 0 (.ref it) (.ref p) (compEnvC scope (bG X.env.cells scope.names) h3.objs.size X.env))
   (compPost (model X.prog X.w) X.A X.xe use Qv (.ref p) h3.objs.size) {s2 with heap:=h₁,toks:=s2.toks+ ([]:List (Str×Value)).length}:=by
  refine dO (fun n s'=> ∃ i zs v0 H',Inv (cJ X x ys scope h3.objs.size {s2 with heap:=h3} H3 fp) [] (v0::cx fr Z) H' s'/\tn i s'.heap/\(∀ b∈fp,H' b=none)/\W i n zs H') ?_ m0
   ⟨0,[],none,H3,IY,T.keep _ _ _ st3 fun b hb o e=>hold b o e,fH3,w0⟩
  rintro n s5 ⟨i,zs,v0,H5,I5,st5,fr5,w5⟩
  obtain ⟨hacc,turn5⟩:=turn i n zs H5 w5
  rcases turn5 with ⟨stop,qn⟩ | ⟨go,hlen,step⟩
  ·refine thn (T.done (cJ X x ys scope h3.objs.size {s2 with heap:=h3} H3 fp) rfl rfl rfl hcalm i [] s5 _ H5 _ I5 (stat fr5) st5 stop) fun r s6 ⟨hr,I6⟩=>?_
   subst hr
   obtain ⟨m6,n6,_⟩:=I6.loc
   refine fin p h3.objs.size H5 s6 m6 (I3.call' I6.os I6.base I6.hok I6.bare fun b hb=>⟨(f2 b hb).2.2.2.1,(f2 b hb).2.1,(f2 b hb).2.2.2.2.1,(f2 b hb).2.2.2.2.2⟩) n6 I6.free (Nat.ne_of_gt hlt3) I3.sz (fun y c e=>Nat.ne_of_lt (hcell3 y c e)) (fun q hq=>?_) qn
   exact Nat.ne_of_lt (Heap.lt_size (I3.pin q hq).1)
  ·refine thn (T.item (cJ X x ys scope h3.objs.size {s2 with heap:=h3} H3 fp) rfl rfl rfl hcalm i [] s5 _ H5 _ I5 (stat fr5) st5 go) fun r s6 ⟨u,hr,h6⟩=>?_
   subst hr
   refine thn h6 fun _ s7 ⟨xv,H7,I7,r7,y7,st7,fr7⟩=>?_
   have I7':=I7.pinned (stat fr7) (T.obj _ _ st7)
   refine thn (pgx _ s7 _ H7 xv u (fun Z' H'=>Z'=some xv::cx fr Z/\H'=H7) I7' r7 ⟨rfl,rfl⟩) fun _ s8 ⟨Z8,H8,I8,e8,e8'⟩=>?_
   subst e8 e8'
   refine thn (pel _ s8 _ H8 _ I8 (step xv H8 y7)) fun yv s9 ⟨v9,H9,I9,r9,hp9,m',hm',w9⟩=>?_
   refine thn (bw _ s9 _ H9 (.ref p) [v9] (.ref p) [yv] (fun _ H'=>H'=upd H9 p (.lst (zs++[v9]))) I9 rfl (.cons r9 .nil) ⟨p,zs,v9,rfl,rfl,hp9,hlen,rfl⟩) fun _ s10 ⟨_,H10,I10,_,e10⟩=>?_
   subst e10
   refine ⟨m',hm',i+1,zs++[v9],some xv,_,I10.unpinned,T.keep _ _ _ st7 fun b hb o e=>(I10.pin (b,o) (List.mem_append_right _ (List.mem_append_right _ (aY hb e)))).1,fun b hb=>?_,w9⟩
   obtain ⟨o,e,d⟩:=T.obj _ _ st7 b hb
   exact (I10.pin (b,o) (List.mem_append_right _ (List.mem_append_right _ (aY hb e)))).2.1
 exact codeAny_compStart_list loop (T.self X.A 0 _ _ _ (T.keep _ _ _ st3 fun b hb o e=>hold b o e) loop)
theorem lO (hcalm:X.calm=true) (hi:PI X (.Name x px) iter wi) (hsc:X.env.scope=sc0) (hN:X.N=N0) (ok:iY sc0 N0 scope x ys fr)
  (hE: ∀ C s H ex,PE (cJ X x ys scope C s H ex) elt te) (hs: ∀ v,foldedSetIterable iter X.env v=pure v:=by intro _;rfl):
  PE X (.ListComp elt [⟨.Name x px,iter,[],0⟩] scope pos) (oH wi fr te):=by
 intro pins s Z H Q I h
 rw [eval_ListComp]
 refine ie (use:=none) (Qv:=EP X pins Z Q) (Q:=Q) hcalm hi hsc hN ok hE I h hs fun p C H' s' m I' hn h0 h1 h2 h3 h4 q=>?_
 refine ⟨m,hn,fun h' sb=>⟨.ref p,H',I'.turned (t':=s'.toks) (fun b o hb e=>sb.extBut b o hb e) h0 (Ne.symm (Ne.symm h1)) (.inr h2) h3 h4,rfl,q⟩⟩
theorem dG {i:Nat} {y:Str} {py spos:Pos} (hcalm:X.calm=true) (hnd:X.N.Nodup) (hiN:X.N[i]? =some y) (hy:Loc X.env.scope y) (hi:PI X (.Name x px) iter wi) (hsc:X.env.scope=sc0) (hN:X.N=N0) (ok:iY sc0 N0 scope x ys fr)
  (hE: ∀ C s H ex,PE (cJ X x ys scope C s H ex) elt te) (hsw:swapsWith (.ListComp elt [⟨.Name x px,iter,[],0⟩] scope pos) (some (.Name y py)) spos.line X.env=pure true:=by rfl)
  (hs: ∀ v,foldedSetIterable iter X.env v=pure v:=by intro _;rfl) (hf:X.fn y=true\/X.env.scope.names.lookup y=some .local:=by first | exact .inl rfl | exact .inr rfl | assumption):
  PS X (.Assign [.Name y py] (.ListComp elt [⟨.Name x px,iter,[],0⟩] scope pos) spos) (mw (oH wi fr te) (eK i)):=by
 intro pins s Z H D I h
 rw [exec_Assign_Name_used _ _ _ _ hsw]
 refine wpAny_bind (wpAny_standAt (wpAny_bind ?_))
 show wpAny _ X.A (do let _ <- comprehension (.ListComp elt [⟨.Name x px,iter,[],0⟩] scope pos) scope X.env _ (newList []) false (eval iter X.env) (some (assign (.Name y py) X.env))) _ _ s
 refine wpAny_bind (thn (ie (use:=some (assign (.Name y py) X.env)) (Qv:=fun _ s'=>SP X pins D .next s') (Q:=fun v H'=>D.nx (Z.set i (some v)) H') hcalm hi hsc hN ok hE I h hs fun p C H' s' m I' hn h0 h1 h2 h3 h4 q=>?_) fun _ s' hq=>wpAny_pure (wpAny_pure hq))
 show wpAny _ X.A (assign (.Name y py) X.env (.ref p)) _ _ s'
 refine wpAny_assign_Name (gT (v:=.ref p) I' hnd hiN hy rfl (fun s'' I'' ⟨a,sb,ha⟩=>?_) hf)
 have hCa:C≠a:=by
  rcases ha with e | e
  ·rw [e];exact h1
  ·exact (h3 y a e).symm
 refine ⟨m,hn.sameBut sb hCa,fun h' sb'=>⟨_,H',I''.turned (t':=s''.toks) (fun b o hb e=>sb'.extBut b o hb e) h0 h1 (.inr h2) h3 h4,q⟩⟩
theorem c8 {n:Nat} {J:It} {H1:Hp} {Q:VK} {R:Nat->V->Prop} (hn:n<=1000) (hgo: ∀ i H,i<n->J.go i H) (hstop: ∀ H,J.stop n H) (hy: ∀ i H v H',J.yld i H v H'->H'=H/\R i v)
  (Pv:Addr->Nat->List V->Hp->Prop) (h0: ∀ p,H1 p=none->Pv p 0 [] (upd H1 p (.lst []))) (hl: ∀ p i zs H,Pv p i zs H->H p=some (.lst zs)/\zs.length=i)
  (hs: ∀ p i zs H v (k:VK),H1 p=none->i<n->R i v->Pv p i zs H->(∀ u H2,H2 p=some (.lst zs)->Pv p (i+1) (zs++[u]) (upd H2 p (.lst (zs++[u])))->k u H2)->te (some v::cx fr Z) H k)
  (hd: ∀ p zs H,H1 p=none->Pv p n zs H->Q (.ref p) H):fV fr te Z J H1 Q:=by
 intro p hp
 refine ⟨fun i m zs H=>i<=n/\m=n-i/\Pv p i zs H,⟨n,Nat.zero_le _,by simp,h0 p hp⟩,?_⟩
 rintro i m zs H ⟨hi,hm,q⟩
 obtain ⟨hp',hz⟩:=hl p i zs H q
 refine ⟨hp',?_⟩
 by_cases e:i=n
 ·subst e
  exact .inl ⟨hstop H,hd p zs H hp q⟩
 ·have hlt:i<n:=by omega
  refine .inr ⟨hgo i H hlt,aG (by omega),fun v H' hv=>?_⟩
  obtain ⟨rfl,r⟩:=hy i H v H' hv
  refine hs p i zs H' v _ hp hlt r q fun u H2 a b=>?_
  exact ⟨a,n- (i+1),by omega,by omega,rfl,b⟩
theorem kY {lo:Int} {n:Nat}: ∀ i H,i<n->(Itr lo n).go i H:=fun _ _ h=>h
theorem gz {lo:Int} {n:Nat}: ∀ H,(Itr lo n).stop n H:=fun _=>Nat.le_refl n
theorem iN {lo:Int} {n:Nat}: ∀ i H v H',(Itr lo n).yld i H v H'->H'=H/\v=.int (lo+i):=fun _ _ _ _ h=>h
theorem qk {n:Nat} {R:Nat->V->Prop}: ∀ i H,i<n->(Itw n R).go i H:=fun _ _ h=>h
theorem jG {n:Nat} {R:Nat->V->Prop}: ∀ H,(Itw n R).stop n H:=fun _=>rfl
theorem lX {n:Nat} {R:Nat->V->Prop}: ∀ i H v H',(Itw n R).yld i H v H'->H'=H/\R i v:=fun _ _ _ _ h=>h
end
noncomputable def lU:Expr->Bool
 | .Starred _ _=>false
 | _=>true
theorem gL {e:Expr} {es:List Expr} {env:Env} (h:lU e=true):starEach (e::es) env=(false,eval e env)::starEach es env:=by
 cases e <;> first | rfl | cases h
theorem pac {X:Cx} {e:Expr} {es:List Expr} {te:TE} {t:TA} (ha:PE X e te) (hr:PA X es t) (h:lU e=true:=by rfl):PA X (e::es) (i8 te t):=aa ha hr (gL h)
noncomputable def lh:Const->Option V
 | .str x=>some (.str x)
 | .int i=>some (.int i)
 | .bool b=>some (.bl b)
 | .none=>some .non
 | _=>none
noncomputable def eP:List Expr->Option (List V)
 | []=>some []
 | .Constant c _ _::r=>(match lh c,eP r with | some v,some vs=>some (v::vs) | _,_=>none)
 | _::_=>none
theorem pE {X:Cx} {c:Const} {j:Nat} {pos:Pos} {v:V} (h:lh c=some v):PE X (.Constant c j pos) (tC v):=by
 cases c with
 | str x=>cases h;exact ao
 | int i=>cases h;exact ae
 | bool b=>cases h;exact dL
 | none=>cases h;exact kx
 | _=>cases h
theorem hJ {X:Cx}: ∀ {es:List Expr} {vs:List V},eP es=some vs->PA X es (fun _ H Q=>Q vs H)
 | [],vs,h=>by
  cases h
  exact ad
 | e::r,vs,h=>by
  cases e with
  | Constant c j pos=>
   simp only [eP]at h
   cases hc:lh c with
   | none=>rw [hc]at h;cases h
   | some v=>
    cases hr:eP r with
    | none=>rw [hc,hr]at h;cases h
    | some ws=>
     rw [hc,hr]at h
     cases h
     exact pac (pE hc) (hJ hr)
  | _=>cases h
theorem rf {X:Cx} {i:Nat} {x:Str} {es:List Expr} {vs:List V} {pos p pos':Pos} (hN:X.N.Nodup) (hi:X.N[i]? =some x) (hx:Loc X.env.scope x) (hf:X.fn x=true\/X.env.scope.names.lookup x=some .local) (h:eP es=some vs):
  PS X (.Assign [.Name x pos'] (.List es p) pos) (mw (uL (fun _ H Q=>Q vs H)) (eK i)):=
 av hN hi hx (bq (hJ h)) rfl hf
end L2
namespace HT
open PySem PyProof.Rows
section
variable {prog:Program} {w:World} {A:Around} {s:Shared} {E:Value->Shared->Prop}
theorem jV (n:Nat):Builtin.Slice.sliceAdjust none none (-1) (n:Int)=((n:Int) -1,-1):=by
 unfold Builtin.Slice.sliceAdjust
 simp
theorem jm (n:Nat):Builtin.Slice.slicePlaces ((n:Int) -1) (-1) (-1)=n:=by
 unfold Builtin.Slice.slicePlaces
 have h1: ¬ ((-1:Int) >0):=by omega
 simp only [h1,if_false]
 rw [show (- -1:Int)=1 by decide,Int.ediv_one]
 split <;> omega
theorem iR {sl:Addr} {t:Tok} {n:Nat} {Q:Int×Int×Nat->Shared->Prop} (hs:s.heap.IsSliceOf sl .none .none (.int (-1) t)) (h:Q ((n:Int) -1,-1,n) s):
  wpAny (model prog w) A (Builtin.Slice.sliceApplied (.ref sl) (pure (n:Int))) Q E s:=by
 obtain ⟨os,hos,hcs,hds⟩:=id hs
 unfold Builtin.Slice.sliceApplied Builtin.Slice.sliceFields
 refine wpAny_bind (wpAny_bind (wpAny_field hos hds (x:=.none) rfl (wpAny_bind (wpAny_field hos hds (x:=.none) rfl (wpAny_bind (wpAny_field hos hds (x:=.int (-1) t) rfl (wpAny_pure ?_)))))))
 refine wpAny_bind (cE (.int (-1) t) ?_)
 show wpAny _ _ (if ((-1:Int)==0)=true then _ else _) _ _ s
 rw [if_neg (by decide)]
 refine wpAny_bind (cE .none (wpAny_bind (cE .none (wpAny_bind (wpAny_pure ?_)))))
 show wpAny _ _ (match Builtin.Slice.sliceAdjust none none (-1) (n:Int)with | (lo,hi)=>pure (lo,(-1:Int),Builtin.Slice.slicePlaces lo hi (-1))) _ _ s
 rw [jV n]
 show wpAny _ _ (pure ((n:Int) -1,(-1:Int),Builtin.Slice.slicePlaces ((n:Int) -1) (-1) (-1))) _ _ s
 rw [jm]
 exact wpAny_pure h
theorem jL {α β:Type} {f g:α->Option β}: ∀ {l:List α},(∀ x∈l,f x=g x)->l.filterMap f=l.filterMap g
 | [],_=>rfl
 | x::r,h=>by rw [List.filterMap_cons,List.filterMap_cons,h x List.mem_cons_self,jL fun y hy=>h y (List.mem_cons_of_mem _ hy)]
theorem ng (xs:Array Value):((List.range xs.size).filterMap fun (m:Nat)=>xs[((xs.size:Int) -1+ (m:Int) * -1).toNat]?).toArray=xs.toList.reverse.toArray:=by
 congr 1
 rw [<- L2.rev_pick xs.toList,List.filterMap_map,Array.length_toList]
 refine jL fun m hm=>?_
 have:=List.mem_range.mp hm
 have e:((xs.size:Int) -1+ (m:Int) * -1).toNat=xs.size-1-m:=by omega
 rw [e]
 simp
theorem getItem_tuple_back {a sl:Addr} {items:Array Value} {t:Tok} {Q:Value->Shared->Prop} (ht:IsTup s.heap a items) (hs:s.heap.IsSliceOf sl .none .none (.int (-1) t))
  (h:Q (.ref s.heap.objs.size) {s with heap:=s.heap.push {cls:=.type "tuple",data:=.seq items.toList.reverse.toArray}})
  (hsz:items.size<=sizeLine):wpAny (model prog w) A (getItem (.ref a) (.ref sl)) Q E s:=by
 have hok:sizeOk (.seq items.toList.reverse.toArray):=by
  show items.toList.reverse.toArray.size<=sizeLine
  rw [List.size_toArray,List.length_reverse,Array.length_toList]
  exact hsz
 obtain ⟨os,hos,hcs,hds⟩:=id hs
 have hTs:s.TypeIs (.ref sl) "slice":=⟨os,hos,hcs⟩
 unfold getItem
 try with_reducible refine wpAny_holding ?_
 first | refine wpAny_bind (wpAny_pure ?_) | skip
 refine wpAny_bind (wpAny_sequenceKey ht.typeIs (by decide) ?_)
 refine wpAny_bind (wpAny_callSpecial?_slot (name:=Str.ofString "__getitem__") ht.typeIs PyProof.Rows.slot_tuple_getitem
  (wpAny_call_entry PyProof.Rows.slot_tuple_getitem ht.typeIs entry_tuple_getitem ?_ (args_tuple_getitem _ _)))
 show wpAny _ _ (Builtin.Tuple.tupleItemsOf (.ref a) >>= _) _ _ s
 refine wpAny_bind (tupleItemsOf_ ht ?_)
 refine wpAny_bind (wpAny_typeOf hTs ?_)
 rw [if_pos (by decide)]
 refine wpAny_bind (iR hs ?_)
 show wpAny _ _ (if (((items.size:Int) -1)==0&&(-1:Int)==1&&items.size==items.size)=true then _ else _) _ _ s
 rw [if_neg (by simp),ng]
 first
  | exact wpAny_bind (m:=Builtin.Tuple.tupleExact _) (wpAny_newObj_type (wpAny_pure ⟨_,rfl,wpAny_pure h⟩) hok)
  | exact wpAny_bind (m:=Builtin.Tuple.tupleExact _) (wpAny_newObj_type (wpAny_bind (wpAny_pure (wpAny_pure ⟨_,rfl,wpAny_pure h⟩))) hok)
  | exact wpAny_bind (wpAny_bind (m:=Builtin.Tuple.tupleExact _) (wpAny_newObj_type (wpAny_pure (wpAny_pure ⟨_,rfl,wpAny_pure h⟩)) hok))
  | exact wpAny_bind (wpAny_bind (m:=Builtin.Tuple.tupleExact _) (wpAny_newObj_type (wpAny_pure ⟨_,rfl,wpAny_pure h⟩) hok))
end
end HT
namespace L2
open PySem PySem.Spec PyProof.Rows
section
variable {X:Cx} {e k:Expr} {te tk:TE} {pos p2:Pos}
noncomputable def sV (K:PySem.W.Frag) (te tk:TE):TE:=fun Z H Q=>te Z H fun x H1=>tk Z H1 fun y H2=> ∃ a xs,x=.ref a/\y=.int (-1)/\SqT K H2 a xs/\ ∀ p,H2 p=none->Q (.ref p) (upd H2 p (.tup xs.reverse))
theorem ow {xs:List V} {us:List Value} (h:Vals xs us):Vals xs.reverse us.reverse:=by
 rw [<- rev_pick xs,<- rev_pick us,h.length]
 exact cf _ h
theorem pH (he:PE X e te) (hk:PE X k tk):PE X (.Subscript e (.Slice none none (some k) p2) pos) (sV X.K te tk):=by
 intro pins s Z H Q I h
 refine Subscript_ (thn (he pins s Z H _ I h) fun v s1 ⟨x,H1,I1,r1,q1⟩=>?_)
 refine wpAny_Slice ?_
 rw [evalPart_none,evalPart_some]
 refine wpAny_pure (wpAny_pure ?_)
 refine thn (hk pins s1 Z H1 _ I1 q1) fun vk s3 ⟨y,H3,I3,ry,a,xs,ex,ey,hq,q⟩=>?_
 subst ex ey
 obtain ⟨t,rfl⟩:=ry
 cases r1
 have I4:Inv X pins Z H3 {s3 with heap:=s3.heap.push {cls:=.type "slice",data:=.fields #[.none,.none,.int (-1) t]}}:=I3.kept (t':=s3.toks) fun b ob q=>Heap.get?_push_of_some _ q
 obtain ⟨its,r,ht,hz⟩:=I4.tuple hq
 show wpAny (model X.prog X.w) X.A (subscriptTail e (.Slice none none (some k) p2) (.ref a) (.ref s3.heap.objs.size)) (EP X pins Z Q) X.xe {s3 with heap:=s3.heap.push {cls:=.type "slice",data:=.fields #[.none,.none,.int (-1) t]}}
 refine tail_any (ops:=[.ref a,.ref s3.heap.objs.size]) ht.typeIs PyProof.Rows.slot_tuple_getitem.lookup (HT.getItem_tuple_back ht (Heap.IsSliceOf.new ..) ?_ (by rw [List.size_toArray,<- r.length];exact hz)) (by with_unfolding_all rfl)
 refine ⟨.ref (s3.heap.push {cls:=.type "slice",data:=.fields #[.none,.none,.int (-1) t]}).objs.size,_,I4.laid (t':=s3.toks) (o:=.tup xs.reverse) (fun b ob q=>Heap.get?_push_of_some _ q) (Nat.le_refl _) ?_,rfl,q _ I4.fresh⟩
 exact ⟨by rw [List.length_reverse];exact hz,_,ow r,IsTup.new _ _⟩
end
section
variable {X:Cx}
instance wq (ks:List Key) (kss:List (List Key)):Decidable (ks∈kss):=decidable_of_iff (kss.any (fun l=>decide (l=ks))=true) ⟨fun h=>by
  obtain ⟨x,hx,e⟩:=List.any_eq_true.mp h
  rw [<- of_decide_eq_true e]
  exact hx,fun h=>List.any_eq_true.mpr ⟨ks,h,decide_eq_true rfl⟩⟩
theorem fO (K:PySem.W.Frag) (t:String) (ht:t∈["NoneType","bool","int","str","list","tuple","dict"]):
  PySem.W.kitAny K (.type t) [.type "tuple",.type "list"]=some (t=="tuple"||t=="list"):=by
 simp only [List.mem_cons,List.not_mem_nil,or_false]at ht
 rcases ht with rfl | rfl | rfl | rfl | rfl | rfl | rfl <;> first | rfl | (with_unfolding_all rfl) | (with_unfolding_all decide)
inductive TL (H:Hp):V->Bool->Prop where
 | str (z:Str):TL H (.str z) false
 | int (i:Int):TL H (.int i) false
 | tup {a:Addr} {xs:List V}:H a=some (.tup xs)->TL H (.ref a) true
 | lst {a:Addr} {xs:List V}:H a=some (.lst xs)->TL H (.ref a) true
theorem oa:da X (.builtin "isinstance") (fun xs H Q=> ∃ x p b,xs=[x,.ref p]/\H p=some (.tup [.ty "tuple",.ty "list"])/\TL H x b/\Q (.bl b) H):=by
 intro pins s Z H xs us Q I r h
 obtain ⟨x,p,b,rfl,hp,ty,q⟩:=h
 obtain ⟨u,w',rfl,rx,rp⟩:=fR r
 cases (show w'=Value.ref p from rp)
 obtain ⟨_,its,rv,o,h1,h2,n,h3⟩:=(show ObjOk X.prog X.w H s.heap p (.tup [.ty "tuple",.ty "list"])from I.hok p _ hp)
 obtain ⟨u1,u2,rfl,r1,r2⟩:=fR rv
 cases (show u1=Value.type "tuple" from r1)
 cases (show u2=Value.type "list" from r2)
 obtain ⟨c,d,dt,sl⟩:=o
 simp only at h2 h3
 subst h2 h3
 have k: ∀ tk,EP X pins Z Q (.bool b) {s with toks:=tk}:=fun tk=>⟨.bl b,H,I.tok tk,rfl,q⟩
 cases ty with
 | int i=>
  obtain ⟨t,e⟩:=(show ∃ t,u=Value.int i t from rx)
  cases e
  exact PySem.W.kia_tup PySem.W.kitx_int I.kIn True.intro h1 (fO _ "int" (by simp)) (fun z=>nomatch z) k
 | str y=>
  obtain ⟨t,e⟩:=(show ∃ t,u=Value.str y t from rx)
  cases e
  exact PySem.W.kia_tup PySem.W.kitx_str I.kIn True.intro h1 (fO _ "str" (by simp)) (fun z=>nomatch z) k
 | @lst a xs ea=>
  cases (show u=Value.ref a from rx)
  obtain ⟨_,_,_,_,h4⟩:=(show ObjOk X.prog X.w H s.heap a (.lst xs)from I.hok a _ ea)
  exact PySem.W.kia_tup PySem.W.kitx_list I.kIn ⟨_,h4,rfl⟩ h1 (fO _ "list" (by simp)) (fun z=>nomatch z) k
 | @tup a xs ea=>
  cases (show u=Value.ref a from rx)
  obtain ⟨_,_,_,o2,h4,h5,_⟩:=(show ObjOk X.prog X.w H s.heap a (.tup xs)from I.hok a _ ea)
  exact PySem.W.kia_tup PySem.W.kitx_tuple I.kIn ⟨o2,h4,h5⟩ h1 (fO _ "tuple" (by simp)) (fun z=>nomatch z) k
end
end L2
namespace HT
open PySem PyProof.Rows
section
variable {prog:Program} {w:World} {A:Around} {s:Shared} {E:Value->Shared->Prop} {j t:Addr} {i:Nat} {items:Array Value}
theorem qA {x:Value} {Q:Value->Shared->Prop} (st:s.heap.IsTupleIter j t i) (ht:s.heap.IsTuple t items) (hx:items[i]? =some x)
  (q: ∀ h',h'.IsTupleIter j t (i+1)->Heap.SameBut j s.heap h'->Q x {s with heap:=h'}):wpAny (model prog w) A (Builtin.SmallTypes.nextOf (.ref j)) Q E s:=by
 have ty:=st.typeIs
 obtain ⟨o,ho,hc,hd⟩:=id st
 obtain ⟨ol,hol,_,nl,hdl⟩:=ht
 unfold Builtin.SmallTypes.nextOf
 refine wpAny_bind (wpAny_callSpecial?_slot (name:=Str.ofString "__next__") ty PySem.F.slot_tuple_iterator_next (wpAny_call_entry PySem.F.slot_tuple_iterator_next ty PySem.F.entry_tuple_iterator_next ?_ (PySem.F.args_tuple_iterator_next_1 _)))
 refine (show wpAny _ _ (field (.ref j) 0 >>= _) _ _ s from wpAny_bind (wpAny_field ho hd (x:=.ref t) rfl ?_))
 refine (show wpAny _ _ (if (Value.ref t==Value.none)=true then _ else _) _ _ s from ?_)
 rw [if_neg fun b0:(Value.ref t==Value.none)=true=>Bool.false_ne_true b0]
 refine (show wpAny _ _ (field (.ref j) 1 >>= _) _ _ s from wpAny_bind (wpAny_field ho hd (x:=.int i 0) rfl ?_))
 refine (show wpAny _ _ (seqItems? (.ref t) >>= _) _ _ s from wpAny_bind (wpAny_seqItems hol hdl ?_))
 simp only [Int.toNat_natCast,hx]
 refine wpAny_bind (wpAny_setField ho hd (by simp) (wpAny_pure ⟨x,rfl,wpAny_pure (q _ ⟨_,Heap.get?_update_self _ ho (Obj.isFreed_of_fields (Obj.data_mapFields hd _)),(Obj.cls_mapFields ..).trans hc,?_⟩ (Heap.SameBut.update ..))⟩))
 rw [Obj.data_mapFields hd];simp [rawInt]
theorem jN {Q:Value->Shared->Prop} (hh:A.handled=none) (st:s.heap.IsTupleIter j t i) (ht:s.heap.IsTuple t items) (hx:items[i]? =none)
  (q: ∀ h' e,Heap.ExtBut j s.heap h'->(∃ o,h'.get? e=some o/\o.cls=.type "StopIteration")->E (.ref e) {s with heap:=h'}):wpAny (model prog w) A (Builtin.SmallTypes.nextOf (.ref j)) Q E s:=by
 have ty:=st.typeIs
 obtain ⟨o,ho,hc,hd⟩:=id st
 obtain ⟨ol,hol,_,nl,hdl⟩:=ht
 unfold Builtin.SmallTypes.nextOf
 refine wpAny_bind (wpAny_callSpecial?_slot (name:=Str.ofString "__next__") ty PySem.F.slot_tuple_iterator_next (wpAny_call_entry PySem.F.slot_tuple_iterator_next ty PySem.F.entry_tuple_iterator_next ?_ (PySem.F.args_tuple_iterator_next_1 _)))
 refine (show wpAny _ _ (field (.ref j) 0 >>= _) _ _ s from wpAny_bind (wpAny_field ho hd (x:=.ref t) rfl ?_))
 refine (show wpAny _ _ (if (Value.ref t==Value.none)=true then _ else _) _ _ s from ?_)
 rw [if_neg fun b0:(Value.ref t==Value.none)=true=>Bool.false_ne_true b0]
 refine (show wpAny _ _ (field (.ref j) 1 >>= _) _ _ s from wpAny_bind (wpAny_field ho hd (x:=.int i 0) rfl ?_))
 refine (show wpAny _ _ (seqItems? (.ref t) >>= _) _ _ s from wpAny_bind (wpAny_seqItems hol hdl ?_))
 simp only [Int.toNat_natCast,hx]
 refine wpAny_bind (wpAny_rule (wpAny_bind (wpAny_setField ho hd (by simp) (show wpAny _ _ (newExc (.type "StopIteration") [] >>= _) _ _ _ from wpAny_bind ?_))))
 simp only [newExc,newTuple]
 refine wpAny_bind (wpAny_newObj_type (wpAny_bind (m:=firstArgMember _ _) (wpAny_of_eq (a:=Value.none) (by first | rfl | (simp only [firstArgMember];rfl)) (wpAny_newObj_type ?_ (by size_fits)))) (by size_fits))
 simp only [raiseNew]
 refine wpAny_bind (wpAny_handled ?_)
 rw [show A.in1.handled=none from hh]
 exact wpAny_bind (wpAny_pure (wpAny_throw (q _ _ (((Heap.SameBut.update ..).extBut.push _).push _) ⟨_,Heap.get?_push_size _ rfl,rfl⟩)))
noncomputable def SIter (c:Bool) (h:Heap) (j l:Addr) (i:Nat):Prop:=if c=true then h.IsTupleIter j l i else h.IsListIter j l i
noncomputable def SSeq (c:Bool) (h:Heap) (l:Addr) (items:Array Value):Prop:=if c=true then h.IsTuple l items else h.IsList l items
theorem SIter.obj {c:Bool} {h:Heap} {l:Addr} (x:SIter c h j l i): ∃ o,h.get? j=some o/\ ∀ v,o.data≠ .cell v:=by
 cases c with
 | true=>obtain ⟨o,e,_,d⟩:=(show h.IsTupleIter j l i from x);exact ⟨o,e,fun v z=>by rw [d]at z;cases z⟩
 | false=>obtain ⟨o,e,_,d⟩:=(show h.IsListIter j l i from x);exact ⟨o,e,fun v z=>by rw [d]at z;cases z⟩
theorem SIter.at {c:Bool} {h h':Heap} {l:Addr} (x:SIter c h j l i) (k: ∀ o,h.get? j=some o->h'.get? j=some o):SIter c h' j l i:=by
 cases c with
 | true=>obtain ⟨o,e,r⟩:=(show h.IsTupleIter j l i from x);exact (show h'.IsTupleIter j l i from ⟨o,k o e,r⟩)
 | false=>obtain ⟨o,e,r⟩:=(show h.IsListIter j l i from x);exact (show h'.IsListIter j l i from ⟨o,k o e,r⟩)
theorem SSeq.at {c:Bool} {h h':Heap} {l:Addr} (x:SSeq c h l items) (k: ∀ o,h.get? l=some o->h'.get? l=some o):SSeq c h' l items:=by
 cases c with
 | true=>obtain ⟨o,e,r⟩:=(show h.IsTuple l items from x);exact (show h'.IsTuple l items from ⟨o,k o e,r⟩)
 | false=>obtain ⟨o,e,r⟩:=(show h.IsList l items from x);exact (show h'.IsList l items from ⟨o,k o e,r⟩)
theorem draws_seq (c:Bool) (hh:A.handled=none) (j l:Addr) (hne:l≠j) (items:Array Value):
  Draws prog w A j [j,l] items.size (fun i v=>items[i]? =some v) (fun i h=>SIter c h j l i/\SSeq c h l items) where
 live:=fun _ _ st=>let ⟨o,e,_⟩:=st.1.obj;⟨o,e⟩
 frame:=fun _ _ _ st k=>⟨st.1.at fun o e=>k j (by simp) o e,st.2.at fun o e=>k l (by simp) o e⟩
 item:=fun i s Q E hi st hQ=>by
  have hx:items[i]? =some items[i]:=Array.getElem?_eq_getElem hi
  cases c with
  | true=>exact qA st.1 st.2 hx fun h' st' sb=>hQ _ h' s.toks hx ⟨st',st.2.at fun o e=>sb.extBut l o hne e⟩ sb
  | false=>exact wpAny_nextOf_list_item st.1 st.2 hx fun h' st' sb=>hQ _ h' s.toks hx ⟨st',st.2.at fun o e=>sb.extBut l o hne e⟩ sb
 done:=fun s Q E st hE=>by
  cases c with
  | true=>exact jN hh st.1 st.2 (by simp) hE
  | false=>exact wpAny_nextOf_list_end hh st.1 st.2 (by simp) hE
end
structure ZAp (z TI TO i1 i2:Addr) (f1 f2:List Addr):Prop where
 tz:TI≠z
 oz:TO≠z
 a1z:i1≠z
 a2z:i2≠z
 to:TI≠TO
 t1:TI≠i1
 t2:TI≠i2
 o1:TO≠i1
 o2:TO≠i2
 ii:i1≠i2
 z1:z∉f1
 z2:z∉f2
 p1:TO∉f1
 p2:TO∉f2
 q1:i2∉f1
 q2:i1∉f2
section
variable {prog:Program} {w:World} {A:Around} {s:Shared} {E:Value->Shared->Prop} {z TI TO i1 i2:Addr} {f1 f2:List Addr} {n1 n2 k:Nat} {P1 P2:Nat->Value->Prop} {S1 S2:Nat->Heap->Prop} {a b:Value}
theorem om {Q:Value->Shared->Prop} (D1:Draws prog w A i1 f1 n1 P1 S1) (D2:Draws prog w A i2 f2 n2 P2 S2) (D:ZAp z TI TO i1 i2 f1 f2)
  (hz:IsZip s.heap z TI TO .none) (hTI:IsPair s.heap TI (.ref i1) (.ref i2)) (hTO:IsPair s.heap TO a b) (st1:S1 k s.heap) (st2:S2 k s.heap) (k1:k<n1) (k2:k<n2)
  (q: ∀ x y h' tk,P1 k x->P2 k y->IsZip h' z TI TO (rawInt s.heap.objs.size)->IsPair h' TO x y->S1 (k+1) h'->S2 (k+1) h'->IsPair h' s.heap.objs.size x y->
   (∀ c o,c≠z->c≠TO->c≠i1->c≠i2->s.heap.get? c=some o->h'.get? c=some o)->Q (.ref s.heap.objs.size) {s with heap:=h',toks:=tk}):
  wpAny (model prog w) A (Builtin.«zip.__next__» ⟨[.ref z],[]⟩) (fun fin s'=> ∃ v,fin=.done (.ret v)/\Q v s') E s:=by
 refine (show wpAny _ _ (field (.ref z) 2 >>= _) _ _ _ from wpAny_bind (wpAny_field hz rfl (x:=.bool false) rfl ?_))
 refine (show wpAny _ _ (field (.ref z) 3 >>= _) _ _ _ from wpAny_bind (wpAny_field hz rfl (x:=.ref TI) rfl (wpAny_bind (wpAny_seqItems hTI rfl ?_))))
 refine (show wpAny _ _ (Builtin.SmallTypes.ownedTupleIsFree (.ref z) >>= _) _ _ _ from wpAny_bind ?_)
 unfold Builtin.SmallTypes.ownedTupleIsFree
 refine wpAny_bind (wpAny_field hz rfl (x:=.none) rfl (wpAny_pure ?_))
 simp only [if_true]
 refine wpAny_bind (wpAny_rule (wpAny_bind (wpAny_field hz rfl (x:=.ref TO) rfl (wpAny_bind (wpAny_setField_rec hz (by simp) fun g1 zz1 sb1=>?_)))))
 replace zz1:IsZip g1 z TI TO .ellipsis:=zz1
 refine wpAny_bind ?_
 simp only [List.zipIdx_cons,List.zipIdx_nil,List.forIn_cons,List.forIn_nil]
 refine wpAny_bind (wpAny_bind (wpAny_onRaise (show wpAny _ _ (Builtin.SmallTypes.nextOf (.ref i1) >>= _) _ _ _ from ?_)))
 refine wpAny_bind (D1.item k _ _ _ k1 (D1.frame k s.heap g1 st1 fun c hc o e=>sb1.extBut c o (fun x=>D.z1 (x▸hc)) e) fun x g2 tk2 hx s1' sb2=>wpAny_pure ?_)
 have to2:IsPair g2 TO a b:=sb2.extBut _ _ D.o1 (sb1.extBut _ _ D.oz hTO)
 refine wpAny_bind (wpAny_seqItems to2 rfl (wpAny_bind (wpAny_updateSeq_pair to2 fun g3 to3 sb3=>?_)))
 replace to3:IsPair g3 TO x b:=to3
 refine wpAny_bind (wpAny_letGo (wpAny_pure ?_))
 refine wpAny_bind (wpAny_bind (wpAny_onRaise (show wpAny _ _ (Builtin.SmallTypes.nextOf (.ref i2) >>= _) _ _ _ from ?_)))
 refine wpAny_bind (D2.item k _ _ _ k2 (D2.frame k s.heap g3 st2 fun c hc o e=>?_) fun y g4 tk4 hy s2' sb4=>wpAny_pure ?_)
 ·exact sb3.extBut c o (fun x=>D.p2 (x▸hc)) (sb2.extBut c o (fun x=>D.q2 (x▸hc)) (sb1.extBut c o (fun x=>D.z2 (x▸hc)) e))
 have to4:IsPair g4 TO x b:=sb4.extBut _ _ D.o2 to3
 refine wpAny_bind (wpAny_seqItems to4 rfl (wpAny_bind (wpAny_updateSeq_pair to4 fun g5 to5 sb5=>?_)))
 replace to5:IsPair g5 TO x y:=to5
 refine wpAny_bind (wpAny_letGo (wpAny_pure (wpAny_pure ?_)))
 refine wpAny_bind (wpAny_seqItems to5 rfl (wpAny_bind (wpAny_newTuple ?_)))
 have sz:g5.objs.size=s.heap.objs.size:=by rw [sb5.1,sb4.1,sb3.1,sb2.1,sb1.1]
 have zz5:IsZip g5 z TI TO .ellipsis:=sb5.extBut _ _ D.oz.symm (sb4.extBut _ _ D.a2z.symm (sb3.extBut _ _ D.oz.symm (sb2.extBut _ _ D.a1z.symm zz1)))
 have kk5: ∀ c o,c≠z->c≠TO->c≠i1->c≠i2->s.heap.get? c=some o->g5.get? c=some o:=fun c o c1 c2 c3 c4 e=>
  sb5.extBut c o c2 (sb4.extBut c o c4 (sb3.extBut c o c2 (sb2.extBut c o c3 (sb1.extBut c o c1 e))))
 have zlt:z<g5.objs.size:=Heap.lt_size zz5
 refine (show wpAny _ _ (Builtin.SmallTypes.ownedTupleHandOut (.ref z) (.ref g5.objs.size) >>= _) _ _ _ from wpAny_bind ?_)
 unfold Builtin.SmallTypes.ownedTupleHandOut
 have zz6:IsZip (g5.push {cls:=.type "tuple",data:=.seq #[x,y]}) z TI TO .ellipsis:=Heap.get?_push_of_some _ zz5
 refine wpAny_bind (wpAny_setField_rec zz6 (by simp) fun g7 zz7 sb7=>?_)
 replace zz7:IsZip g7 z TI TO (rawInt g5.objs.size):=zz7
 refine wpAny_setField_rec zz7 (by simp) fun g8 zz8 sb8=>?_
 replace zz8:IsZip g8 z TI TO (rawInt g5.objs.size):=zz8
 have up: ∀ c o,c≠z->g5.get? c=some o->g8.get? c=some o:=fun c o c1 e=>sb8.extBut c o c1 (sb7.extBut c o c1 (Heap.get?_push_of_some _ e))
 have tt8:IsPair g8 g5.objs.size x y:=sb8.extBut _ _ (Nat.ne_of_gt zlt) (sb7.extBut _ _ (Nat.ne_of_gt zlt) (Heap.get?_push_size _ rfl))
 rw [sz]at zz8 tt8
 refine wpAny_pure ⟨_,rfl,(show Q (.ref g5.objs.size) _ from ?_)⟩
 rw [sz]
 refine q x y g8 _ hx hy zz8 (up _ _ D.oz to5) ?_ ?_ tt8 fun c o c1 c2 c3 c4 e=>up c o c1 (kk5 c o c1 c2 c3 c4 e)
 ·refine D1.frame (k+1) g2 g8 s1' fun c hc o e=>up c o (fun x=>D.z1 (x▸hc)) (sb5.extBut c o (fun x=>D.p1 (x▸hc)) (sb4.extBut c o (fun x=>D.q1 (x▸hc)) (sb3.extBut c o (fun x=>D.p1 (x▸hc)) e)))
 ·exact D2.frame (k+1) g4 g8 s2' fun c hc o e=>up c o (fun x=>D.z2 (x▸hc)) (sb5.extBut c o (fun x=>D.p2 (x▸hc)) e)
theorem iZ {Q:Fin->Shared->Prop} (D1:Draws prog w A i1 f1 n1 P1 S1) (D:ZAp z TI TO i1 i2 f1 f2)
  (hz:IsZip s.heap z TI TO .none) (hTI:IsPair s.heap TI (.ref i1) (.ref i2)) (hTO:IsPair s.heap TO a b) (st1:S1 n1 s.heap)
  (q: ∀ h' e,(∀ c o,c≠z->c≠TO->c≠i1->c≠i2->s.heap.get? c=some o->h'.get? c=some o)->(∃ o,h'.get? e=some o/\o.cls=.type "StopIteration")->E (.ref e) {s with heap:=h'}):
  wpAny (model prog w) A (Builtin.«zip.__next__» ⟨[.ref z],[]⟩) Q E s:=by
 refine (show wpAny _ _ (field (.ref z) 2 >>= _) _ _ _ from wpAny_bind (wpAny_field hz rfl (x:=.bool false) rfl ?_))
 refine (show wpAny _ _ (field (.ref z) 3 >>= _) _ _ _ from wpAny_bind (wpAny_field hz rfl (x:=.ref TI) rfl (wpAny_bind (wpAny_seqItems hTI rfl ?_))))
 refine (show wpAny _ _ (Builtin.SmallTypes.ownedTupleIsFree (.ref z) >>= _) _ _ _ from wpAny_bind ?_)
 unfold Builtin.SmallTypes.ownedTupleIsFree
 refine wpAny_bind (wpAny_field hz rfl (x:=.none) rfl (wpAny_pure ?_))
 simp only [if_true]
 refine wpAny_bind (wpAny_rule (wpAny_bind (wpAny_field hz rfl (x:=.ref TO) rfl (wpAny_bind (wpAny_setField_rec hz (by simp) fun g1 zz1 sb1=>?_)))))
 replace zz1:IsZip g1 z TI TO .ellipsis:=zz1
 refine wpAny_bind ?_
 simp only [List.zipIdx_cons,List.zipIdx_nil,List.forIn_cons,List.forIn_nil]
 refine wpAny_bind (wpAny_bind (wpAny_onRaise (show wpAny _ _ (Builtin.SmallTypes.nextOf (.ref i1) >>= _) _ _ _ from ?_)))
 refine wpAny_bind (D1.done _ _ _ (D1.frame n1 s.heap g1 st1 fun c hc o e=>sb1.extBut c o (fun x=>D.z1 (x▸hc)) e) fun g2 e eb2 he=>?_)
 obtain ⟨oe,hoe,hce⟩:=he
 have zz2:IsZip g2 z TI TO .ellipsis:=eb2 _ _ D.a1z.symm zz1
 have ez:e≠z:=fun x=>by subst x;rw [zz2]at hoe;cases hoe;simp at hce
 exact wpAny_setField_rec zz2 (by simp) fun g3 _ sb3=>q g3 e (fun c o c1 _ c3 _ x=>sb3.extBut c o c1 (eb2 c o c3 (sb1.extBut c o c1 x))) ⟨oe,sb3.extBut _ _ ez hoe,hce⟩
theorem next_zip {Q:Option Value->Shared->Prop} (D1:Draws prog w A.in1 i1 f1 n1 P1 S1) (D2:Draws prog w A.in1 i2 f2 n2 P2 S2) (D:ZAp z TI TO i1 i2 f1 f2)
  (hz:IsZip s.heap z TI TO .none) (hTI:IsPair s.heap TI (.ref i1) (.ref i2)) (hTO:IsPair s.heap TO a b) (st1:S1 k s.heap) (st2:S2 k s.heap) (k1:k<n1) (k2:k<n2)
  (q: ∀ x y h' tk,P1 k x->P2 k y->IsZip h' z TI TO (rawInt s.heap.objs.size)->IsPair h' TO x y->S1 (k+1) h'->S2 (k+1) h'->IsPair h' s.heap.objs.size x y->
   (∀ c o,c≠z->c≠TO->c≠i1->c≠i2->s.heap.get? c=some o->h'.get? c=some o)->Q (some (.ref s.heap.objs.size)) {s with heap:=h',toks:=tk}):
  wpAny (model prog w) A (pyNext (.ref z)) Q E s:=by
 have ty:s.TypeIs (.ref z) "zip":=⟨_,hz,rfl⟩
 unfold pyNext
 exact wpAny_bind (wpAny_attempt (wpAny_callSpecial?_slot (name:=Str.ofString "__next__") ty PySem.F.slot_zip_next (wpAny_call_entry PySem.F.slot_zip_next ty PySem.F.entry_zip_next
  (om D1 D2 D hz hTI hTO st1 st2 k1 k2 fun x y h' tk a0 b0 a1 a2 a3 a4 a5 a6=>wpAny_pure (q x y h' tk a0 b0 a1 a2 a3 a4 a5 a6)) (PySem.F.args_zip_next_1 _))))
theorem end_zip {Q:Option Value->Shared->Prop} (D1:Draws prog w A.in1 i1 f1 n1 P1 S1) (D:ZAp z TI TO i1 i2 f1 f2)
  (hz:IsZip s.heap z TI TO .none) (hTI:IsPair s.heap TI (.ref i1) (.ref i2)) (hTO:IsPair s.heap TO a b) (st1:S1 n1 s.heap)
  (q: ∀ h',(∀ c o,c≠z->c≠TO->c≠i1->c≠i2->s.heap.get? c=some o->h'.get? c=some o)->Q none {s with heap:=h'}):wpAny (model prog w) A (pyNext (.ref z)) Q E s:=by
 have ty:s.TypeIs (.ref z) "zip":=⟨_,hz,rfl⟩
 unfold pyNext
 refine wpAny_bind (wpAny_attempt (wpAny_callSpecial?_slot (name:=Str.ofString "__next__") ty PySem.F.slot_zip_next (wpAny_call_entry PySem.F.slot_zip_next ty PySem.F.entry_zip_next
  (iZ D1 D hz hTI hTO st1 fun h' e kk he=>?_) (PySem.F.args_zip_next_1 _))))
 obtain ⟨o,ho,hc⟩:=he
 exact wpAny_bind (wpAny_isInstance (T:="StopIteration") (b:=true) ⟨o,ho,hc⟩ isSubtype_stop (wpAny_pure (q _ kk)))
end
section
variable {prog:Program} {w:World} {A:Around} {s:Shared} {E:Value->Shared->Prop}
noncomputable def tIt (l:Addr):Obj:={cls:=.type "tuple_iterator",data:=.fields #[.ref l,.int 0 0]}
noncomputable def zG2 (h:Heap) (l1 l2:Addr):Heap:=(h.push (tIt l1)).push (tIt l2)
noncomputable def zG3 (h:Heap) (l1 l2:Addr):Heap:=(zG2 h l1 l2).push {cls:=.type "tuple",data:=.seq #[.ref h.objs.size,.ref (h.push (tIt l1)).objs.size]}
noncomputable def zG4 (h:Heap) (l1 l2:Addr):Heap:=(zG3 h l1 l2).push {cls:=.type "tuple",data:=.seq #[.none,.none]}
noncomputable def zG5 (h:Heap) (l1 l2:Addr):Heap:=(zG4 h l1 l2).push {cls:=.type "zip",data:=.fields #[.none,.bool false,.bool false,.ref (zG2 h l1 l2).objs.size,.ref (zG3 h l1 l2).objs.size]}
theorem oi (l1 l2:Addr) (xs ys:Array Value):Meets (Builtin.«zip.__new__» ⟨[.type "zip",.ref l1,.ref l2],[]⟩)
  (fun _ R s=>s.heap.IsTuple l1 xs/\s.heap.IsTuple l2 ys/\R (.ok (.ret (.ref (zG4 s.heap l1 l2).objs.size))) {s with heap:=zG5 s.heap l1 l2}):=
 .of_wp fun prog w A R s h=>by
  obtain ⟨hp,g,d,tk,os⟩:=s
  obtain ⟨a1,a2,h⟩:=h
  have sub:=sub_zip
  have b1:Heap.IsTuple (Shared.heap ⟨hp,g,d,tk,os⟩) l1 xs:=a1
  have b2:Heap.IsTuple (Shared.heap ⟨hp.push {cls:=.type "tuple_iterator",data:=.fields #[.ref l1,.int 0 0]},g,d,tk,os⟩) l2 ys:=Heap.IsTuple.push a2 _
  wp_walk using wpAny_pyIter_tuple b1,wpAny_pyIter_tuple b2
  exact ⟨_,rfl,h⟩
theorem call_zipS {c:Bool} {l1 l2:Addr} {xs ys:Array Value} {Q:Value->Shared->Prop} (a1:SSeq c s.heap l1 xs) (a2:SSeq c s.heap l2 ys)
  (q: ∀ h',IsZip h' (s.heap.objs.size+4) (s.heap.objs.size+2) (s.heap.objs.size+3) .none->IsPair h' (s.heap.objs.size+2) (.ref s.heap.objs.size) (.ref (s.heap.objs.size+1))->
   IsPair h' (s.heap.objs.size+3) .none .none->SIter c h' s.heap.objs.size l1 0->SIter c h' (s.heap.objs.size+1) l2 0->
   (∀ b o,s.heap.get? b=some o->h'.get? b=some o)->Q (.ref (s.heap.objs.size+4)) {s with heap:=h'}):wpAny (model prog w) A (call (.type "zip") [.ref l1,.ref l2]) Q E s:=by
 cases c with
 | false=>exact call_zip_2 a1 a2 fun h' b1 b2 b3 b4 b5 _ b7=>q h' b1 b2 b3 b4 b5 b7
 | true=>
  refine callType_new PySem.F.called_zip (by decide) (PySem.F.typeCall_zip_2 _ _) (PySem.F.newCall_zip_2 _ _) (fun obj=>PySem.F.args_object_init_3 obj _ _) PySem.F.entry_zip_new (oi l1 l2 xs ys) ⟨a1,a2,?_⟩
  have z1:(s.heap.push (tIt l1)).objs.size=s.heap.objs.size+1:=Heap.size_push ..
  have z2:(zG2 s.heap l1 l2).objs.size=s.heap.objs.size+2:=by unfold zG2;rw [Heap.size_push,z1]
  have z3:(zG3 s.heap l1 l2).objs.size=s.heap.objs.size+3:=by unfold zG3;rw [Heap.size_push,z2]
  have z4:(zG4 s.heap l1 l2).objs.size=s.heap.objs.size+4:=by unfold zG4;rw [Heap.size_push,z3]
  have g5:(zG5 s.heap l1 l2).get? (zG4 s.heap l1 l2).objs.size=some {cls:=.type "zip",data:=.fields #[.none,.bool false,.bool false,.ref (zG2 s.heap l1 l2).objs.size,.ref (zG3 s.heap l1 l2).objs.size]}:=Heap.get?_push_size _ rfl
  have g4:(zG5 s.heap l1 l2).get? (zG3 s.heap l1 l2).objs.size=some {cls:=.type "tuple",data:=.seq #[.none,.none]}:=Heap.get?_push_of_some _ (Heap.get?_push_size _ rfl)
  have g3:(zG5 s.heap l1 l2).get? (zG2 s.heap l1 l2).objs.size=some {cls:=.type "tuple",data:=.seq #[.ref s.heap.objs.size,.ref (s.heap.push (tIt l1)).objs.size]}:=Heap.get?_push_of_some _ (Heap.get?_push_of_some _ (Heap.get?_push_size _ rfl))
  have g2:(zG5 s.heap l1 l2).get? (s.heap.push (tIt l1)).objs.size=some (tIt l2):=Heap.get?_push_of_some _ (Heap.get?_push_of_some _ (Heap.get?_push_of_some _ (Heap.get?_push_size _ rfl)))
  have g1:(zG5 s.heap l1 l2).get? s.heap.objs.size=some (tIt l1):=Heap.get?_push_of_some _ (Heap.get?_push_of_some _ (Heap.get?_push_of_some _ (Heap.get?_push_of_some _ (Heap.get?_push_size _ rfl))))
  show _/\_
  rw [z2,z3,z4]at g5
  rw [z1,z2]at g3
  rw [z3]at g4
  rw [z1]at g2
  rw [z4]
  exact ⟨⟨_,g5,rfl⟩,q _ g5 g3 g4 (show Heap.IsTupleIter _ _ _ _ from ⟨_,g1,rfl,rfl⟩) (show Heap.IsTupleIter _ _ _ _ from ⟨_,g2,rfl,rfl⟩) fun b o x=>
   Heap.get?_push_of_some _ (Heap.get?_push_of_some _ (Heap.get?_push_of_some _ (Heap.get?_push_of_some _ (Heap.get?_push_of_some _ x))))⟩
end
end HT
namespace L2
open PySem PySem.Spec PyProof.Rows
noncomputable def df (c:Bool) (xs:List V):HO:=if c=true then .tup xs else .lst xs
theorem je {c:Bool} {xs ys:List V} (h:df c xs=df c ys):xs=ys:=by
 cases c with
 | true=>exact HO.tup.inj h
 | false=>exact HO.lst.inj h
theorem Inv.seqS {X:Cx} {pins:List (Addr×Obj)} {Z:St} {H:Hp} {s:Shared} {c:Bool} {a:Addr} {xs:List V} (I:Inv X pins Z H s) (h:H a=some (df c xs)): ∃ its:List Value,Vals xs its/\HT.SSeq c s.heap a its.toArray/\xs.length<=sizeLine:=by
 cases c with
 | true=>obtain ⟨its,r,p,z⟩:=I.tuple (SqT.of (K:=X.K) h);exact ⟨its,r,p,z⟩
 | false=>obtain ⟨its,r,p,z⟩:=I.list (SqL.of (K:=X.K) h);exact ⟨its,r,p.isList,z⟩
noncomputable def Itz (c:Bool) (l1 l2:Addr):It:=
 ⟨fun i H=> ∃ xs ys x y,H l1=some (df c xs)/\H l2=some (df c ys)/\xs[i]? =some x/\ys[i]? =some y,
  fun i H v H'=> ∃ T x y,H T=none/\v=.ref T/\H'=upd H T (.tup [x,y])/\ ∀ xs ys,H l1=some (df c xs)->H l2=some (df c ys)->xs[i]? =some x/\ys[i]? =some y,
  fun i H=> ∃ xs ys,H l1=some (df c xs)/\H l2=some (df c ys)/\xs.length=i/\ys.length=i⟩
noncomputable def ZAt (c:Bool) (z TI TO i1 i2 l1 l2:Addr) (i:Nat) (h:Heap):Prop:=IsZip h z TI TO .none/\IsPair h TI (.ref i1) (.ref i2)/\(∃ a b,IsPair h TO a b)/\HT.SIter c h i1 l1 i/\HT.SIter c h i2 l2 i
theorem fp5 {z TI TO i1 i2 b:Addr} (h:b∈[z,TI,TO,i1,i2]):b=z\/b=TI\/b=TO\/b=i1\/b=i2:=by simpa using h
theorem oB {P:Program} {w:World} {K:PySem.W.Frag} {es:List Expr} {kk:Nat} {tpos:Pos} (c:Bool) (z TI TO i1 i2 l1 l2:Addr) (nd:[z,TI,TO,i1,i2].Nodup):
  iU P w K (.Tuple es kk tpos) (Itz c l1 l2) [z,TI,TO,i1,i2] z (ZAt c z TI TO i1 i2 l1 l2):=by
 simp only [List.nodup_cons,List.mem_cons,List.not_mem_nil,or_false,not_or,List.nodup_nil,and_true]at nd
 obtain ⟨⟨n1,n2,n3,n4⟩,⟨n5,n6,n7⟩,⟨n8,n9⟩,n10,_⟩:=nd
 have ap: ∀ {X:Cx} {pins:List (Addr×Obj)} {H:Hp} {xs ys:List V},(∀ b∈[z,TI,TO,i1,i2],eS X pins H b)->H l1=some (df c xs)->H l2=some (df c ys)->
   HT.ZAp z TI TO i1 i2 [i1,l1] [i2,l2]/\l1≠i1/\l2≠i2:=by
  intro X pins H xs ys hf h1 h2
  have a: ∀ b∈[z,TI,TO,i1,i2],b≠l1/\b≠l2:=fun b hb=>⟨(aj h1 (hf b hb).1).symm,(aj h2 (hf b hb).1).symm⟩
  have az:=a z (by simp)
  have aO:=a TO (by simp)
  have a1:=a i1 (by simp)
  have a2:=a i2 (by simp)
  refine ⟨⟨Ne.symm n1,Ne.symm n2,Ne.symm n3,Ne.symm n4,n5,n6,n7,n8,n9,n10,?_,?_,?_,?_,?_,?_⟩,Ne.symm a1.1,Ne.symm a2.2⟩ <;> simp only [List.mem_cons,List.not_mem_nil,or_false,not_or]
  ·exact ⟨n3,az.1⟩
  ·exact ⟨n4,az.2⟩
  ·exact ⟨n8,aO.1⟩
  ·exact ⟨n9,aO.2⟩
  ·exact ⟨Ne.symm n10,a2.1⟩
  ·exact ⟨n10,a1.2⟩
 refine ⟨by simp,fun i h st b hb=>?_,fun i h h' st k=>?_,?_,?_,fun _ _ _ _ _ st h=>wpAny_pyIter_zip st.1 h⟩
 ·obtain ⟨h1,h2,⟨a,b',h3⟩,h4,h5⟩:=st
  rcases fp5 hb with rfl | rfl | rfl | rfl | rfl
  ·exact ⟨_,h1,fun v e=>nomatch e⟩
  ·exact ⟨_,h2,fun v e=>nomatch e⟩
  ·exact ⟨_,h3,fun v e=>nomatch e⟩
  ·exact h4.obj
  ·exact h5.obj
 ·obtain ⟨h1,h2,⟨a,b',h3⟩,h4,h5⟩:=st
  exact ⟨k z (by simp) _ h1,k TI (by simp) _ h2,⟨a,b',k TO (by simp) _ h3⟩,h4.at fun o e=>k i1 (by simp) o e,h5.at fun o e=>k i2 (by simp) o e⟩
 ·intro X hP hw hK hc i pins s Z H E I hf st hg
  subst hP hw hK
  obtain ⟨xs,ys,x,y,hx,hy,ex,ey⟩:=hg
  obtain ⟨its1,r1,q1,_⟩:=I.seqS hx
  obtain ⟨its2,r2,q2,_⟩:=I.seqS hy
  obtain ⟨u,hu,ru⟩:=r1.get ex
  obtain ⟨v,hv,rv⟩:=r2.get ey
  obtain ⟨z0,t0,⟨a,b,o0⟩,s1,s2⟩:=st
  obtain ⟨D,e1,e2⟩:=ap hf hx hy
  refine HT.next_zip (HT.draws_seq (A:=X.A.in1) c (I.ok.hd hc) i1 l1 e1 its1.toArray) (HT.draws_seq (A:=X.A.in1) c (I.ok.hd hc) i2 l2 e2 its2.toArray) D z0 t0 o0 ⟨s1,q1⟩ ⟨s2,q2⟩
   (by rw [List.size_toArray];exact (List.getElem?_eq_some_iff.mp hu).1) (by rw [List.size_toArray];exact (List.getElem?_eq_some_iff.mp hv).1) fun x' y' h' tk px py z1 o1 t1 t2 pr kk=>?_
  have ex':x'=u:=by
   have p1:its1[i]? =some x':=by simpa using px
   rw [hu]at p1;exact (Option.some.inj p1).symm
  have ey':y'=v:=by
   have p1:its2[i]? =some y':=by simpa using py
   rw [hv]at p1;exact (Option.some.inj p1).symm
  subst ex' ey'
  refine ⟨_,rfl,wpAny_letOwnedTupleGo_zip z1 fun h'' z2 sb=>?_⟩
  have lt: ∀ {b:Addr} {ob:Obj},s.heap.get? b=some ob->b≠s.heap.objs.size:=fun e=>Nat.ne_of_lt (Heap.lt_size e)
  have fT:H s.heap.objs.size=none:=I.hok.fresh (Nat.le_refl _)
  have keep: ∀ b ob,b∉[z,TO,i1,i2]->s.heap.get? b=some ob->h''.get? b=some ob:=fun b ob hb e=>by
   simp only [List.mem_cons,List.not_mem_nil,or_false,not_or]at hb
   exact sb.extBut b ob hb.1 (kk b ob hb.1 hb.2.1 hb.2.2.1 hb.2.2.2 e)
  have sub: ∀ b,b∈[z,TO,i1,i2]->b∈[z,TI,TO,i1,i2]:=fun b hb=>by
   simp only [List.mem_cons,List.not_mem_nil,or_false]at hb ⊢
   rcases hb with h | h | h | h
   ·exact .inl h
   ·exact .inr (.inr (.inl h))
   ·exact .inr (.inr (.inr (.inl h)))
   ·exact .inr (.inr (.inr (.inr h)))
  have trk: ∀ b uo,H b=some uo->b∉[z,TO,i1,i2]:=fun b uo e hb=>by rw [(hf b (sub b hb)).1]at e;cases e
  have ptT:IsPair h'' s.heap.objs.size x' y':=sb.extBut _ _ (Ne.symm (lt z0)) pr
  have I2:Inv X pins Z (upd H s.heap.objs.size (.tup [x,y])) {s with heap:=h'',toks:=tk}:=by
   refine I.step (g':=s.gens) (d':=s.drawn) (ch:=[z,TO,i1,i2]) (fun b hb=>?_) (fun b ob _ _ hb e _=>keep b ob hb e) (fun b ob _ _ hb e _=>⟨ob.slots,keep b ob hb e⟩) (fun b ob hb e n=>by rw [ah (lt e)];exact n)
    (fun b ob hb e=>⟨ob,keep b ob hb e⟩) (fun b zs e=>by rw [ah (aj e fT)];exact e) (fun b ob uo e=>by rw [ah (aj e fT)];exact e) (fun b ps e=>⟨#[],by rw [ah (aj e fT),e];simp⟩) (fun m hm=>?_) (fun b uo e=>?_) I.bare
   ·obtain ⟨_,f1,_,f3,f4,f5⟩:=hf b (sub b hb)
    exact ⟨f3,f1,f4,f5⟩
   ·obtain ⟨ob,es',ep,ho,r⟩:=hm
    exact ⟨ob,es',ep,keep _ ob (fun hb=>(hf _ (sub _ hb)).2.1 rfl) ho,r⟩
   ·by_cases hb:b=s.heap.objs.size
    ·subst hb
     rw [ac]at e
     cases e
     exact ⟨by show 2<=sizeLine;decide,[x',y'],.cons ru (.cons rv .nil),_,ptT,rfl,_,rfl⟩
    ·rw [ah hb]at e
     refine (I.hok b uo e).stay (fun c' v' hc' q=>keep c' v' ?_ q) (fun c' q=>by rw [ah (aj q fT)];exact q) fun c' zs q=>by rw [ah (aj q fT)];exact q
     rcases hc' with h | h
     ·rw [h];exact trk b uo e
     ·exact trk c' _ h
  refine ⟨.ref s.heap.objs.size,_,I2,rfl,⟨_,x,y,fT,rfl,rfl,fun xs' ys' h1 h2=>?_⟩,⟨z2,sb.extBut _ _ (Ne.symm n1) (kk _ _ (Ne.symm n1) n5 n6 n7 t0),⟨_,_,sb.extBut _ _ (Ne.symm n2) o1⟩,t1.1.at fun o e=>sb.extBut _ o (Ne.symm n3) e,t2.1.at fun o e=>sb.extBut _ o (Ne.symm n4) e⟩,fun b hb=>?_⟩
  ·rw [hx]at h1
   rw [hy]at h2
   rw [<- je (Option.some.inj h1),<- je (Option.some.inj h2)]
   exact ⟨ex,ey⟩
  ·have hb': ∃ ob,s.heap.get? b=some ob:=by
    rcases fp5 hb with rfl | rfl | rfl | rfl | rfl
    ·exact ⟨_,z0⟩
    ·exact ⟨_,t0⟩
    ·exact ⟨_,o0⟩
    ·obtain ⟨ob,e,_⟩:=s1.obj;exact ⟨ob,e⟩
    ·obtain ⟨ob,e,_⟩:=s2.obj;exact ⟨ob,e⟩
   obtain ⟨ob,e⟩:=hb'
   rw [ah (lt e)]
   exact (hf b hb).1
 ·intro X hP hw hK hc i pins s Z H E I hf st hg
  subst hP hw hK
  obtain ⟨xs,ys,hx,hy,l,l'⟩:=hg
  obtain ⟨its1,r1,q1,_⟩:=I.seqS hx
  obtain ⟨z0,t0,⟨a,b,o0⟩,s1,s2⟩:=st
  obtain ⟨D,e1,e2⟩:=ap hf hx hy
  have hi:i=its1.toArray.size:=by rw [List.size_toArray,<- l];exact r1.length
  rw [hi]at s1
  refine HT.end_zip (HT.draws_seq (A:=X.A.in1) c (I.ok.hd hc) i1 l1 e1 its1.toArray) D z0 t0 o0 ⟨s1,q1⟩ fun h' kk=>⟨rfl,?_⟩
  have keep: ∀ b ob,b∉[z,TO,i1,i2]->s.heap.get? b=some ob->h'.get? b=some ob:=fun b ob hb e=>by
   simp only [List.mem_cons,List.not_mem_nil,or_false,not_or]at hb
   exact kk b ob hb.1 hb.2.1 hb.2.2.1 hb.2.2.2 e
  have sub: ∀ b,b∈[z,TO,i1,i2]->b∈[z,TI,TO,i1,i2]:=fun b hb=>by
   simp only [List.mem_cons,List.not_mem_nil,or_false]at hb ⊢
   rcases hb with h | h | h | h
   ·exact .inl h
   ·exact .inr (.inr (.inl h))
   ·exact .inr (.inr (.inr (.inl h)))
   ·exact .inr (.inr (.inr (.inr h)))
  have trk: ∀ b uo,H b=some uo->b∉[z,TO,i1,i2]:=fun b uo e hb=>by rw [(hf b (sub b hb)).1]at e;cases e
  refine I.step (g':=s.gens) (d':=s.drawn) (t':=s.toks) (ch:=[z,TO,i1,i2]) (fun b hb=>?_) (fun b ob _ _ hb e _=>keep b ob hb e) (fun b ob _ _ hb e _=>⟨ob.slots,keep b ob hb e⟩) (fun b ob hb e n=>n)
   (fun b ob hb e=>⟨ob,keep b ob hb e⟩) (fun b zs e=>e) (fun b ob uo e=>e) (fun b ps e=>⟨#[],by rw [e];simp⟩) (fun m hm=>?_) (fun b uo e=>?_) I.bare
  ·obtain ⟨_,f1,_,f3,f4,f5⟩:=hf b (sub b hb)
   exact ⟨f3,f1,f4,f5⟩
  ·obtain ⟨ob,es',ep,ho,r⟩:=hm
   exact ⟨ob,es',ep,keep _ ob (fun hb=>(hf _ (sub _ hb)).2.1 rfl) ho,r⟩
  ·refine (I.hok b uo e).stay (fun c' v' hc' q=>keep c' v' ?_ q) (fun _ q=>q) fun _ _ q=>q
   rcases hc' with h | h
   ·rw [h];exact trk b uo e
   ·exact trk c' _ h
noncomputable def vR (ta:TA):TI:=fun Z H R=>ta Z H fun vs H1=> ∃ c l1 l2 xs ys,vs=[.ref l1,.ref l2]/\H1 l1=some (df c xs)/\H1 l2=some (df c ys)/\R (Itz c l1 l2) H1
theorem tK {X:Cx} {es:List Expr} {kk:Nat} {tpos:Pos} {a b:Expr} {ta:TA} {p pos:Pos} (hg:Gl X "zip") (hm:X.mg "zip"=none) (ha:PA X [a,b] ta) (hs:starEach [a,b] X.env=[(false,eval a X.env),(false,eval b X.env)]:=by rfl) (hs2:starEach [b] X.env=[(false,eval b X.env)]:=by rfl):
  PI X (.Tuple es kk tpos) (.Call (.Name "zip" p) [a,b] [] pos) (vR ta):=by
 intro pins s Z H R I h
 refine Call_ (dA I hg hm (show bootBuiltins "zip"=some (.type "zip") by decide +kernel) (PyProof.Rows.callWith_type1 (thn (ha pos pins s Z H _ I h) fun us s1 ⟨vs,H1,I1,r1,q1⟩=>?_) (by rw [hs,hs2]) (by rw [hs2];rfl)))
 obtain ⟨c,l1,l2,xs,ys,rfl,hx,hy,q⟩:=q1
 obtain ⟨u,v,rfl,ru,rv⟩:=fR r1
 cases (show u=Value.ref l1 from ru)
 cases (show v=Value.ref l2 from rv)
 obtain ⟨its1,_,e1,_⟩:=I1.seqS hx
 obtain ⟨its2,_,e2,_⟩:=I1.seqS hy
 refine HT.call_zipS e1 e2 fun h' a1 a2 a3 a4 a5 kp=>?_
 have I2:Inv X pins Z H1 {s1 with heap:=h'}:=I1.kept (t':=s1.toks) kp
 refine wpAny_pyIter_zip a1 ?_
 refine ⟨s1.heap.objs.size+4,[s1.heap.objs.size+4,s1.heap.objs.size+2,s1.heap.objs.size+3,s1.heap.objs.size,s1.heap.objs.size+1],_,_,H1,rfl,I2,oB c _ _ _ _ _ l1 l2 (by simp),⟨a1,a2,⟨_,_,a3⟩,a4,a5⟩,fun b hb=>?_,q⟩
 have hb':s1.heap.objs.size<=b:=by rcases fp5 hb with rfl | rfl | rfl | rfl | rfl <;> omega
 exact I1.fpOk hb' (I1.hok.fresh hb')
structure mo (sc0:Scope) (N0:List Str) (scope:Scope) (x x2:Str) (ys:List Str) (fr:List Nat):Prop where
 kind:scope.kind=.function
 nocell: ∀ y∈scope.names,y.2≠ .cell
 loc: ∀ y∈scope.names,y.2=.local->scope.names.lookup y.1=some .local
 xl:(bg sc0 scope).lookup x=some .local
 xl2:(bg sc0 scope).lookup x2=some .local
 free: ∀ y∈scope.names,y.2=.free->sc0.names.lookup y.1=some .cell
 nd:(x::x2::ys).Nodup
 len:ys.length=fr.length
 sl: ∀ q∈ys.zip fr,N0[q.2]? =some q.1/\sc0.names.lookup q.1=some .cell/\(bg sc0 scope).lookup q.1=some .cell
noncomputable def cb (X:Cx) (x x2:Str) (ys:List Str) (scope:Scope) (C:Addr) (s:Shared) (H:Hp) (ex:List Addr):Cx:=
 {X with N:=x::x2::ys,s₀:=s,H₀:=H,env:=compEnvC scope (bG X.env.cells scope.names) C X.env,outer:=X.stack,stack:=X.stack,ex:=ex,fn:=fun _=>false,pn:=[],xe:=fun _ _=>False}
noncomputable def qR (fr:List Nat) (te:TE) (Z:St) (J:It) (H1:Hp) (Q:VK):Prop:=
 ∀ p,H1 p=none-> ∃ W:Nat->Nat->List V->Hp->Prop,(∃ m,W 0 m [] (upd H1 p (.lst [])))/\ ∀ i m ys H,W i m ys H->H p=some (.lst ys)/\
  ((J.stop i H/\Q (.ref p) H)\/(J.go i H/\ys.length<sizeLine/\ ∀ x H',J.yld i H x H'-> ∃ T v1 v2,x=.ref T/\H' T=some (.tup [v1,v2])/\te (some v1::some v2::cx fr Z) H' fun v H2=>
   H2 p=some (.lst ys)/\ ∃ m',m'<m/\W (i+1) m' (ys++[v]) (upd H2 p (.lst (ys++[v])))))
noncomputable def oG (wi:TI) (fr:List Nat) (te:TE):TE:=fun Z H Q=>wi Z H fun J H1=>qR fr te Z J H1 Q
section
variable {X:Cx} {x x2:Str} {px px2 tpos pos fpos:Pos} {kk:Nat} {iter elt:Expr} {scope sc0:Scope} {N0 ys:List Str} {fr:List Nat} {wi:TI} {te:TE} {pins:List (Addr×Obj)} {Z:St} {H:Hp} {s:Shared}
theorem li {use:Option (Value->Sem Unit)} {Qv:Value->Shared->Prop} {Q:VK} (hcalm:X.calm=true) (hi:PI X (.Tuple [.Name x px,.Name x2 px2] kk tpos) iter wi) (hsc:X.env.scope=sc0) (hN:X.N=N0) (ok:mo sc0 N0 scope x x2 ys fr)
  (hE: ∀ C s H ex,PE (cb X x x2 ys scope C s H ex) elt te) (I:Inv X pins Z H s) (h:oG wi fr te Z H Q) (hs: ∀ v,foldedSetIterable iter X.env v=pure v)
  (fin: ∀ (p C:Addr) (H':Hp) (s':Shared) (m:Str->Option Value),Inv X pins Z H' s'->s'.heap.Ns C m->H' C=none->C≠X.env.locals->X.s₀.heap.objs.size<=C->(∀ y c,X.env.cells.lookup y=some c->c≠C)->(∀ q∈X.pn++pins,q.1≠C)->Q (.ref p) H'->
   compPost (model X.prog X.w) X.A X.xe use Qv (.ref p) C (.ok .next) s'):
  wpAny (model X.prog X.w) X.A (comprehension (.ListComp elt [⟨.Tuple [.Name x px,.Name x2 px2] kk tpos,iter,[],0⟩] scope pos) scope X.env fpos (newList []) false (eval iter X.env) use) Qv X.xe s:=by
 subst hsc hN
 have hkof: ∀ y,X.env.kindOf y=X.env.scope.names.lookup y:=fun y=>rfl
 have hfree: ∀ y∈scope.names,y.2=.free-> ∃ c,X.env.cells.lookup y.1=some c:=fun y hy e=>I.ok.has y.1 (.inl (ok.free y hy e))
 refine wpAny_comprehension_free (gs:=[]) rfl hs (cP hfree) ok.kind ok.loc (thn (hi pins s Z H _ I h) fun v s1 h1=>thn h1 fun itv s2 h2=>?_)
 obtain ⟨it,fp,tn,J,H2,e,I2,T,st2,f2,hp⟩:=h2
 subst e
 refine wpAny_newObj_type (wpAny_newFunctionEnv ok.nocell (by intro y hy;simp at hy) (fun h₁ hns₁ hsb₁=>?_) ok.kind)
 dsimp only at hns₁ hsb₁ ⊢
 have I3:Inv X pins Z (upd H2 s2.heap.objs.size (.lst [])) {s2 with heap:=s2.heap.push {cls:=.type "list",data:=.seq ([]:List Value).toArray}}:=
  I2.lnew (its:=[]) (ys:=[]) (t':=s2.toks) .nil (Nat.zero_le _)
 have hf2: ∀ b∈fp,b<s2.heap.objs.size:=fun b hb=>by
  obtain ⟨o,e,_⟩:=T.obj _ _ st2 b hb
  exact Heap.lt_size e
 have hps:s2.heap.objs.size< (s2.heap.push {cls:=.type "list",data:=.seq ([]:List Value).toArray}).objs.size:=by rw [Heap.size_push];exact Nat.lt_succ_self _
 have W0:=hp s2.heap.objs.size I2.fresh
 have st3:tn 0 (s2.heap.push {cls:=.type "list",data:=.seq ([]:List Value).toArray}):=T.keep _ _ _ st2 fun b hb o e=>Heap.get?_push_of_some _ e
 generalize hpp:s2.heap.objs.size=p at I3 W0 hf2 hps ⊢
 generalize hh3:(s2.heap.push {cls:=.type "list",data:=.seq ([]:List Value).toArray})=h3 at I3 hns₁ hsb₁ hps st3 ⊢
 generalize hH3:upd H2 p (.lst [])=H3 at I3 W0
 have hold: ∀ b o,h3.get? b=some o->h₁.get? b=some o:=fun b o e=>hsb₁.extBut b o (Nat.ne_of_lt (Heap.lt_size e)) (Heap.get?_push_of_some _ e)
 have fH3: ∀ b∈fp,H3 b=none:=fun b hb=>by
  rw [<- hH3,ah (Nat.ne_of_lt (hf2 b hb))]
  exact (f2 b hb).1
 have hclos: ∀ y c,(bG X.env.cells scope.names).lookup y=some c->X.env.cells.lookup y=some c:=fun y c e=>bA e
 have hcell3: ∀ y c,X.env.cells.lookup y=some c->c<h3.objs.size:=fun y c e=>by
  obtain ⟨v,o,ho,_⟩:=I3.cell y c e
  exact Heap.lt_size ho
 have hlt3:X.env.locals<h3.objs.size:=I3.lt
 have Yok:(cb X x x2 ys scope h3.objs.size {s2 with heap:=h3} H3 fp).Ok:={
  mod:=I.ok.mod
  kind:=ok.kind
  glob:=I.ok.glob
  blt:=I.ok.blt
  above:=Nat.le_refl _
  inj:=fun y z c e1 e2=>I.ok.inj y z c (hclos _ _ e1) (hclos _ _ e2)
  has:=fun y hk=>by
   have hfr:(y,NameKind.free)∈scope.names:=by
    have hm: ∃ k,(bg X.env.scope scope).lookup y=some k/\(k=.cell\/k=.free):=by
     rcases hk with hk | hk
     ·exact ⟨_,hk,.inl rfl⟩
     ·exact ⟨_,hk,.inr rfl⟩
    obtain ⟨k,hk,hkk⟩:=hm
    have hmem:=mem_of_lookup hk
    unfold bg at hmem
    obtain ⟨⟨n,k0⟩,hn,en⟩:=List.mem_map.mp hmem
    dsimp only at en
    split at en
    ·rename_i hc
     simp only [Bool.and_eq_true]at hc
     have hk0:k0=.free:=by simpa using hc.1.1
     cases en
     rw [<- hk0]
     exact hn
    ·cases en
     rcases hkk with e | e
     ·exact absurd e (ok.nocell _ hn)
     ·rw [<- e]
      exact hn
   obtain ⟨c,hc⟩:=hfree _ hfr rfl
   exact ⟨c,cK hc hfr⟩
  cab:=fun y c hf _=>by cases hf
  hd:=I.ok.hd
  frames:=I.ok.frames
  stk:=.inl rfl
  exf:=fun b hb=>⟨fun e=>absurd (hf2 b hb) (by rw [e];exact Nat.not_lt.mpr (Nat.le_of_lt hps)),fun y c e=>(f2 b hb).2.2.2.2.1 y c (hclos _ _ e)⟩
  bs:=fun b o e=>⟨(I3.bs b o e).1,(I3.bs b o e).2⟩
  bsz:=Nat.le_trans I.ok.bsz I3.sz
  noex:=fun b o e hb=>by
   rcases (f2 b hb).2.2.2.1 with q | q
   ·exact I.ok.noex b o e q
   ·have h1:b<X.base.objs.size:=Heap.lt_size e
    exact absurd h1 (Nat.not_lt.mpr (Nat.le_trans I.ok.bsz q))
  exfs:=fun b hb hm=>by
   rcases List.mem_cons.mp (I3.stkSub b hm)with q | q
   ·exact (f2 b hb).2.1 q
   ·exact (f2 b hb).2.2.1 q
  funs:=I3.stack
  frf:=I3.stkFree}
 have IY:Inv (cb X x x2 ys scope h3.objs.size {s2 with heap:=h3} H3 fp) [] (none::none::cx fr Z) H3 {s2 with heap:=h₁,toks:=s2.toks+ ([]:List (Str×Value)).length}:={
  ok:=Yok
  os:=rfl
  bare:=I2.bare
  base:=Un.kept hold
  loc:=by
   refine ⟨_,hns₁,fun i y v hy hv hvis=>?_⟩
   match i,hy,hv with
   | 0,_,hv=>cases hv
   | 1,_,hv=>cases hv
   | j+2,hy,hv=>
    have hy':ys[j]? =some y:=hy
    have hv':(cx fr Z)[j]? =some (some v):=hv
    unfold cx at hv'
    rw [List.getElem?_map]at hv'
    obtain ⟨i0,hi0,hv0⟩:=Option.map_eq_some_iff.mp hv'
    have hz:(y,i0)∈ys.zip fr:=by
     refine List.mem_iff_getElem?.mpr ⟨j,?_⟩
     rw [List.getElem?_zip_eq_some]
     exact ⟨hy',hi0⟩
    obtain ⟨hn,hk,hk2⟩:=ok.sl _ hz
    have hZ:Z[i0]? =some (some v):=by
     cases e:Z[i0]? with
     | none=>rw [e]at hv0;cases hv0
     | some o=>
      rw [e]at hv0
      rw [show o=some v from hv0]
    obtain ⟨m,hm,hl⟩:=I3.loc
    obtain ⟨u,ru,lk⟩:=hl i0 y v hn hZ (.inr (.inl hk))
    refine ⟨u,ru,.inr ⟨.inl hk2,?_⟩⟩
    rcases lk with ⟨a,_⟩ | ⟨_,c,hc,hcell⟩
    ·have a':X.env.scope.names.lookup y=some .local:=a
     have hk':X.env.scope.names.lookup y=some .cell:=hk
     rw [hk']at a'
     cases a'
    ·have hfr:(y,NameKind.free)∈scope.names:=by
      have hmem:=mem_of_lookup hk2
      unfold bg at hmem
      obtain ⟨⟨n,k0⟩,hn0,en⟩:=List.mem_map.mp hmem
      dsimp only at en
      split at en
      ·rename_i hc0
       simp only [Bool.and_eq_true]at hc0
       have hk0:k0=.free:=by simpa using hc0.1.1
       cases en
       rw [<- hk0]
       exact hn0
      ·cases en
       exact absurd rfl (ok.nocell _ hn0)
     exact ⟨c,cK hc hfr,hcell.keeps hold⟩
  cell:=fun y c e=>by
   obtain ⟨v,hv⟩:=I3.cell y c (hclos _ _ e)
   exact ⟨v,hv.keeps hold⟩
  free:=I3.fresh
  freeC:=fun y c e=>I3.freeC y c (hclos _ _ e)
  pin:=fun q hq=>by cases hq
  hok:=I3.hok.kept hold
  len:=by
   show (none::none::cx fr Z).length=(x::x2::ys).length
   rw [List.length_cons,List.length_cons,List.length_cons,List.length_cons,ok.len]
   unfold cx
   rw [List.length_map]}
 have hxl:(cb X x x2 ys scope h3.objs.size {s2 with heap:=h3} H3 fp).env.scope.names.lookup x=some .local:=ok.xl
 have hxl2:(cb X x x2 ys scope h3.objs.size {s2 with heap:=h3} H3 fp).env.scope.names.lookup x2=some .local:=ok.xl2
 have pgx:PG (cb X x x2 ys scope h3.objs.size {s2 with heap:=h3} H3 fp) (.Tuple [.Name x px,.Name x2 px2] kk tpos) (vm X.K 2 (qu (eK 0) (qu (eK 1) vn))):=
  kw hcalm (cZ (bZ (i:=0) ok.nd rfl (.inl hxl) (.inr hxl)) (cZ (bZ (i:=1) ok.nd rfl (.inl hxl2) (.inr hxl2)) iH))
 have pel:=hE h3.objs.size {s2 with heap:=h3} H3 fp
 obtain ⟨W,⟨m0,w0⟩,turn⟩:=W0
 have stat: ∀ {H':Hp},(∀ b∈fp,H' b=none)-> ∀ b∈fp,eS (cb X x x2 ys scope h3.objs.size {s2 with heap:=h3} H3 fp) [] H' b:=fun hn b hb=>
  ⟨hn b hb,(Yok.exf b hb).1,Yok.exfs b hb,.inl hb,(Yok.exf b hb).2,fun q hq=>by cases hq⟩
 have loop:codeAny (model X.prog X.w) X.A (.compLoop (.ListComp elt [⟨.Tuple [.Name x px,.Name x2 px2] kk tpos,iter,[],0⟩] scope pos) 0 (.ref it) (.ref p) (compEnvC scope (bG X.env.cells scope.names) h3.objs.size X.env))
   (compPost (model X.prog X.w) X.A X.xe use Qv (.ref p) h3.objs.size) {s2 with heap:=h₁,toks:=s2.toks+ ([]:List (Str×Value)).length}:=by
  refine dO (fun n s'=> ∃ i zs v0 w0 H',Inv (cb X x x2 ys scope h3.objs.size {s2 with heap:=h3} H3 fp) [] (v0::w0::cx fr Z) H' s'/\tn i s'.heap/\(∀ b∈fp,H' b=none)/\W i n zs H') ?_ m0
   ⟨0,[],none,none,H3,IY,T.keep _ _ _ st3 fun b hb o e=>hold b o e,fH3,w0⟩
  rintro n s5 ⟨i,zs,v0,wv0,H5,I5,st5,fr5,w5⟩
  obtain ⟨hacc,turn5⟩:=turn i n zs H5 w5
  rcases turn5 with ⟨stop,qn⟩ | ⟨go,hlen,step⟩
  ·refine thn (T.done (cb X x x2 ys scope h3.objs.size {s2 with heap:=h3} H3 fp) rfl rfl rfl hcalm i [] s5 _ H5 _ I5 (stat fr5) st5 stop) fun r s6 ⟨hr,I6⟩=>?_
   subst hr
   obtain ⟨m6,n6,_⟩:=I6.loc
   refine fin p h3.objs.size H5 s6 m6 (I3.call' I6.os I6.base I6.hok I6.bare fun b hb=>⟨(f2 b hb).2.2.2.1,(f2 b hb).2.1,(f2 b hb).2.2.2.2.1,(f2 b hb).2.2.2.2.2⟩) n6 I6.free (Nat.ne_of_gt hlt3) I3.sz (fun y c e=>Nat.ne_of_lt (hcell3 y c e)) (fun q hq=>?_) qn
   exact Nat.ne_of_lt (Heap.lt_size (I3.pin q hq).1)
  ·refine thn (T.item (cb X x x2 ys scope h3.objs.size {s2 with heap:=h3} H3 fp) rfl rfl rfl hcalm i [] s5 _ H5 _ I5 (stat fr5) st5 go) fun r s6 ⟨u,hr,h6⟩=>?_
   subst hr
   refine thn h6 fun _ s7 ⟨xv,H7,I7,r7,y7,st7,fr7⟩=>?_
   have I7':=I7.pinned (stat fr7) (T.obj _ _ st7)
   obtain ⟨T7,v1,v2,eT,hT7,step7⟩:=step xv H7 y7
   refine thn (pgx _ s7 _ H7 xv u (fun Z' H'=>Z'=some v1::some v2::cx fr Z/\H'=H7) I7' r7 ⟨T7,[v1,v2],eT,SqT.of hT7,rfl,v1,[v2],rfl,v2,[],rfl,rfl,rfl,rfl⟩) fun _ s8 ⟨Z8,H8,I8,e8,e8'⟩=>?_
   subst e8 e8'
   refine thn (pel _ s8 _ H8 _ I8 step7) fun yv s9 ⟨v9,H9,I9,r9,hp9,m',hm',w9⟩=>?_
   refine thn (bw _ s9 _ H9 (.ref p) [v9] (.ref p) [yv] (fun _ H'=>H'=upd H9 p (.lst (zs++[v9]))) I9 rfl (.cons r9 .nil) ⟨p,zs,v9,rfl,rfl,hp9,hlen,rfl⟩) fun _ s10 ⟨_,H10,I10,_,e10⟩=>?_
   subst e10
   refine ⟨m',hm',i+1,zs++[v9],some v1,some v2,_,I10.unpinned,T.keep _ _ _ st7 fun b hb o e=>(I10.pin (b,o) (List.mem_append_right _ (List.mem_append_right _ (aY hb e)))).1,fun b hb=>?_,w9⟩
   obtain ⟨o,e,d⟩:=T.obj _ _ st7 b hb
   exact (I10.pin (b,o) (List.mem_append_right _ (List.mem_append_right _ (aY hb e)))).2.1
 exact codeAny_compStart_list loop (T.self X.A 0 _ _ _ (T.keep _ _ _ st3 fun b hb o e=>hold b o e) loop)
theorem pF (hcalm:X.calm=true) (hi:PI X (.Tuple [.Name x px,.Name x2 px2] kk tpos) iter wi) (hsc:X.env.scope=sc0) (hN:X.N=N0) (ok:mo sc0 N0 scope x x2 ys fr)
  (hE: ∀ C s H ex,PE (cb X x x2 ys scope C s H ex) elt te) (hs: ∀ v,foldedSetIterable iter X.env v=pure v:=by intro _;rfl):
  PE X (.ListComp elt [⟨.Tuple [.Name x px,.Name x2 px2] kk tpos,iter,[],0⟩] scope pos) (oG wi fr te):=by
 intro pins s Z H Q I h
 rw [eval_ListComp]
 refine li (use:=none) (Qv:=EP X pins Z Q) (Q:=Q) hcalm hi hsc hN ok hE I h hs fun p C H' s' m I' hn h0 h1 h2 h3 h4 q=>?_
 refine ⟨m,hn,fun h' sb=>⟨.ref p,H',I'.turned (t':=s'.toks) (fun b o hb e=>sb.extBut b o hb e) h0 (Ne.symm (Ne.symm h1)) (.inr h2) h3 h4,rfl,q⟩⟩
end
noncomputable def iV (P:Program) (w:World) (K:PySem.W.Frag) (mg:Str->Option Value) (base:Heap) (k:Nat) (fl:Addr) (sp:Sp):Prop:=
 (∃ o fd,base.get? fl=some o/\o.data=.func fd)/\
 ∀ (X:Cx) (pins:List (Addr×Obj)) (Z:St) (H:Hp) (s:Shared) (us:List Value) (vs:List V) (Q:VK),X.prog=P->X.w=w->X.K=K->X.mg=mg->X.base=base->Room k X.A->Inv X pins Z H s->Vals vs us->sp vs H Q E0->
  wpAny (model P w) X.A (call (.ref fl) us) (EP X pins Z Q) X.xe s
noncomputable def sU (i:Nat) (fl:Addr) (sp:Sp) (t:TA):TE:=fun Z H Q=>Z[i]? =some (some (.ref fl))/\t Z H fun vs H1=>sp vs H1 Q E0
theorem pG {X:Cx} {k i:Nat} {fl:Addr} {sp:Sp} {x:Str} {p pos:Pos} {e:Expr} {es:List Expr} {t:TA} (hT:iV X.prog X.w X.K X.mg X.base k fl sp) (hr:Room k X.A) (hN:X.N[i]? =some x) (hv:Vis X.env.scope x) (ha:PA X (e::es) t)
  (hdb:(x==("__debug__":Str))=false:=by decide) (hcd:(x==("__classdict__":Str))=false:=by decide) (he:starEach (e::es) X.env=(false,eval e X.env)::starEach es X.env:=by rfl) (hpl:(backTo pos (starEach es X.env)).any (·.1)=false:=by rfl):
  PE X (.Call (.Name x p) (e::es) [] pos) (sU i fl sp t):=by
 intro pins s Z H Q I h
 obtain ⟨e0,h⟩:=h
 obtain ⟨⟨o,fd,ho,hd⟩,run⟩:=hT
 obtain ⟨c,d,dt,sl⟩:=o
 simp only at hd
 subst hd
 refine wpAny_Call_Name_kw (thn (pB hN hv hdb hcd pins s Z H (fun v H'=>v=.ref fl/\H'=H) I ⟨_,e0,rfl,rfl⟩) fun u s1 ⟨v,H1,I1,r1,ev,eH⟩=>?_)
 subst ev eH
 cases r1
 have kin: ∀ {h':Heap},(∀ b ob,X.base.get? b=some ob->h'.get? b=some ob)->PySem.W.Frag.In [(fl,⟨c,d,.func fd,sl⟩)] h':=fun hk a ob el=>by
  by_cases ea:a=fl
  ·subst ea
   simp at el
   rw [<- el]
   exact hk _ _ ho
  ·rw [List.lookup_cons,beq_eq_false_iff_ne.mpr ea]at el
   cases el
 refine PySem.W.callWith_K (K:=[(fl,⟨c,d,.func fd,sl⟩)]) (h₀:=X.base) (kin fun _ _ z=>z) (by simp [PySem.W.keepIn]) (thn (ha pos pins s1 Z H1 _ I1 h) fun us s2 ⟨vs,H2,I2,r2,q2⟩=>⟨kin I2.bk,?_⟩) he hpl
 exact run X pins Z H2 s2 us vs Q rfl rfl rfl rfl rfl hr I2 r2 q2
structure jW (ps ys:List Str) (sc:Scope):Prop where
 kind:sc.kind=.function
 co:sc.isCoroutine=false
 gen:sc.isGenerator=false
 nd:(ps++ys).Nodup
 par: ∀ x∈ps,sc.names.lookup x=some .local
 fre: ∀ y∈ys,sc.names.lookup y=some .free
 has: ∀ y∈sc.names,y.2=.free->y.1∈ys
 nocell: ∀ y∈sc.names,y.2≠ .cell
noncomputable def sI (P:Program) (w:World) (K:PySem.W.Frag) (mg:Str->Option Value) (base:Heap) (N:List Str) (qual:Str) (scope:Scope) (fl:Addr) (cd:Value) (cl:List (Str×Addr)) (A:Around) (outer:List Env) (s:Shared) (H:Hp):Cx where
 prog:=P
 w:=w
 K:=K
 mg:=mg
 base:=base
 A:=A.deeper (PySem.W.envX qual scope s.heap.objs.size fl cd cl)
 N:=N
 s₀:=s
 H₀:=H
 env:=PySem.W.envX qual scope s.heap.objs.size fl cd cl
 outer:=outer
 stack:=PySem.W.envX qual scope s.heap.objs.size fl cd cl::outer
 ex:=[]
 calm:=true
 fn:=fun _=>false
 pn:=[]
 xe:=fun _ _=>False
theorem eG {α β:Type} [BEq α] [LawfulBEq α] {k:α} {v:β}: ∀ {l:List (α×β)},(l.map (·.1)).Nodup->(k,v)∈l->l.lookup k=some v
 | [],_,h=>by cases h
 | (a,b)::r,nd,h=>by
  rw [List.map_cons,List.nodup_cons]at nd
  rw [List.lookup_cons]
  rcases List.mem_cons.mp h with e | e
  ·cases e
   simp
  ·have ne:(k==a)=false:=beq_eq_false_iff_ne.mpr fun z=>nd.1 (by rw [<- z];exact List.mem_map.mpr ⟨(k,v),e,rfl⟩)
   rw [ne]
   exact eG nd.2 e
theorem fQ {ps:List Str} {us:List Value} {i:Nat} {x:Str} {u:Value} (nd:ps.Nodup) (h1:ps[i]? =some x) (h2:us[i]? =some u):(ps.zip us).reverse.lookup x=some u:=by
 refine eG ?_ (List.mem_reverse.mpr (List.mem_iff_getElem?.mpr ⟨i,by rw [List.getElem?_zip_eq_some];exact ⟨h1,h2⟩⟩))
 rw [List.map_reverse]
 refine List.pairwise_reverse.mpr (List.Pairwise.imp (fun h=>Ne.symm h) (show List.Pairwise (· ≠ ·) _ from ?_))
 have:(ps.zip us).map (·.1)=ps.take us.length:=by
  clear nd h1 h2
  induction ps generalizing us with
  | nil=>simp
  | cons p r ih=>
   cases us with
   | nil=>simp
   | cons w t=>simp [ih]
 rw [this]
 exact nd.sublist (List.take_sublist _ _)
theorem tZ {P:Program} {w:World} {K:PySem.W.Frag} {mg:Str->Option Value} {base:Heap} {k:Nat} {fl c':Addr} {nm qual:Str} {params:Arguments} {body:Expr} {scope:Scope} {cl:List (Str×Addr)} {pm ctv:Value} {oc:Obj} {vc:Array Value} {tq:Tok}
  {ps ys:List Str} {cs:List V} {sp:Sp}
  (hfl:base.get? fl=some (PySem.W.kla_obj nm qual params body scope cl pm c' ctv)) (hoc:oc.data=.fields vc) (hq:vc[1]? =some (.str qual tq)) (S:jW ps ys scope)
  (hcell: ∀ x c,cl.lookup x=some c-> ∃ v,base.IsCell c v) (hinj: ∀ x y c,cl.lookup x=some c->cl.lookup y=some c->x=y)
  (hcap: ∀ (j:Nat) (y:Str),ys[j]? =some y-> ∃ c v u,cs[j]? =some v/\cl.lookup y=some c/\base.IsCell c (some u)/\RelV v u) (hcs:cs.length=ys.length)
  (bind: ∀ us:List Value,us.length=ps.length->bindArgs (PySem.W.kla_fn nm qual params body scope cl pm (.ref c') ctv) ⟨us,[]⟩=pure (ps.zip us))
  (len: ∀ vs H Q,sp vs H Q E0->vs.length=ps.length) (hH: ∀ vs H Q,sp vs H Q E0->H c'=some (.ext fun h=>h.get? c'=some oc))
  (hE: ∀ (A:Around) (outer:List Env) (s:Shared) (H:Hp) (vs:List V) (Q:VK),Room k (A.deeper (PySem.W.envX qual scope s.heap.objs.size fl (.ref c') cl))->sp vs H Q E0->
   ∃ t,PE (sI P w K mg base (ps++ys) qual scope fl (.ref c') cl A outer s H) body t/\t (vs.map some++cs.map some) H Q):iV P w K mg base (k+1) fl sp:=by
 refine ⟨⟨_,_,hfl,rfl⟩,fun X pins Z H s us vs Q hP hw hK hm hb hr I r h=>?_⟩
 subst hP hw hK hm hb
 have hlv:=len vs H Q h
 have hlu:us.length=ps.length:=by rw [<- r.length];exact hlv
 have hc':s.heap.get? c'=some oc:=(show ObjOk X.prog X.w H s.heap c' (.ext fun h=>h.get? c'=some oc)from I.hok c' _ (hH vs H Q h)).1
 obtain ⟨t,hPE,ht⟩:=hE X.A X.stack s H vs Q (hr.deeper _) h
 refine wpAny_call (codeAny_mono (R:=CR CX0 X.stack X.prog X.w H s Q E0) (PySem.W.kla_callFunE hr.depth (I.bk _ _ hfl) rfl S.co S.gen rfl ⟨c',oc,vc,tq,rfl,hc',hoc,hq⟩ ?_) fun rr s' hq'=>?_)
 ·rw [bind us hlu]
  refine wpAny_pure (wpAny_newFunctionEnv S.nocell (fun x hx=>S.par _ (List.of_mem_zip hx).1) (fun h₁ hns hsb=>?_) S.kind)
  have hk: ∀ b o,s.heap.get? b=some o->h₁.get? b=some o:=fun b o e=>hsb.extBut b o (Nat.ne_of_lt (Heap.lt_size e)) (Heap.get?_push_of_some _ e)
  refine ⟨I.nolimit.keeps hk,?_⟩
  show codeAny _ _ (.expr body (PySem.W.envX qual scope s.heap.objs.size fl (.ref c') cl)) _ _
  refine PySem.W.kla_codeExpr ?_
  have hcl: ∀ x c,cl.lookup x=some c->H c=none/\ ∃ v,h₁.IsCell c v:=fun x c e=>by
   obtain ⟨v,o,ho,hd⟩:=hcell x c e
   obtain ⟨e1,e2⟩:=I.bs c o ho
   exact ⟨e2,v,o,hk _ _ e1,hd⟩
  have IY:Inv (sI X.prog X.w X.K X.mg X.base (ps++ys) qual scope fl (.ref c') cl X.A X.stack s H) [] (vs.map some++cs.map some) H {s with heap:=h₁,toks:=s.toks+ (ps.zip us).length}:=by
   have noA: ∀ b:Addr,b∉([]:List Addr):=fun b z=>by cases z
   refine ⟨⟨I.ok.mod,S.kind,rfl,rfl,Nat.le_refl _,hinj,fun y hy=>?_,fun y c hf _=>(by cases hf),fun _=>hr.hd,Around.frames_deeper I.ok.frames,.inr ⟨rfl,rfl⟩,fun b z=>absurd z (noA b),I.bs,Nat.le_trans I.ok.bsz I.sz,fun b _ _=>noA b,fun b z=>absurd z (noA b),I.stack,I.stkFree⟩,
    rfl,I.bare,Un.kept hk,⟨_,hns,fun i y v h1 h2 h3=>?_⟩,fun y c e=>(hcl y c e).2,I.hok.fresh (Nat.le_refl _),fun y c e=>(hcl y c e).1,fun p hp=>absurd (show p∈([]:List (Addr×Obj))from hp) (by simp),I.hok.kept hk,?_⟩
   ·have hy': ∃ kd,scope.names.lookup y=some kd/\(kd=.cell\/kd=.free):=by
     rcases hy with z | z
     ·exact ⟨_,z,.inl rfl⟩
     ·exact ⟨_,z,.inr rfl⟩
    obtain ⟨kd,hl,hkd⟩:=hy'
    have hmem:=L2.mem_of_lookup hl
    rcases hkd with z | z
    ·exact absurd z (S.nocell _ hmem)
    ·obtain ⟨j,hj⟩:=List.mem_iff_getElem?.mp (S.has _ hmem z)
     obtain ⟨c,_,_,_,e,_⟩:=hcap j y hj
     exact ⟨c,e⟩
   ·have h1':(ps++ys)[i]? =some y:=h1
    by_cases hi:i<ps.length
    ·rw [List.getElem?_append_left hi]at h1'
     rw [List.getElem?_append_left (by rw [List.length_map,hlv];exact hi),List.getElem?_map]at h2
     cases hv:vs[i]? with
     | none=>rw [hv]at h2;cases h2
     | some v0=>
      rw [hv]at h2
      cases h2
      obtain ⟨u,hu,ru⟩:=r.get hv
      refine ⟨u,ru,.inl ⟨S.par y (List.mem_of_getElem? h1'),fQ (List.nodup_append.mp S.nd).1 h1' hu⟩⟩
    ·rw [List.getElem?_append_right (by omega)]at h1'
     rw [List.getElem?_append_right (by rw [List.length_map,hlv];omega),List.getElem?_map,List.length_map,hlv]at h2
     obtain ⟨c,v0,u,e1,e2,e3,e4⟩:=hcap _ y h1'
     rw [e1]at h2
     cases h2
     obtain ⟨o,ho,hd⟩:=e3
     exact ⟨u,e4,.inr ⟨.inr (S.fre y (List.mem_of_getElem? h1')),c,e2,o,hk _ _ (I.bk _ _ ho),hd⟩⟩
   ·show (vs.map some++cs.map some).length=(ps++ys).length
    rw [List.length_append,List.length_append,List.length_map,List.length_map,hlv,hcs]
  refine wpAny_mono (hPE [] _ _ H Q IY ht) (fun u s' ⟨v,H',J,rv,q⟩=>⟨v,H',J.os,J.bare,J.base,J.hok,rv,q⟩) fun _ _ z=>z.elim
 ·cases rr with
  | error e=>exact hq'.elim
  | ok f0=>
   cases f0 with
   | ret u=>exact I.after hq'
   | next=>exact False.elim hq'
   | brk=>exact False.elim hq'
   | cont=>exact False.elim hq'
section
variable {X:Cx} {pins:List (Addr×Obj)} {Z:St} {H:Hp} {s:Shared}
noncomputable def dj (X:Cx) (H:Hp) (s:Shared):Heap:=PySem.W.hideAll s.heap (trk s.heap H++frs X.stack)
theorem d0 {b:Addr} {o:Obj} (e:s.heap.get? b=some o) (n:H b=none) (nf:b∉frs X.stack):(dj X H s).get? b=some o:=
 PySem.W.hideAll_get _ e fun hm=>by
  rcases List.mem_append.mp hm with z | z
  ·have q:(H b).isSome=true:=(List.mem_filter.mp z).2
   rw [n]at q;simp at q
  ·exact nf z
theorem nE {b:Addr} {o:Obj} (e:(dj X H s).get? b=some o):s.heap.get? b=some o/\H b=none:=by
 have e1:=PySem.W.of_hideAll _ e
 refine ⟨e1,?_⟩
 cases q:H b with
 | none=>rfl
 | some u=>
  have hm:b∈trk s.heap H++frs X.stack:=List.mem_append_left _ (List.mem_filter.mpr ⟨List.mem_range.mpr (Heap.lt_size e1),by rw [q];rfl⟩)
  rw [show (dj X H s).get? b=none from PySem.W.hideAll_none _ hm]at e
  cases e
theorem l9 {h b1 b2:Heap}: ∀ {l:List Env},h.FunFrames b1 l->(∀ b∈frs l,b2.get? b=none)->h.FunFrames b2 l
 | [],_,_=>trivial
 | env::r,⟨hk,⟨L,o,hf,_,ho,hd⟩,hr⟩,hn=>by
  have hL:L∈frs (env::r):=by unfold frs;rw [List.filterMap_cons,hf];exact List.mem_cons_self
  exact ⟨hk,⟨L,o,hf,hn L hL,ho,hd⟩,l9 hr fun b hb=>hn b (by unfold frs;rw [List.filterMap_cons,hf];exact List.mem_cons_of_mem _ hb)⟩
theorem Inv.nostk (I:Inv X pins Z H s) {b:Addr} {o:Obj} (e:X.base.get? b=some o):b∉frs X.stack:=fun hb=>by
 have:=(I.stack.mem hb).1
 rw [e]at this
 cases this
theorem Inv.inB (I:Inv X pins Z H s): ∀ b o,X.base.get? b=some o->(dj X H s).get? b=some o:=fun b o e=>d0 (I.bs b o e).1 (I.bs b o e).2 (I.nostk e)
theorem Inv.envB (I:Inv X pins Z H s):oh X.prog X.w X.K X.mg (dj X H s) X.A X.stack s H:=
 ⟨I.ok.frames,⟨I.mod.kin.keeps I.inB,I.mod.glob.keeps I.inB,let ⟨mb,h1,h2⟩:=I.mod.blt;⟨mb,h1.keeps I.inB,h2⟩,I.mod.nolimit.keeps I.inB⟩,fun b o e=>nE e,Nat.le_of_eq (PySem.W.hideAll_size _ _),
  l9 I.stack fun b hb=>PySem.W.hideAll_none _ (List.mem_append_right _ hb),I.stkFree,I.hok,I.bare⟩
theorem qX {k:Nat} {f:Addr} {fd:FuncData} {ps:List Str} {sp:Sp} {Q:VK} {us:List Value} {vs:List V} (F:FnOk X.prog X.w X.K X.mg (dj X H s) CX0 k f fd ps sp) (hr:Room k X.A) (hb:Binds X.K fd ps [])
  (I:Inv X pins Z H s) (r:Vals vs us) (h:sp vs H Q E0):wpAny (model X.prog X.w) X.A (call (.ref f) us) (EP X pins Z Q) X.xe s:=by
 have hl:(us++[]).length=ps.length:=by rw [List.append_nil,<- r.length];exact F.len _ _ _ _ h
 have hbd:=hb s us I.kIn hl
 rw [List.append_nil]at hbd
 refine wpAny_call (codeAny_mono (F.run X.A X.stack s H ⟨us,[]⟩ us vs Q E0 hr I.envB hbd r h) fun rr s' hq=>?_)
 cases rr with
 | error e=>exact hq.elim
 | ok f0=>
  cases f0 with
  | ret u=>exact I.after hq
  | next=>exact False.elim hq
  | brk=>exact False.elim hq
  | cont=>exact False.elim hq
end
noncomputable def mn (base:Heap) (cl:List (Str×Addr)) (ys:List Str) (cs:List V) (fl c':Addr) (nm qual:Str) (params:Arguments) (body:Expr) (scope:Scope):Prop:=
 (∃ pm ctv,base.get? fl=some (PySem.W.kla_obj nm qual params body scope cl pm c' ctv))/\(∀ x c,cl.lookup x=some c-> ∃ v,base.IsCell c v)/\(∀ x y c,cl.lookup x=some c->cl.lookup y=some c->x=y)/\
 (∀ (j:Nat) (y:Str),ys[j]? =some y-> ∃ c v u,cs[j]? =some v/\cl.lookup y=some c/\base.IsCell c (some u)/\RelV v u)/\cs.length=ys.length
structure ls (sc0:Scope) (N:List Str) (scope:Scope) (ys:List Str) (fr:List Nat):Prop where
 free: ∀ y∈scope.names,y.2=.free->sc0.names.lookup y.1=some .cell
 len:ys.length=fr.length
 sl: ∀ q∈ys.zip fr,N[q.2]? =some q.1/\sc0.names.lookup q.1=some .cell/\(q.1,NameKind.free)∈scope.names
noncomputable def fJ (c':Addr) (oc:Obj):HO:=.ext fun h=>h.get? c'=some oc
noncomputable def fP (oc:Obj) (qual:Str):Prop:= ∃ vc tq,oc.data=.fields vc/\vc[1]? =some (.str qual tq)
noncomputable def oF (qual:Str) (cl:List (Str×Addr)) (Pt:Addr) (lpos:Pos) (scope:Scope) (params:Arguments) (body:Expr) (ys:List Str) (fr:List Nat) (spF:Heap->Sp) (te:TE):TE:=fun Z H Q=>te Z H fun v H1=>
 ∃ (ps:Array Value) (cs:List V),H1 Pt=some (.tbl ps)/\TriplesOk ps.toList/\cx fr Z=cs.map some/\
  ((codeAmong lpos ps.toList=none/\ ∀ fl c' oc base,H1 c'=none->c'≠Pt->fP oc qual->mn base cl ys cs fl c' "<lambda>" qual params body scope->
    spF base [v,.ref fl] (upd (upd H1 Pt (.tbl (ps++ #[rawInt lpos.line,rawInt lpos.col,.ref c']))) c' (fJ c' oc)) Q E0)\/
   ∃ c' oc,codeAmong lpos ps.toList=some (.ref c')/\H1 c'=some (fJ c' oc)/\fP oc qual/\ ∀ fl base,mn base cl ys cs fl c' "<lambda>" qual params body scope->spF base [v,.ref fl] H1 Q E0)
section
variable {X:Cx} {pins:List (Addr×Obj)} {Z:St} {H:Hp} {s:Shared}
theorem qh {ys:List Str} {fr:List Nat} {cs:List V} {scope:Scope} {fl c':Addr} {nm qual:Str} {params:Arguments} {body:Expr} {pm ctv:Value} (I:Inv X pins Z H s) (ok:ls X.env.scope X.N scope ys fr) (hcs:cx fr Z=cs.map some)
  (hfl:s.heap.get? fl=some (PySem.W.kla_obj nm qual params body scope (bG X.env.cells scope.names) pm c' ctv)) (nfl:H fl=none) (nof1:fl∉frs X.stack) (hfn: ∀ x,X.fn x=true):
  mn (dj X H s) (bG X.env.cells scope.names) ys cs fl c' nm qual params body scope:=by
 have nocell: ∀ {x:Str} {c:Addr},X.env.cells.lookup x=some c->c∉frs X.stack:=fun {x c} e hm=>by
  rcases List.mem_cons.mp (I.stkSub c hm)with z | z
  ·exact I.cne x c e z
  ·obtain ⟨_,o,ho,_⟩:=I.ok.funs.mem z
   exact absurd (Nat.lt_of_lt_of_le (Heap.lt_size ho) (I.ok.cab x c (hfn x) e)) (Nat.lt_irrefl _)
 have cellB: ∀ x c v,X.env.cells.lookup x=some c->s.heap.IsCell c v->(dj X H s).IsCell c v:=fun x c v e hc=>by
  have nf:=nocell e
  obtain ⟨o,ho,hd⟩:=hc
  exact ⟨o,d0 ho (I.freeC x c e) nf,hd⟩
 refine ⟨⟨pm,ctv,d0 hfl nfl nof1⟩,fun x c e=>?_,fun x y c e1 e2=>I.ok.inj x y c (bA e1) (bA e2),fun j y hj=>?_,?_⟩
 ·have e':=bA e
  obtain ⟨v,hv⟩:=I.cell x c e'
  exact ⟨v,cellB x c v e' hv⟩
 ·have hjl:j<fr.length:=by rw [<- ok.len];exact (List.getElem?_eq_some_iff.mp hj).1
  have hi0:fr[j]? =some fr[j]:=List.getElem?_eq_getElem hjl
  have hz:(y,fr[j])∈ys.zip fr:=List.mem_iff_getElem?.mpr ⟨j,by rw [List.getElem?_zip_eq_some];exact ⟨hj,hi0⟩⟩
  obtain ⟨hn,hk,hm⟩:=ok.sl _ hz
  have hc0:(cx fr Z)[j]? =some ((Z[fr[j]]?).join):=by unfold cx;rw [List.getElem?_map,hi0];rfl
  rw [hcs,List.getElem?_map]at hc0
  cases hcj:cs[j]? with
  | none=>rw [hcj]at hc0;cases hc0
  | some v=>
   rw [hcj]at hc0
   have hZ:Z[fr[j]]? =some (some v):=by
    cases e:Z[fr[j]]? with
    | none=>rw [e]at hc0;cases hc0
    | some o=>rw [e]at hc0;rw [show o=some v from (Option.some.inj hc0).symm]
   obtain ⟨m,_,hl⟩:=I.loc
   obtain ⟨u,ru,lk⟩:=hl _ y v hn hZ (.inr (.inl hk))
   rcases lk with ⟨a,_⟩ | ⟨_,c,hc,hcell⟩
   ·have a':X.env.scope.names.lookup y=some .local:=a
    rw [show X.env.scope.names.lookup y=some .cell from hk]at a'
    cases a'
   ·exact ⟨c,v,u,rfl,cK hc hm,cellB y c _ hc hcell,ru⟩
 ·have:=congrArg List.length hcs
  unfold cx at this
  rw [List.length_map,List.length_map]at this
  rw [ok.len]
  exact this.symm
theorem ky {k:Nat} {f c Pt:Addr} {fd:FuncData} {p1 p2 x:Str} {spF:Heap->Sp} {e body:Expr} {te:TE} {params:Arguments} {scope:Scope} {lpos p pos:Pos} {ys:List Str} {fr:List Nat}
  (F: ∀ base,FnOk X.prog X.w X.K X.mg base CX0 k f fd [p1,p2] (spF base)) (hr:Room k X.A) (hg:Gl X x) (hm:X.mg x=some (.ref f)) (hk:PySem.W.keepIn X.K (.ref f)=true) (hb:Binds X.K fd [p1,p2] [])
  (he:PE X e te) (hC:PySem.W.CodeHd X.base c Pt) (hcode:X.env.code=.ref c) (hB:X.base.BuiltinsAt X.mg Pt) (ok:ls X.env.scope X.N scope ys fr) (hfn: ∀ x,X.fn x=true) (hdef:defaultsOf params X.env=([],[]))
  (hdb:(x==("__debug__":Str))=false:=by decide) (hs:starEach [e,.Lambda params body scope lpos] X.env=(false,eval e X.env)::starEach [.Lambda params body scope lpos] X.env:=by rfl)
  (hs2:starEach [.Lambda params body scope lpos] X.env=(false,eval (.Lambda params body scope lpos) X.env)::starEach [] X.env:=by rfl) (hpl:(backTo pos (starEach [.Lambda params body scope lpos] X.env)).any (·.1)=false:=by rfl):
  PE X (.Call (.Name x p) [e,.Lambda params body scope lpos] [] pos) (oF (X.env.qual++"<lambda>") (bG X.env.cells scope.names) Pt lpos scope params body ys fr spF te):=by
 intro pins s Z H Q I h
 refine wpAny_Call_Name_kw (eI I hg hm ?_ hdb)
 refine PySem.W.callWith_K (h₀:=X.base) I.ok.mod.kin hk ?_ hs hpl
 rw [hs]
 show wpAny _ _ (spliced ((false,eval e X.env)::backTo pos (starEach [.Lambda params body scope lpos] X.env))) _ _ s
 refine Calls.spliced_cons (thn (he pins s Z H _ I h) fun u s1 ⟨v,H1,I1,r1,ps,cs,hP,ht,hcs,q⟩=>?_)
 rw [hs2]
 show wpAny _ _ (spliced ((false,eval (.Lambda params body scope lpos) X.env)::backTo pos (starEach [] X.env))) _ _ s1
 have hcl:closureFor scope X.env=pure (bG X.env.cells scope.names):=cP fun y hy z=>I.ok.has y.1 (.inl (ok.free y hy z))
 have hPs:s1.heap.get? Pt=some (PySem.W.tabObj ps):=(show ObjOk X.prog X.w H1 s1.heap Pt (.tbl ps)from I1.hok Pt _ hP)
 have nP: ∀ {b:Addr},H1 b=none->b≠Pt:=fun hn z=>by rw [z,hP]at hn;cases hn
 have hgP:mainGlobals≠Pt:=by
  obtain ⟨o,es,ep,ho,_⟩:=I1.mod.glob
  exact nP (I1.bs _ _ ho).2
 have hB1:s1.heap.BuiltinsAt X.mg Pt:=by
  obtain ⟨bm,o,b1,b2,b3,b4,b5,b6⟩:=hB
  exact ⟨bm,o,b1,b2,b3,b4,I1.bk _ _ b5,b6⟩
 have fin: ∀ {fl:Addr} {s2:Shared} {H2:Hp} (I2:Inv X pins Z H2 s2),spF (dj X H2 s2) [v,.ref fl] H2 Q E0->X.K.In s2.heap/\wpAny (model X.prog X.w) X.A (call (.ref f) ([]++[u,.ref fl])) (EP X pins Z Q) X.xe s2:=fun {fl s2 H2} I2 hq=>
  ⟨I2.kIn,qX (vs:=[v,.ref fl]) (F _) hr hb I2 (.cons r1 (.cons (show RelV (.ref fl) (.ref fl)from rfl) .nil)) hq⟩
 refine Calls.spliced_cons (PySem.W.kla_eval hdef ?_)
 rcases q with ⟨hnf,q⟩ | ⟨c',oc,hf,hc',hoc,q⟩
 ·refine PySem.W.kla_makeFunction (mg:=X.mg) hcl I1.ok.glob (I1.mod.glob.keeps I1.bk) hcode (hC.keeps I1.bk) hPs ht hnf hgP hB1 fun c' ctv h' tk hx hge hlt hrec htb=>?_
  obtain ⟨c2,oc,vc,tq,e2,hoc,hd,hq1⟩:=hrec
  cases e2
  have nc:H1 c'=none:=I1.hok.fresh hge
  have ncP:c'≠Pt:=fun z=>by rw [z,hP]at nc;cases nc
  have old: ∀ b o,b≠Pt->s1.heap.get? b=some o->(h'.push (PySem.W.kla_obj "<lambda>" (X.env.qual++"<lambda>") params body scope (bG X.env.cells scope.names) ((X.mg "__name__").getD .none) c' ctv)).get? b=some o:=fun b o hb eo=>Heap.get?_push_of_some _ (hx b o hb eo)
  have lt: ∀ {b:Addr} {o:Obj},s1.heap.get? b=some o->b≠c':=fun eo z=>absurd (Heap.lt_size eo) (by rw [z];exact Nat.not_lt.mpr hge)
  have I2:Inv X pins Z (upd (upd H1 Pt (.tbl (ps++ #[rawInt lpos.line,rawInt lpos.col,.ref c']))) c' (fJ c' oc)) {s1 with heap:=h'.push (PySem.W.kla_obj "<lambda>" (X.env.qual++"<lambda>") params body scope (bG X.env.cells scope.names) ((X.mg "__name__").getD .none) c' ctv),toks:=tk}:=by
   have up: ∀ {b:Addr} {oo:HO},H1 b=some oo->b≠Pt->(upd (upd H1 Pt (.tbl (ps++ #[rawInt lpos.line,rawInt lpos.col,.ref c']))) c' (fJ c' oc)) b=some oo:=fun eo hb=>by rw [ah (aj eo nc),ah hb];exact eo
   have nt: ∀ {b:Addr} {oo:HO},H1 b=some oo->oo≠ .tbl ps->b≠Pt:=fun eo hne z=>by rw [z,hP]at eo;exact hne (Option.some.inj eo).symm
   refine I1.step (g':=s1.gens) (d':=s1.drawn) (ch:=[]) (fun b hb=>by cases hb) (fun b o _ _ _ eo n=>old b o (nP n) eo) (fun b o _ _ _ eo n=>⟨o.slots,old b o (nP n) eo⟩) (fun b o _ eo n=>by rw [ah (lt eo),ah (nP n)];exact n)
    (fun b o _ eo=>?_) (fun b xs eo=>up eo (nt eo (by simp))) (fun b o uo eo=>up eo (nt eo (by simp))) (fun b qs eo=>?_) (fun m hm=>?_) (fun b oo eo=>?_) I1.bare
   ·by_cases hb:b=Pt
    ·subst hb;exact ⟨_,Heap.get?_push_of_some _ htb⟩
    ·exact ⟨o,old b o hb eo⟩
   ·by_cases hb:b=Pt
    ·subst hb
     rw [hP]at eo
     cases eo
     exact ⟨_,by rw [ah (Ne.symm ncP),ac]⟩
    ·exact ⟨#[],by rw [up eo hb];simp⟩
   ·obtain ⟨o,es,ep,ho,r⟩:=hm
    exact ⟨o,es,ep,old _ o (nP I1.free) ho,r⟩
   ·by_cases hb:b=c'
    ·subst hb
     rw [ac]at eo
     cases eo
     exact ⟨Heap.get?_push_of_some _ hoc,⟨oc,Heap.get?_push_of_some _ hoc⟩,fun h1 h2 a1 a2=>a2 _ a1⟩
    ·rw [ah hb]at eo
     by_cases hbP:b=Pt
     ·subst hbP
      rw [ac]at eo
      cases eo
      exact Heap.get?_push_of_some _ htb
     ·rw [ah hbP]at eo
      refine (I1.hok b oo eo).stay (fun d' vo hd' q'=>old d' vo ?_ q') (fun d' q'=>up q' (nt q' (by simp))) fun d' xs q'=>up q' (nt q' (by simp))
      rcases hd' with z | z
      ·rw [z];exact hbP
      ·exact nt z (by simp)
  have nfl:(upd (upd H1 Pt (.tbl (ps++ #[rawInt lpos.line,rawInt lpos.col,.ref c']))) c' (fJ c' oc)) h'.objs.size=none:=by
   have a1:h'.objs.size≠c':=Nat.ne_of_gt hlt
   have a2:h'.objs.size≠Pt:=Nat.ne_of_gt (Heap.lt_size htb)
   rw [ah a1,ah a2]
   exact I1.hok.fresh (Nat.le_trans hge (Nat.le_of_lt hlt))
  have nff:h'.objs.size∉frs X.stack:=fun hmm=>by
   obtain ⟨_,o,ho,_⟩:=I1.stack.mem hmm
   exact absurd (Heap.lt_size ho) (Nat.not_lt.mpr (Nat.le_trans hge (Nat.le_of_lt hlt)))
  have L:=qh I2 ok hcs (Heap.get?_push_size _ rfl) nfl nff hfn
  exact Calls.spliced_nil (fin I2 (q _ c' oc _ nc ncP ⟨vc,tq,hd,hq1⟩ L))
 ·refine PySem.W.kla_makeFunctionHit (mg:=X.mg) hcl I1.ok.glob (I1.mod.glob.keeps I1.bk) hcode (hC.keeps I1.bk) hPs ht hf hB1 fun ctv h' tk hkp hsz=>?_
  have I2:Inv X pins Z H1 {s1 with heap:=h'.push {cls:=.type "function",data:=.func (PySem.W.kla_fn "<lambda>" (X.env.qual++"<lambda>") params body scope (bG X.env.cells scope.names) ((X.mg "__name__").getD .none) (.ref c') ctv)},toks:=tk}:=
   I1.kept fun b o eo=>Heap.get?_push_of_some _ (hkp b o eo)
  have nff:h'.objs.size∉frs X.stack:=fun hmm=>by
   obtain ⟨_,o,ho,_⟩:=I1.stack.mem hmm
   exact absurd (Heap.lt_size ho) (Nat.not_lt.mpr hsz)
  have L:=qh (c':=c') I2 ok hcs (Heap.get?_push_size _ rfl) (I1.hok.fresh hsz) nff hfn
  exact Calls.spliced_nil (fin I2 (q _ _ L))
end
noncomputable def qJ (h:Heap) (mg:Str->Option Value) (nm:Str) (c Pt:Addr):Prop:=(∃ a o fd,mg nm=some (.ref a)/\h.get? a=some o/\o.data=.func fd/\fd.code=.ref c)/\PySem.W.CodeHd h c Pt
theorem nI {P:Program} {w:World} {K:PySem.W.Frag} {mg mb:Str->Option Value} {k:Nat} {fa a c Pt:Addr} {fd:FuncData} {x nm:Str} {sp:Sp} {s₁:Shared} {vs:List Value} {ns:List Int}
  (KX:K.In s₁.heap) (hns:s₁.heap.Ns mainGlobals mg) (hb:s₁.heap.Ns builtinsNs mb) (hbb: ∀ x:Str,x≠"__name__"->mb x=bootBuiltins x) (hlim:s₁.heap.NoLimit) (hg:s₁.gens= #[])
  (ha:s₁.heap.get? a=some {cls:=.type "list",data:=.seq vs.toArray}) (hi:IntsAre vs ns) (hl:ns.length<=sizeLine) (hr:Room k callerA)
  (hC:PySem.W.CodeHd s₁.heap c Pt) (hP:s₁.heap.get? Pt=some (PySem.W.tabObj #[])) (hB:s₁.heap.BuiltinsAt mg Pt) (hKt:K.lookup Pt=none)
  (F: ∀ base:Heap,K.In base->base.Ns mainGlobals mg->PySem.W.CodeHd base c Pt->base.BuiltinsAt mg Pt->FnOk P w K mg base CX0 k fa fd [x] sp) (hbind: ∀ (s:Shared) (u:Value),BindsTo s fd ⟨[u],[]⟩ [(x,u)])
  (hsp: ∀ H:Hp,H Pt=some (.tbl #[])->SqL K H a (ns.map V.int)->sp [.ref a] H (fun v _=>v=.bl true) E0):
  codeAny (model P w) callerA (.call (.ref fa) ⟨[.ref a],[]⟩) (fun r s'=>r=.ok (.ret (.bool true))/\OldK s₁.heap s'.heap/\s'.os=s₁.os/\AllBare s'.gens) s₁:=by
 have rv:=gP hi
 have lenV:=hi.length
 have haP:a≠Pt:=fun z=>by rw [z,hP]at ha;cases ha
 have core: ∀ H:Hp,H Pt=some (.tbl #[])->SqL K H a (ns.map V.int)->HOk P w H s₁.heap->(∀ b,H b≠none->b=a\/b=Pt)->(H a≠none->K.lookup a=none)->(∀ u,H a=some u-> ∃ xs,u=.frz {cls:=.type "list",data:=.seq vs.toArray} (.lst xs))->
   codeAny (model P w) callerA (.call (.ref fa) ⟨[.ref a],[]⟩) (fun r s'=>r=.ok (.ret (.bool true))/\OldK s₁.heap s'.heap/\s'.os=s₁.os/\AllBare s'.gens) s₁:=by
  intro H hH hS hok hA hK hfr
  have un0: ∀ {b:Addr} {o:Obj},s₁.heap.get? b=some o->o≠{cls:=.type "list",data:=.seq vs.toArray}->o≠PySem.W.tabObj #[]->H b=none:=fun {b o} e n1 n2=>by
   cases q:H b with
   | none=>rfl
   | some u=>
    rcases hA b (by rw [q];simp)with z | z
    ·subst z;rw [ha]at e;exact absurd (Option.some.inj e).symm n1
    ·subst z;rw [hP]at e;exact absurd (Option.some.inj e).symm n2
  have inB: ∀ {b:Addr} {o:Obj},s₁.heap.get? b=some o->H b=none->(gC s₁.heap H).get? b=some o:=fun e n=>qq e n
  have dictB: ∀ {b:Addr} {m:Str->Option Value},s₁.heap.Ns b m->(gC s₁.heap H).Ns b m:=fun {b m} ⟨o,es,ep,e,d,r⟩=>⟨o,es,ep,inB e (un0 e (fun z=>by rw [z]at d;cases d) (fun z=>by rw [z]at d;cases d)),d,r⟩
  have hKb:K.In (gC s₁.heap H):=fun b o e=>inB (KX b o e) (by
   cases q:H b with
   | none=>rfl
   | some u=>
    rcases hA b (by rw [q];simp)with z | z
    ·subst z;rw [hK (by rw [q];simp)]at e;cases e
    ·subst z;rw [hKt]at e;cases e)
  have hCb:PySem.W.CodeHd (gC s₁.heap H) c Pt:=by
   obtain ⟨o,vs',file,tf,flags,tg,inF,text,tt,e1,e2,r⟩:=hC
   exact ⟨o,vs',file,tf,flags,tg,inF,text,tt,inB e1 (un0 e1 (fun z=>by rw [z]at e2;exact absurd e2 (by simp)) (fun z=>by rw [z]at e2;exact absurd e2 (by simp))),e2,r⟩
  have hBb:(gC s₁.heap H).BuiltinsAt mg Pt:=by
   obtain ⟨bm,o,b1,b2,b3,b4,b5,b6,r⟩:=hB
   exact ⟨bm,o,b1,b2,b3,b4,inB b5 (un0 b5 (fun z=>by rw [z]at b6;exact absurd b6 (by simp)) (fun z=>by rw [z]at b6;exact absurd b6 (by simp))),b6,r⟩
  have hM:Mod K mg (gC s₁.heap H):=⟨hKb,dictB hns,⟨mb,dictB hb,hbb⟩,let ⟨mc,h1,h2⟩:=hlim;⟨mc,dictB h1,h2⟩⟩
  have e0:oh P w K mg (gC s₁.heap H) callerA [] s₁ H:=⟨rfl,hM,fun b o e=>rR e,Nat.le_of_eq (nQ _ _),trivial,fun b hb=>absurd (show b∈([]:List Addr)from hb) (by simp),hok,.of_eq hg⟩
  refine codeAny_mono ((F _ hKb (dictB hns) hCb hBb).run callerA [] s₁ H ⟨[.ref a],[]⟩ [.ref a] [.ref a] _ _ hr e0 (hbind s₁ (.ref a)) (.cons rfl .nil) (hsp H hH hS)) fun r s' h=>?_
  cases r with
  | error e=>exact h.elim
  | ok fl=>
   cases fl with
   | next=>exact False.elim h
   | brk=>exact False.elim h
   | cont=>exact False.elim h
   | ret u=>
    obtain ⟨v,H',os,bare,un,hok',r',q⟩:=h
    have q':v=.bl true:=q
    subst q'
    obtain rfl:u=Value.bool true:=r'
    have tab: ∃ more:Array Value,s'.heap.get? Pt=some (PySem.W.tabObj (#[]++more)):=by
     obtain ⟨more,e⟩:=un.tbls Pt _ hH
     exact ⟨more,(show ObjOk P w H' s'.heap Pt (.tbl (#[]++more))from hok' Pt _ e)⟩
    have old: ∀ b o,b≠Pt->s₁.heap.get? b=some o->s'.heap.get? b=some o:=fun b o hbP e=>by
     cases q:H b with
     | none=>exact un.keep b o e q (by intro z;exact absurd (show b∈([]:List Addr)from z) (by simp)) (by simp)
     | some u=>
      rcases hA b (by rw [q];simp)with z | z
      ·subst z
       obtain ⟨xs,rfl⟩:=hfr u q
       obtain ⟨e1,_⟩:=hok' b _ (un.frzs b _ _ q)
       rw [ha]at e
       rw [<- Option.some.inj e]
       exact e1
      ·exact absurd z hbP
    obtain ⟨more,ht⟩:=tab
    refine ⟨rfl,⟨fun b o e=>?_,fun b o e=>?_⟩,os,bare⟩
    ·by_cases hbP:b=Pt
     ·subst hbP
      rw [hP]at e
      cases e
      obtain ⟨oc,vs',file,tf,flags,tg,inF,text,tt,e1,e2,e3,e4,_⟩:=hC
      exact .inr (.inl ⟨⟨c,oc,vs',e1,e2,e3,e4⟩,rfl,#[],more,rfl,ht⟩)
     ·exact .inl (old b o hbP e)
    ·by_cases hbP:b=Pt
     ·subst hbP;exact ⟨_,ht⟩
     ·exact ⟨o,old b o hbP e⟩
 cases hk:K.lookup a with
 | some o=>
  have e:=KX a o hk
  rw [ha]at e
  cases e
  refine core (fun b=>if b=Pt then some (.tbl #[])else none) (if_pos rfl) (.inr ⟨_,vs.toArray,_,hk,rfl,rfl,rfl,by rw [List.size_toArray,lenV];exact hl,by simpa using rv⟩) (fun b u z=>?_) (fun b z=>?_) (fun z=>absurd (if_neg haP) z) fun u z=>?_
  ·by_cases hb:b=Pt
   ·have z':=(if_pos hb).symm.trans z
    cases z'
    subst hb
    exact hP
   ·have z':=(if_neg hb).symm.trans z
    cases z'
  ·by_cases hb:b=Pt
   ·exact .inr hb
   ·exact absurd (if_neg hb) z
  ·have z':=(if_neg haP).symm.trans z
   cases z'
 | none=>
  have hPa: ¬ Pt=a:=fun z=>haP z.symm
  refine core (fun b=>if b=a then some (.frz {cls:=.type "list",data:=.seq vs.toArray} (.lst (ns.map V.int)))else if b=Pt then some (.tbl #[])else none) (by rw [if_neg hPa,if_pos rfl]) (.inl (.inr ⟨{cls:=.type "list",data:=.seq vs.toArray},if_pos rfl⟩)) (fun b u z=>?_) (fun b z=>?_) (fun _=>hk) fun u z=>?_
  ·by_cases hb:b=a
   ·have z':=(if_pos hb).symm.trans z
    cases z'
    subst hb
    exact ⟨ha,by rw [List.length_map];exact hl,vs,_,rv,ha⟩
   ·have z':=(if_neg hb).symm.trans z
    by_cases hb2:b=Pt
    ·have z2:=(if_pos hb2).symm.trans z'
     cases z2
     subst hb2
     exact hP
    ·have z2:=(if_neg hb2).symm.trans z'
     cases z2
  ·by_cases hb:b=a
   ·exact .inl hb
   ·by_cases hb2:b=Pt
    ·exact .inr hb2
    ·exact absurd (by rw [if_neg hb,if_neg hb2]) z
  ·have z':=(if_pos rfl).symm.trans z
   cases z'
   exact ⟨_,rfl⟩
theorem walk_ofT {l:PySem.W.OpenLaw} {n k:Nat} {q:Program} {loose:List Str} {XP:(Str->Option Value)->Heap->Prop} {YP:World->Heap->Prop} {d:DefRec} {K:Params->PySem.W.Frag} {sp:World->Addr->Sp} {x nm:Str}
  (hn:l.most=some n) (hn2:n<=sizeLine) (hdf:d.params.defaults=[]) (hr:Room k callerA) (hY: ∀ (w:World) (h:Heap),YP w h->(K w.params).In h) (hrec: ∃ e∈recsOf q,e.name=nm) (hKt: ∀ w:World,PySem.W.noTabs (K w.params)=true)
  (F: ∀ (w:World) (mg:Str->Option Value) (fa c Pt:Addr) (h:Heap),(K w.params).In h->h.Ns mainGlobals mg->mg d.name=some (.ref fa)->qJ h mg nm c Pt->
   ∃ fd:FuncData,(∀ (s:Shared) (u:Value),BindsTo s fd ⟨[u],[]⟩ [(x,u)])/\ ∀ base:Heap,(K w.params).In base->base.Ns mainGlobals mg->PySem.W.CodeHd base c Pt->base.BuiltinsAt mg Pt->FnOk l.prog w (K w.params) mg base CX0 k fa fd [x] (sp w Pt))
  (hsp: ∀ (w:World) (Pt:Addr) (H:Hp) (a:Addr) (ns:List Int),ns.length<=n->H Pt=some (.tbl #[])->SqL (K w.params) H a (ns.map V.int)->sp w Pt [.ref a] H (fun v _=>v=.bl true) E0):
  PySem.W.WalkO q loose XP YP l.row.toRowW d [] (fun f vs=>PySem.call f vs):=by
 refine Att.attach_call hn hdf fun w s₀ s₁ mg mb fa o pm cd doc a vs ns G Y ho hd hcd hmg hobj hints hlen hg=>?_
 have KX:=hY w _ Y
 obtain ⟨e,he,rfl⟩:=hrec
 obtain ⟨a1,o1,fd1,c,Pt,t1,t2,t3,t4,t5,t6⟩:=G.T.tab e he
 have hC:=PySem.W.CodeHd.of t5 t6
 obtain ⟨fd,hb,hF⟩:=F w mg fa c Pt _ KX G.T.g hmg ⟨⟨a1,o1,fd1,t1,t2,t3,t4⟩,hC⟩
 obtain ⟨bm,ob,b1,b2,b3,b4,b5,b6⟩:=G.T.bmain
 have hP:s₁.heap.get? Pt=some (PySem.W.tabObj #[]):=t6.2
 have n1:bm≠mainGlobals:=fun z=>by
  obtain ⟨og,es,ep,e1,e2,_⟩:=G.T.g
  rw [z,e1]at b3
  cases b3
  rw [e2]at b6
  cases b6
 have n2:bm≠Pt:=fun z=>by
  rw [z,hP]at b3
  cases b3
  cases b4
 have hB:s₁.heap.BuiltinsAt mg Pt:=⟨bm,ob,b1,b2,n1,n2,b3,b4,b5,b6⟩
 have hKn:(K w.params).lookup Pt=none:=by
  cases q':(K w.params).lookup Pt with
  | none=>rfl
  | some ok=>
   have e1:=KX _ _ q'
   rw [hP]at e1
   have e2:=Option.some.inj e1
   have h2:=List.all_eq_true.mp (hKt w) (Pt,ok) (PySem.W.mem_of_lookupK q')
   subst e2
   exact absurd (show false=true from h2) Bool.false_ne_true
 exact nI (nm:=e.name) KX G.T.g G.T.b G.T.builtins G.T.nolimit hg hobj hints (Nat.le_trans hlen hn2) hr hC hP hB hKn hF hb fun H h1 h2=>hsp w Pt H a ns hlen h1 h2
section
variable {X:Cx}
theorem pP:OpR X (binaryOp .Add) (fun x y H Q=> ∃ a b xs ys,x=.ref a/\y=.ref b/\SqT X.K H a xs/\SqT X.K H b ys/\xs.length+ys.length<=sizeLine/\(xs=[]->Q (.ref b) H)/\(xs≠[]->ys=[]->Q (.ref a) H)/\
  (xs≠[]->ys≠[]-> ∀ p,H p=none->Q (.ref p) (upd H p (.tup (xs++ys))))):=by
 intro pins s Z H x y v u Q I rx ry h
 obtain ⟨a,b,xs,ys,rfl,rfl,ha,hb,hz,q0,q1,q2⟩:=h
 by_cases hx:xs=[]
 ·subst hx
  cases rx
  cases ry
  obtain ⟨its,r1,p1,_⟩:=I.tuple ha
  obtain ⟨its2,r2,p2,_⟩:=I.tuple hb
  cases r1
  obtain ⟨⟨cls,dd,data,sl⟩,ho,hc,n,hd⟩:=id p1
  obtain ⟨⟨cls2,dd2,data2,sl2⟩,ho2,hc2,n2,hd2⟩:=id p2
  simp only at hc hd hc2 hd2
  subst hc hd hc2 hd2
  exact concat_meets ⟨_,ho,rfl⟩ ⟨_,ho2,rfl⟩ noFill_tuple_add seq_tuple_add PySem.F.slot_tuple_add PySem.F.entry_tuple_add (PySem.F.args_tuple_add_2 _ _)
   (tuple_addW0 a b #[] its2.toArray n n2 dd dd2 sl sl2 rfl) ⟨ho,ho2,⟨.ref b,H,I,rfl,q0 rfl⟩⟩
 ·exact rK pins s Z H _ _ v u Q I rx ry ⟨a,b,xs,ys,rfl,rfl,ha,hb,hx,hz,q1 hx,q2 hx⟩
end
section
variable {base G h h':Heap}
theorem iL {env:Env} {r:List Env} {L:Addr} (hf:env.frame=some L):L∈frs (env::r):=by
 unfold frs;rw [List.filterMap_cons,hf];exact List.mem_cons_self
theorem eF {env:Env} {r:List Env} {b:Addr} (hb:b∈frs r):b∈frs (env::r):=by
 unfold frs;rw [List.filterMap_cons]
 cases env.frame with
 | none=>exact hb
 | some L=>exact List.mem_cons_of_mem _ hb
theorem di: ∀ {l:List Env},h.FunFrames base l->(∀ b∈frs l,G.get? b=none)->h.FunFrames G l
 | [],_,_=>trivial
 | _::_,⟨hk,⟨L,o,hf,_,ho,hd⟩,hr⟩,hg=>⟨hk,⟨L,o,hf,hg L (iL hf),ho,hd⟩,di hr fun b hb=>hg b (eF hb)⟩
end
inductive Rec (h:Heap) (x C T:Addr):Prop
 | mk (oe:Obj) (vs:Array Value) (oT:Obj) (ts:Array Value) (he:h.get? x=some oe) (hc:oe.cls=.ref C) (hd:oe.data=.fields vs) (h1:vs[1]? =some (.ref T)) (ne:T≠x)
   (hT:h.get? T=some oT) (hdT:oT.data=.fields ts) (h3:ts[3]? =some .none):Rec h x C T
structure LeftF (l:List Env) (x C:Addr) (hs:List Addr) (h h':Heap):Prop where
 keep: ∀ b o,b≠x->b∉hs->b∉frs l->h.get? b=some o->h'.get? b=some o
 slot: ∀ b o,b∈frs l->h.get? b=some o-> ∃ sl,h'.get? b=some {o with slots:=sl}
 rc: ∃ T,Rec h' x C T/\(T∈hs\/h.get? T=none)
section
variable {base h h':Heap} {l:List Env} {x C:Addr} {hs:List Addr}
theorem LeftF.of (hl:h.FunFrames base l) (hL:(PySem.W.hideAll h (x::(hs++frs l))).Left l x (.ref C) h h'):LeftF l x C hs h h':=by
 obtain ⟨a1,_,⟨oe,vs,T,oT,ts,he,hc,hd,h1,hn,hTe,hT,hdT,h3⟩,a4⟩:=hL
 have slot: ∀ b o,b∈frs l->h.get? b=some o-> ∃ sl,h'.get? b=some {o with slots:=sl}:=fun b o hb e=>by
  obtain ⟨_,o',ho',hnf⟩:=hl.mem hb
  rw [e]at ho';cases ho'
  exact a4 b o e hnf
 refine ⟨fun b o n1 n2 n3 e=>a1 b o (PySem.W.hideAll_get _ e fun z=>?_),slot,T,.mk oe vs oT ts he hc hd h1 hTe hT hdT h3,?_⟩
 ·rcases List.mem_cons.mp z with z | z
  ·exact n1 z
  ·rcases List.mem_append.mp z with z | z
   ·exact n2 z
   ·exact n3 z
 ·cases q:h.get? T with
  | none=>exact .inr rfl
  | some o=>
   refine .inl ?_
   by_cases z:T∈x::(hs++frs l)
   ·rcases List.mem_cons.mp z with z | z
    ·exact absurd z hTe
    ·rcases List.mem_append.mp z with z | z
     ·exact z
     ·obtain ⟨_,o',ho',hnf⟩:=hl.mem z
      obtain ⟨sl,e2⟩:=slot T o' z ho'
      rw [hT]at e2
      cases e2
      exact absurd hdT (hnf ts)
   ·rw [PySem.W.hideAll_get _ q z]at hn;cases hn
end
section
variable {M:Model} {A:Around} {E:Value->Shared->Prop} {s:Shared} {base:Heap} {env:Env} {outer:List Env} {L x C T:Addr} {Q:Unit->Shared->Prop}
theorem jD {oe:Obj} {vs:Array Value} (hfr:A.frames=some (env::outer)) (hl:s.heap.FunFrames base (env::outer)) (hf:env.frame=some L) (he:s.heap.get? x=some oe) (hc:oe.cls=.ref C)
  (hd:oe.data=.fields vs) (h1:vs[1]? =some .none) (k: ∀ h',LeftF (env::outer) x C [] s.heap h'->Q () {s with heap:=h'}):wpAny M A (leaving env (.ref x)) Q E s:=
 wpAny_leaving_first (base:=PySem.W.hideAll s.heap (x::([]++frs (env::outer)))) hfr (di hl fun b hb=>PySem.W.hideAll_none _ (List.mem_cons_of_mem _ hb)) hf he (fun _ _ e=>PySem.W.of_hideAll _ e)
  (PySem.W.hideAll_none _ List.mem_cons_self) hd h1 fun h' z=>k h' (.of hl (hc▸z))
theorem kO (hfr:A.frames=some (env::outer)) (hl:s.heap.FunFrames base (env::outer)) (hf:env.frame=some L) (r:Rec s.heap x C T)
  (k: ∀ h',LeftF (env::outer) x C [T] s.heap h'->Q () {s with heap:=h'}):wpAny M A (leaving env (.ref x)) Q E s:=by
 obtain ⟨oe,vs,oT,ts,he,hc,hd,h1,ne,hT,hdT,h3⟩:=r
 have gone: ∀ b,b∈x::([T]++frs (env::outer))->(PySem.W.hideAll s.heap (x::([T]++frs (env::outer)))).get? b=none:=fun b hb=>PySem.W.hideAll_none _ hb
 exact wpAny_leaving_next (base:=PySem.W.hideAll s.heap (x::([T]++frs (env::outer)))) (cls:=.ref C) hfr (di hl fun b hb=>gone b (List.mem_cons_of_mem _ (List.mem_append_right _ hb))) hf
  ⟨oe,vs,T,oT,ts,he,hc,hd,h1,gone T (List.mem_cons_of_mem _ (by simp)),ne,hT,hdT,h3⟩ (fun _ _ e=>PySem.W.of_hideAll _ e) (gone x List.mem_cons_self) fun h' z=>k h' (.of hl z)
end
theorem ObjOk.there {P:Program} {w:World} {H:Hp} {h:Heap} {a:Addr} {o:HO} (x:ObjOk P w H h a o): ∃ ob,h.get? a=some ob:=by
 cases o with
 | lst xs=>obtain ⟨_,_,_,_,e⟩:=x;exact ⟨_,e⟩
 | tup xs=>obtain ⟨_,_,_,ob,e,_⟩:=x;exact ⟨_,e⟩
 | dK kvs=>obtain ⟨_,_,_,_,o,_,_,e,_⟩:=x;exact ⟨_,e⟩
 | set S n=>obtain ⟨o,_,_,_,e,_⟩:=x;exact ⟨_,e⟩
 | ins C dx fs=>obtain ⟨_,_,_,e,_⟩:=x;exact ⟨_,e⟩
 | own y=>exact x
 | xd fs=>obtain ⟨_,⟨_,_,_,e,_⟩,_⟩:=x;exact ⟨_,e⟩
 | rng lo hi=>obtain ⟨_,_,_,e⟩:=x;exact ⟨_,e⟩
 | frz ob u=>obtain ⟨e,_⟩:=x;exact ⟨_,e⟩
 | tbl ps=>exact ⟨_,show h.get? a=some _ from x⟩
 | met f y=>exact ⟨_,show h.get? a=some _ from x⟩
 | ext φ=>obtain ⟨_,e,_⟩:=x;exact e
 | _=>obtain ⟨_,_,_,_,o,_,_,e,_⟩:=x;exact ⟨_,e⟩
theorem HOk.none_of {P:Program} {w:World} {H:Hp} {h:Heap} {a:Addr} (x:HOk P w H h) (e:h.get? a=none):H a=none:=by
 cases q:H a with
 | none=>rfl
 | some u=>obtain ⟨ob,z⟩:=(x a u q).there;rw [e]at z;cases z
inductive CX1 (P:Program) (w:World) (C:Addr) (outer:List Env) (H:Hp) (s:Shared) (E:XK) (e:Value) (s':Shared):Prop
 | mk (x T:Addr) (H':Hp) (he:e=.ref x) (os:s'.os=s.os) (bare:AllBare s'.gens) (un:Un (frs outer) [] H H' s.heap s'.heap) (hok:HOk P w H' s'.heap)
   (rc:Rec s'.heap x C T) (nx:s.heap.get? x=none) (nT:s.heap.get? T=none) (fx:H' x=none) (fT:H' T=none) (q:E (.ref C) none H'):CX1 P w C outer H s E e s'
section
variable {P:Program} {w:World} {K:PySem.W.Frag} {mg:Str->Option Value} {base:Heap} {N:List Str} {qual:Str} {scope:Scope} {f:Addr} {cd:Value} {A:Around} {outer:List Env} {s:Shared} {H:Hp} {E:XK} {C:Addr}
theorem l8 {CX:CXT} {pins:List (Addr×Obj)} {Z:St} {H1:Hp} {s1:Shared} {x:Addr} {hs:List Addr} {h':Heap} (J:Inv (cz CX P w K mg base N qual scope f cd A outer s H E) pins Z H1 s1)
  (fx:H1 x=none) (nx:s.heap.get? x=none) (hh: ∀ T∈hs,H1 T=none/\s.heap.get? T=none) (L:LeftF (envOfC qual scope s.heap.objs.size f cd::outer) x C hs s1.heap h') (q:E (.ref C) none H1):
  CX1 P w C outer H s E (.ref x) {s1 with heap:=h'}:=by
 obtain ⟨T,rc,hT⟩:=L.rc
 have B:Un (frs outer) [] H H1 s.heap s1.heap:=J.base
 have nx': ∀ b o,s.heap.get? b=some o->b≠x:=fun b o e z=>by rw [z,nx]at e;cases e
 have nh': ∀ b o,s.heap.get? b=some o->b∉hs:=fun b o e z=>by rw [(hh b z).2]at e;cases e
 have nfr: ∀ b o,s.heap.get? b=some o->b∉frs outer->b∉frs (envOfC qual scope s.heap.objs.size f cd::outer):=fun b o e nb z=>by
  rcases List.mem_cons.mp (J.stkSub b z)with z | z
  ·have:b<s.heap.objs.size:=Heap.lt_size e
   rw [show b=s.heap.objs.size from z]at this
   exact Nat.lt_irrefl _ this
  ·exact nb z
 refine .mk x T H1 rfl J.os J.bare ⟨fun b o e n hb hx=>?_,fun b o e n hb hx=>?_,B.free,fun b o e hx=>?_,B.tups,B.frzs,B.tbls⟩ (fun a o e=>?_) rc nx ?_ fx ?_ q
 ·exact L.keep b o (nx' b o e) (nh' b o e) (nfr b o e hb) (B.keep b o e n hb hx)
 ·obtain ⟨sl,e1⟩:=B.slot b o e n hb hx
  obtain ⟨sl',e2⟩:=L.slot b _ (eF hb) e1
  exact ⟨sl',e2⟩
 ·obtain ⟨o1,e1⟩:=B.there b o e hx
  by_cases hb:b∈frs (envOfC qual scope s.heap.objs.size f cd::outer)
  ·obtain ⟨sl',e2⟩:=L.slot b _ hb e1
   exact ⟨_,e2⟩
  ·exact ⟨o1,L.keep b o1 (nx' b o e) (nh' b o e) hb e1⟩
 ·have tr: ∀ b u,H1 b=some u-> ∀ v,s1.heap.get? b=some v->h'.get? b=some v:=fun b u e1 v e2=>
   L.keep b v (fun z=>by rw [z,fx]at e1;cases e1) (fun z=>by rw [(hh b z).1]at e1;cases e1) (fun z=>by rw [J.stkFree b z]at e1;cases e1) e2
  refine (J.hok a o e).stay (fun b u hb e2=>?_) (fun _ z=>z) fun _ _ z=>z
  rcases hb with z | z
  ·rw [z]at e2 ⊢;exact tr a o e u e2
  ·exact tr b _ z u e2
 ·rcases hT with z | z
  ·exact (hh T z).2
  ·cases r:s.heap.get? T with
   | none=>rfl
   | some o=>obtain ⟨o1,e1⟩:=B.there T o r (by simp);rw [z]at e1;cases e1
 ·rcases hT with z | z
  ·exact (hh T z).1
  ·exact J.hok.none_of z
theorem fu {CX:CXT} {pins:List (Addr×Obj)} {Z:St} {H1:Hp} {s1:Shared} {x:Addr} {vs:List Value} {h':Heap} (I:Inv (cz CX P w K mg base N qual scope f cd A outer s H E) pins Z H1 s1)
  (m:s1.heap.MadeExcOf h' x (.ref C) vs) (q:E (.ref C) none H1) (hi: ∀ e s',CX1 P w C outer H s E e s'->CX outer H s E e s':=by exact fun _ _ z=>z):(cz CX P w K mg base N qual scope f cd A outer s H E).xe (.ref x) {s1 with heap:=h'}:=by
 have J:Inv (cz CX P w K mg base N qual scope f cd A outer s H E) pins Z H1 {s1 with heap:=h'}:=I.kept (t':=s1.toks) m.keeps
 obtain ⟨t,e,_,_⟩:=m.there
 have nx:s.heap.get? x=none:=by
  cases r:s.heap.get? x with
  | none=>rfl
  | some o=>obtain ⟨o1,e1⟩:=I.base.there x o r (by intro z;cases z);rw [m.new]at e1;cases e1
 exact jD (base:=base) J.ok.frames J.stack rfl e rfl rfl rfl fun h2 L=>hi _ _ (l8 J (I.hok.none_of m.new) nx (fun _ z=>absurd z (by simp)) L q)
theorem u7 {CX:CXT} (hi: ∀ e s',CX1 P w C outer H s E e s'->CX outer H s E e s'):dC (CX1 P w C) (cz CX P w K mg base N qual scope f cd A outer s H E) E:=by
 intro pins Z H1 s1 e s2 I c
 obtain ⟨x,T,H2,rfl,os,bare,un,hok,rc,nx,nT,fx,fT,q⟩:=c
 have J:=I.call' (ch:=[]) os un hok bare (fun b z=>absurd z (by simp))
 have ol: ∀ b,s1.heap.get? b=none->s.heap.get? b=none:=fun b z=>by
  cases r:s.heap.get? b with
  | none=>rfl
  | some o=>obtain ⟨o1,e1⟩:=I.base.there b o r (by intro z;cases z);rw [z]at e1;cases e1
 exact kO (base:=base) J.ok.frames J.stack rfl rc fun h3 L=>hi _ _ (l8 J fx (ol x nx) (fun b (z:b∈[T])=>by rw [List.mem_singleton.mp z];exact ⟨fT,ol _ nT⟩) L q)
theorem sC:dC (CX1 P w C) (cz (CX1 P w C) P w K mg base N qual scope f cd A outer s H E) E:=u7 fun _ _ z=>z
end
section
open PySem.W (excIn tailIn nsOkIn nsIn)
theorem sq {K:PySem.W.Frag} {h:Heap} {C:Addr} {bmB:List Value} {newId:String} (X:K.In h) (q:excIn K C bmB newId=true): ∃ bm N nm qn bs hd sn sub ab col dd k0 k1 k2 k3 k5 mN,
  h.get? C=some (excClassObj nm qn C N bs bm hd sn sub ab col dd k0 k1 k2 k3 k5 newId)/\(h.Ns N mN/\mN "__init__"=none)/\OwnTail h bmB bm:=by
 unfold excIn at q
 split at q
 case h_2=>cases q
 case h_1 dd c sl ho=>
  split at q
  case h_2=>cases q
  case h_1 C' bm k0 k1 k2 k3 n k5 hm hs=>
   rw [Bool.and_eq_true,Bool.and_eq_true,Bool.and_eq_true,Bool.and_eq_true,Bool.and_eq_true]at q
   obtain ⟨⟨⟨⟨⟨q1,q2⟩,q3⟩,q4⟩,q5⟩,q6⟩:=q
   have e1:C'=C:=beq_iff_eq.mp q1
   have e2:n=newId:=beq_iff_eq.mp q2
   have e3:c.hasDel=false:=by rw [Bool.not_eq_true']at q3;exact q3
   have hob:=X _ _ ho
   have hsl:sl= #[k0,k1,k2,k3,some (.builtin n),k5]:=Array.toList_inj.mp hs
   have hcd:c={name:=c.name,bases:=c.bases,mro:=.ref C::bm,ns:=c.ns,qualname:=c.qualname,hasDict:=c.hasDict,slotNames:=c.slotNames,subclasses:=c.subclasses,abstract:=c.abstract,collection:=c.collection,hasDel:=false}:=by
    rw [<- e3,<- e1,<- hm]
   rw [hsl,hcd,e2]at hob
   exact ⟨bm,_,_,_,_,_,_,_,_,_,_,_,_,_,_,_,_,hob,⟨Heap.Ns.of_isNs (PySem.W.isNs_of_in X q5),PySem.W.nsMap_none_of_in X q5 (beq_iff_eq.mp q6)⟩,PySem.W.tail_of_in X q4⟩
variable {X:Cx} {C:Addr} {x:Str} {np cpos pos:Pos} {e:Expr} {es:List Expr} {t:TA} {E:XK} {bmB:List Value} {newId initId:String}
noncomputable def sR (C:Addr) (E:XK) (t:TA):TS:=fun _ Z H=>t Z H fun vs H1=>vs.length<=sizeLine/\E (.ref C) none H1
theorem fh {B:String} (hc:X.calm=true) (hg:Gl X x) (hm:X.mg x=some (.ref C)) (q:excIn X.K C bmB newId=true) (FB:ExcBaseFacts B newId initId bmB)
  (hx: ∀ (pins:List (Addr×Obj)) (Z:St) (H:Hp) (s:Shared) (h':Heap) (y:Addr) (vs:List Value),Inv X pins Z H s->s.heap.MadeExcOf h' y (.ref C) vs->E (.ref C) none H->X.xe (.ref y) {s with heap:=h'})
  (ha:PA X (e::es) t) (hdb:(x==("__debug__":Str))=false:=by decide) (he:starEach (e::es) X.env=(false,eval e X.env)::starEach es X.env:=by rfl) (hpl:(backTo cpos (starEach es X.env)).any (·.1)=false:=by rfl):
  PS X (.Raise (some (.Call (.Name x np) (e::es) [] cpos)) none pos) (sR C E t):=by
 intro pins s Z H D I h
 obtain ⟨bm,N,nm,qn,bs,hd,sn,sub,ab,col,dd,k0,k1,k2,k3,k5,mN,hC,⟨hN,hni⟩,T⟩:=sq I.ok.mod.kin q
 refine wpAny_Raise_call_subT (nm:=nm) (q:=qn) (N:=N) (bs:=bs) (bm:=bm) (hdct:=hd) (sn:=sn) (sub:=sub) (ab:=ab) (col:=col) (dd:=dd) (k0:=k0) (k1:=k1) (k2:=k2) (k3:=k3) (k5:=k5) FB (mN:=mN)
  (T.hasType FB.hasBase) (I.ok.hd hc) ?_ hni (eI I hg hm ⟨rfl,?_⟩ hdb)
 ·rw [he];exact hpl
 have hp:=ha cpos pins s Z H _ I h
 rw [he]at hp ⊢
 refine Calls.evalArgs_plain (thn hp fun us s1 ⟨vs,H1,I1,r,z,w⟩=>?_)
 exact ⟨rfl,by rw [<- r.length];exact z,I1.bk _ _ hC,hN.keeps I1.bk,T.keeps I1.bk,fun h' y m=>hx pins Z H1 s1 h' y us I1 m w⟩
end
theorem Fun.okG {CX:CXT} {P:Program} {w:World} {K:PySem.W.Frag} {mg:Str->Option Value} {base:Heap} {x qual:Str} {st:Stmt} {f:Addr} {fd:FuncData} {N ps:List Str} {k:Nat} {sp:Sp} (F:Fun K x qual st f fd) (S:au N ps (ag st))
  (len: ∀ vs H Q E,sp vs H Q E->vs.length=ps.length)
  (hbody: ∀ (cdv:Value) (A:Around) (outer:List Env) (s:Shared) (H:Hp) (vs:List V) (Q:VK) (E:XK),Room k (A.deeper (envOfC qual (ag st) s.heap.objs.size f cdv))->sp vs H Q E->
   ∃ t,PSs (cz CX P w K mg base N qual (ag st) f cdv A outer s H E) (bd st) t/\t {nx:=fun _ H'=>Q .non H',rt:=Q} (cq N vs) H):FnOk P w K mg base CX (k+1) f fd ps sp:=by
 obtain ⟨oc,od,kV,doc,pm,an,cdv,ct,osl,rfl,lk,hcd⟩:=F.ex
 exact qw lk hcd S len fun A outer s H vs Q E hr hsp=>hbody cdv A outer s H vs Q E hr hsp
theorem Fun.ok1 {P:Program} {w:World} {K:PySem.W.Frag} {mg:Str->Option Value} {base:Heap} {C:Addr} {x qual:Str} {st:Stmt} {f:Addr} {fd:FuncData} {N ps:List Str} {k:Nat} {sp:Sp} (F:Fun K x qual st f fd) (S:au N ps (ag st))
  (len: ∀ vs H Q E,sp vs H Q E->vs.length=ps.length)
  (hbody: ∀ (cdv:Value) (A:Around) (outer:List Env) (s:Shared) (H:Hp) (vs:List V) (Q:VK) (E:XK),Room k (A.deeper (envOfC qual (ag st) s.heap.objs.size f cdv))->sp vs H Q E->
   ∃ t,PSs (cz (CX1 P w C) P w K mg base N qual (ag st) f cdv A outer s H E) (bd st) t/\t {nx:=fun _ H'=>Q .non H',rt:=Q} (cq N vs) H):FnOk P w K mg base (CX1 P w C) (k+1) f fd ps sp:=F.okG S len hbody
section
variable {X:Cx} {x x2:Str} {px px2 tpos pos fpos:Pos} {kk:Nat} {iter elt:Expr} {scope sc0:Scope} {N0 ys:List Str} {fr:List Nat} {wi:TI} {te:TE}
noncomputable def tG (K:PySem.W.Frag):R2:=fun x y H Q=> ∃ a b xs ys,x=.ref a/\y=.ref b/\SqT K H a xs/\SqT K H b ys/\xs.length+ys.length<=sizeLine/\(xs=[]->Q (.ref b) H)/\(xs≠[]->ys=[]->Q (.ref a) H)/\
 (xs≠[]->ys≠[]-> ∀ p,H p=none->Q (.ref p) (upd H p (.tup (xs++ys))))
theorem pO:OpR X (binaryOp .Add) (tG X.K):=by
 intro pins s Z H x y v u Q I rx ry h
 obtain ⟨a,b,xs,ys,e1,e2,h1,h2,h3,q1,q2,q3⟩:=h
 exact pP pins s Z H x y v u Q I rx ry ⟨a,b,xs,ys,e1,e2,h1,h2,h3,q1,q2,q3⟩
end
end L2
namespace HT
open PySem PyProof.Rows
section
variable {prog:Program} {w:World} {A:Around} {s:Shared} {E:Value->Shared->Prop}
noncomputable def vd (l:Addr):Obj:={cls:=.type "list_iterator",data:=.fields #[.ref l,.int 0 0]}
end
end HT
namespace L2
open PySem PySem.Spec PyProof.Rows
section
variable {X:Cx}
theorem lz: ∀ {ws:List Str} {us:List Value},Vals (ws.map V.str) us-> ∃ l:List (Str×Tok),us=strValues l/\l.map (·.1)=ws
 | [],_,.nil=>⟨[],rfl,rfl⟩
 | w::ws,_,.cons r t=>by
  obtain ⟨tk,rfl⟩:=(show ∃ t,_=Value.str w t from r)
  obtain ⟨l,rfl,e⟩:=lz t
  exact ⟨(w,tk)::l,rfl,by rw [List.map_cons,e]⟩
noncomputable def uX (K:PySem.W.Frag):V->List V->Hp->VK->Prop:=fun x vs H Q=> ∃ sep a ws,x=.str sep/\vs=[.ref a]/\SqL K H a (List.map V.str ws)/\Builtin.Str.tooLong (ws.toArray.foldl (· + ·.length+sep.length) 0)=false/\(Builtin.Str.glued sep ws).length<=sizeLine/\Q (.str (Builtin.Str.glued sep ws)) H
theorem rT:MtM X "str.join" (uX X.K):=by
 intro pins s Z H x vs v us Q I rx rv h
 obtain ⟨sep,a,ws,rfl,rfl,hs,hl,hz2,q⟩:=h
 obtain ⟨t,rfl⟩:=(show ∃ t,v=Value.str sep t from rx)
 obtain ⟨u,rfl,ru⟩:=rv.one
 cases (show u=Value.ref a from ru)
 obtain ⟨its,r,pl,hz⟩:=I.list hs
 obtain ⟨l,rfl,e⟩:=lz r
 refine call_meets F.slot_str_join (typeIs_str _ _ _) F.entry_str_join (F.args_str_join_2 _ _) (meets_str_join_list sep t a l (by rw [e];exact hl)) ⟨pl.isList,?_⟩
 have one: ∀ (p:Str×Tok),Builtin.Str.glued sep [p.1]=p.1:=fun p=>rfl
 have many:(joinMade sep l)=.str (Builtin.Str.glued sep (l.map (·.1)))\/ ∃ p,l=[p]:=by
  match l with
  | []=>exact .inl rfl
  | [p]=>exact .inr ⟨p,rfl⟩
  | _::_::_=>exact .inl rfl
 rcases many with m | ⟨p,rfl⟩
 ·rw [m,e]
  exact ⟨hz2,.str _,H,I.tok _,⟨_,rfl⟩,q⟩
 ·rw [<- e]at q
  exact ⟨.str _,H,I,⟨p.2,rfl⟩,q⟩
theorem gO: ∀ (l:List (Str×Tok)),Vals ((l.map (·.1)).map V.str) (strValues l)
 | []=>.nil
 | p::r=>.cons ⟨p.2,rfl⟩ (gO r)
noncomputable def tF:V->List V->Hp->VK->Prop:=fun x vs H Q=> ∃ z y,x=.str z/\vs=[.str y]/\(y.length==0)=false/\z.length+2<=sizeLine/\(Txt.split z y).length<=sizeLine/\ ∀ p,H p=none->Q (.ref p) (upd H p (.lst ((Txt.split z y).map V.str)))
theorem qc:MtM X "str.split" tF:=by
 intro pins s Z H x vs v us Q I rx rv h
 obtain ⟨z,y,rfl,rfl,hy,hz,hz2,q⟩:=h
 obtain ⟨t,rfl⟩:=(show ∃ t,v=Value.str z t from rx)
 obtain ⟨u,rfl,ru⟩:=rv.one
 obtain ⟨t2,rfl⟩:=(show ∃ t,u=Value.str y t from ru)
 have fin: ∀ (l:List (Str×Tok)) (k:Nat),l.map (·.1)=Txt.split z y->EP X pins Z Q (.ref s.heap.objs.size) {s with heap:=s.heap.push {cls:=.type "list",data:=.seq (strValues l).toArray},toks:=k}:=fun l k e=>by
  refine ⟨.ref s.heap.objs.size,_,I.laid (t':=k) (o:=.lst ((Txt.split z y).map V.str)) (fun b ob q=>Heap.get?_push_of_some _ q) (Nat.le_refl _) ?_,rfl,q _ (I.hok.fresh (Nat.le_refl _))⟩
  exact ⟨by rw [List.length_map];exact hz2,_,0,by rw [<- e];exact gO l,Heap.get?_push_size _ rfl⟩
 have hn:(Builtin.Str.partsBetween z (Builtin.Str.occurrences z y 0 z.length (z.length+1)) y.length).length<=sizeLine:=by
  have e1:=StrLaws.occ_length_le z y 0 z.length (z.length+1)
  rw [length_partsBetween];omega
 cases h1:(decide (z.length<y.length)||decide (Builtin.Str.strKind z<Builtin.Str.strKind y))
 ·cases hf:(Builtin.Str.occurrences z y 0 z.length (z.length+1)).isEmpty
  ·refine call_meets F.slot_str_split (typeIs_str _ _ _) F.entry_str_split (F.args_str_split_2 _ _) (meets_str_split_sep z y t t2 h1 hy hf (by omega) hn) ?_
   rw [strsFrom_eq]
   exact fin (numbered s.toks _) _ ((numbered_texts _ _).trans ((if_neg (ne_true_of_eq_false h1)).trans (if_neg (ne_true_of_eq_false hf))).symm)
  ·exact call_meets F.slot_str_split (typeIs_str _ _ _) F.entry_str_split (F.args_str_split_2 _ _) (meets_str_split_not_found z y t t2 h1 hy hf) (fin [(z,t)] s.toks ((if_neg (ne_true_of_eq_false h1)).trans (if_pos hf)).symm)
 ·exact call_meets F.slot_str_split (typeIs_str _ _ _) F.entry_str_split (F.args_str_split_2 _ _) (meets_str_split_cannot_occur z y t t2 h1) (fin [(z,t)] s.toks (if_pos h1).symm)
end
theorem cN {α:Type} {t:Sem α} {Q Q':α->Shared->Prop} {M:Model} {A:Around} {E:Value->Shared->Prop} {s:Shared} (hk:0<s.toks) (h:wpAny M A t Q E s) (hQ: ∀ a s',0<s'.toks->Q a s'->Q' a s'):wpAny M A t Q' E s:=
 fun Γ p hΓ=>Sem.wp_mono M Γ t (fun a _ s' q=>hQ a s' q.1 q.2) (fun _ _ _ q=>q.2) p s (Sem.wp_toks M Γ 1 t _ _ p s hk (h Γ p hΓ))
noncomputable def PEt (X:Cx) (e:Expr) (t:TE):Prop:=
 ∀ (pins:List (Addr×Obj)) (s:Shared) (Z:St) (H:Hp) (Q:VK),0<s.toks->Inv X pins Z H s->t Z H Q->wpAny (model X.prog X.w) X.A (eval e X.env) (EP X pins Z Q) X.xe s
noncomputable def PTt (X:Cx) (e:Expr) (t:TT):Prop:=
 ∀ (pins:List (Addr×Obj)) (s:Shared) (Z:St) (H:Hp) (Q:Bool->Hp->Prop),0<s.toks->Inv X pins Z H s->t Z H Q->wpAny (model X.prog X.w) X.A (isTrue e X.env (eval e X.env)) (TP X pins Z Q) X.xe s
noncomputable def PAt (X:Cx) (es:List Expr) (t:TA):Prop:=
 ∀ (pos:Pos) (pins:List (Addr×Obj)) (s:Shared) (Z:St) (H:Hp) (Q:List V->Hp->Prop),0<s.toks->Inv X pins Z H s->t Z H Q->wpAny (model X.prog X.w) X.A (spliced (backTo pos (starEach es X.env))) (AP X pins Z Q) X.xe s
noncomputable def PSt (X:Cx) (st:Stmt) (t:TS):Prop:=
 ∀ (pins:List (Addr×Obj)) (s:Shared) (Z:St) (H:Hp) (D:fw),0<s.toks->Inv X pins Z H s->t D Z H->wpAny (model X.prog X.w) X.A (exec st X.env) (SP X pins D) X.xe s
noncomputable def PSst (X:Cx) (st:List Stmt) (t:TS):Prop:=
 ∀ (pins:List (Addr×Obj)) (s:Shared) (Z:St) (H:Hp) (D:fw),0<s.toks->Inv X pins Z H s->t D Z H->wpAny (model X.prog X.w) X.A (execs st X.env) (SP X pins D) X.xe s
structure eU (P:Program) (w:World) (K:PySem.W.Frag) (mg:Str->Option Value) (base:Heap) (CX:CXT) (k:Nat) (f:Addr) (fd:FuncData) (ps:List Str) (sp:Sp):Prop where
 len: ∀ vs H Q E,sp vs H Q E->vs.length=ps.length
 run: ∀ (A:Around) (outer:List Env) (s:Shared) (H:Hp) (args:Args) (us:List Value) (vs:List V) (Q:VK) (E:XK),0<s.toks->Room k A->oh P w K mg base A outer s H->BindsTo s fd args (ps.zip us)->Vals vs us->sp vs H Q E->
  codeAny (model P w) A (.call (.ref f) args) (CR CX outer P w H s Q E) s
theorem FnOk.tk {P:Program} {w:World} {K:PySem.W.Frag} {mg:Str->Option Value} {base:Heap} {CX:CXT} {k:Nat} {f:Addr} {fd:FuncData} {ps:List Str} {sp:Sp} (F:FnOk P w K mg base CX k f fd ps sp):eU P w K mg base CX k f fd ps sp:=
 ⟨F.len,fun A outer s H args us vs Q E _=>F.run A outer s H args us vs Q E⟩
section
variable {X:Cx} {CX:CXT} {k:Nat} {f:Addr} {fd:FuncData} {ps:List Str} {sp:Sp} {dvs:List V} {ds:List Value} {E:XK} {x m:Str} {p pos apos cpos:Pos} {a b e o:Expr} {es rest:List Expr} {ta tb te to:TE} {t:TA} {tA tB':TT}
theorem PE.tk (h:PE X e te):PEt X e te:=fun pins s Z H Q _=>h pins s Z H Q
theorem PA.tk (h:PA X es t):PAt X es t:=fun pos pins s Z H Q _=>h pos pins s Z H Q
theorem PS.tk {st:Stmt} {u:TS} (h:PS X st u):PSt X st u:=fun pins s Z H D _=>h pins s Z H D
theorem PSs.tk {st:List Stmt} {u:TS} (h:PSs X st u):PSst X st u:=fun pins s Z H D _=>h pins s Z H D
theorem pI (ha:PEt X e te) (hr:PAt X es t) (hs:starEach (e::es) X.env=(false,eval e X.env)::starEach es X.env:=by rfl):PAt X (e::es) (i8 te t):=by
 intro pos pins s Z H Q hk I h
 rw [hs]
 show wpAny _ _ (spliced ((false,eval e X.env)::backTo pos (starEach es X.env))) _ _ s
 refine Calls.spliced_cons (cN hk (ha pins s Z H _ hk I h) fun u s1 hk1 ⟨x,H1,I1,r1,q1⟩=>?_)
 exact thn (hr pos pins s1 Z H1 _ hk1 I1 q1) fun us s2 ⟨xs,H2,I2,r2,q2⟩=>⟨x::xs,H2,I2,.cons r1 r2,q2⟩
theorem qW {pins:List (Addr×Obj)} {Z:St} {H:Hp} {s:Shared} {Q:VK} {us:List Value} {vs:List V} (F:eU X.prog X.w X.K X.mg X.base CX k f fd ps sp) (hk:0<s.toks) (hr:Room k X.A) (hb:Binds X.K fd ps ds) (hd:Vals dvs ds) (hx:dC CX X E)
  (I:Inv X pins Z H s) (r:Vals vs us) (h:sp (vs++dvs) H Q E):wpAny (model X.prog X.w) X.A (call (.ref f) us) (EP X pins Z Q) X.xe s:=by
 have r2:Vals (vs++dvs) (us++ds):=r.append hd
 have hl:(us++ds).length=ps.length:=by rw [<- r2.length];exact F.len _ _ _ _ h
 refine wpAny_call (codeAny_mono (F.run X.A X.stack s H ⟨us,[]⟩ (us++ds) (vs++dvs) Q E hk hr I.env0 (hb s us I.kIn hl) r2 h) fun r s' hq=>?_)
 cases r with
 | error e=>exact hx pins Z H s e s' I hq
 | ok fl=>
  cases fl with
  | ret u=>exact I.after hq
  | next=>exact False.elim hq
  | brk=>exact False.elim hq
  | cont=>exact False.elim hq
theorem gk (F:eU X.prog X.w X.K X.mg X.base CX k f fd ps sp) (hr:Room k X.A) (hg:Gl X x) (hm:X.mg x=some (.ref f)) (hkp:PySem.W.keepIn X.K (.ref f)=true) (hb:Binds X.K fd ps ds) (hd:Vals dvs ds) (hx:dC CX X E)
  (ha:PAt X (e::es) t) (hdb:(x==("__debug__":Str))=false:=by decide) (he:starEach (e::es) X.env=(false,eval e X.env)::starEach es X.env:=by rfl) (hpl:(backTo pos (starEach es X.env)).any (·.1)=false:=by rfl):
  PEt X (.Call (.Name x p) (e::es) [] pos) (sx sp dvs E t):=by
 intro pins s Z H Q hk I h
 refine wpAny_Call_Name_kw (eI I hg hm ?_ hdb)
 refine PySem.W.callWith_K (h₀:=X.base) I.ok.mod.kin hkp (cN hk (ha pos pins s Z H _ hk I h) fun us s1 hk1 ⟨vs,H1,I1,r,q⟩=>⟨I1.kIn,?_⟩) he hpl
 exact qW F hk1 hr hb hd hx I1 r q
theorem rE {op} (h:PEt X a ta):PEt X (.BoolOp op [a] pos) ta:=fun pins s Z H Q hk I hw=>BoolOp_one (h pins s Z H Q hk I hw)
theorem rH (ha:PEt X a ta) (hb:PEt X (.BoolOp .And (b::rest) pos) tb):PEt X (.BoolOp .And (a::b::rest) pos) (sy ta tb):=by
 intro pins s Z H Q hk I h
 refine BoolOp_and (cN hk (ha pins s Z H _ hk I h) fun v s1 hk1 ⟨x,H1,I1,r1,q1⟩=>?_)
 obtain ⟨c,rfl,q1⟩:=q1
 cases r1
 refine wpAny_truthy_bool ?_
 cases c with
 | true=>exact hb pins s1 Z H1 Q hk1 I1 q1
 | false=>exact ⟨.bl false,H1,I1,rfl,q1⟩
theorem re (ha:PTt X a tA):PTt X (.UnaryOp .Not a pos) (uJ tA):=by
 intro pins s Z H Q hk I h
 exact isTrue_not (ha pins s Z H (fun c H1=>Q (!c) H1) hk I h)
theorem rd (h:PEt X e te) (he: ∀ whole,isTrue e X.env whole=(do let v <- whole;standAt e.pos;holding [v] (truthy v)):=by intro _;rfl):PTt X e (tB te):=by
 intro pins s Z H Q hk I hw
 refine isTrue_plain (thn (h pins s Z H _ hk I hw) fun v s1 ⟨x,H1,I1,r1,q1⟩=>?_) (he _)
 obtain ⟨d,rfl,q⟩:=q1
 cases r1
 exact wpAny_truthy_bool ⟨H1,I1,q⟩
theorem cj {st:Stmt} {sts:List Stmt} {t u:TS} (h1:PSt X st t) (h2:PSst X sts u):PSst X (st::sts) (oE t u):=by
 intro pins s Z H D hk I h
 refine wpAny_execs_cons (cN hk (h1 pins s Z H {D with nx:=u D} hk I h) fun f s1 hk1 q=>?_)
 cases f with
 | next=>
  obtain ⟨Z',H',I',q⟩:=q
  exact h2 pins s1 Z' H' D hk1 I' q
 | ret v=>exact q
 | brk=>exact q
 | cont=>exact q
theorem eA {st:Stmt} {t:TS} (h1:PSt X st t):PSst X [st] t:=by
 intro pins s Z H D hk I h
 refine wpAny_execs_cons (thn (h1 pins s Z H D hk I h) fun f s1 q=>?_)
 cases f with
 | next=>exact wpAny_execs_nil q
 | ret v=>exact q
 | brk=>exact q
 | cont=>exact q
theorem rg (he:PEt X e te):PSt X (.Return (some e) pos) (uF te):=by
 intro pins s Z H D hk I h
 exact wpAny_Return_some (thn (he pins s Z H _ hk I h) fun v s1 ⟨x,H1,I1,r1,q1⟩=>⟨x,Z,H1,I1,r1,q1⟩)
theorem tR {T id:String} {r:V->List V->Hp->VK->Prop} {name:Str} (pa:PlainAttrs T) (slot:Slot T name id) (hty:typeOf (.builtin id)=pure (.type "method_descriptor")) (hm:MtM X id r) (ho:PEt X o to) (ha:PA X (e::es) t)
  (hbase:attributeBase o name X.env (eval o X.env)=eval o X.env:=by rfl)
  (hfew:((backTo cpos (starEach (e::es) X.env)).all (fun x=> !x.1)&&(backToKw cpos (keywordEach [] X.env)).all (fun x=>x.1.isSome)
   &&decide ((e::es).length+ ([]:List Keyword).length+ (if ([]:List Keyword).isEmpty then 0 else 1) <30))=true:=by rfl)
  (hline:(apos.endLine==cpos.line)=true:=by rfl) (hs:starEach (e::es) X.env=(false,eval e X.env)::starEach es X.env:=by rfl) (hplain:(backTo cpos (starEach es X.env)).any (·.1)=false:=by rfl):
  PEt X (.Call (.Attribute o name apos) (e::es) [] cpos) (tBM X.K T r to t):=by
 intro pins s Z H Q hk I h
 refine wpAny_Call_method_late hbase hfew hline rfl (thn (ho pins s Z H _ hk I h) fun v s1 ⟨x,H1,I1,r1,ty,q1⟩=>?_)
 obtain ⟨h1,h2⟩:=jY I1 r1 ty
 refine ⟨T,id,pa,slot,hty,h1,h2,?_⟩
 have hA:=ha cpos pins s1 Z H1 _ I1 q1
 rw [hs]at hA ⊢
 refine Calls.callWith_builtin (by show (false||(backTo cpos (starEach es X.env)).any (·.1))=false;rw [hplain] <;> rfl) (Calls.evalArgs_plain ?_)
 exact thn hA fun us s2 ⟨vs,H2,I2,r2,q2⟩=>hm pins s2 Z H2 x vs v us Q I2 r1 r2 q2
noncomputable def uG (y z:Str) (to:TE):TE:=fun Z H Q=>to Z H fun x H1=> ∃ w,x=.str w/\w.length<=1048576/\Q (.str (Txt.replace w y z)) H1
theorem jq {y z:Str} {j1 j2:Nat} {p1 p2:Pos} (hyz:(y==z)=false) (hz:z.length<=14) (ho:PEt X o to)
  (hbase:attributeBase o "replace" X.env (eval o X.env)=eval o X.env:=by rfl)
  (hline:(apos.endLine==cpos.line)=true:=by rfl):
  PEt X (.Call (.Attribute o "replace" apos) [.Constant (.str y) j1 p1,.Constant (.str z) j2 p2] [] cpos) (uG y z to):=by
 intro pins s Z H Q hk I h
 refine wpAny_Call_method_late hbase rfl hline rfl (cN hk (ho pins s Z H _ hk I h) fun v s1 hk1 ⟨x,H1,I1,r1,w,ew,hw,q1⟩=>?_)
 subst ew
 obtain ⟨tk,rfl⟩:=(show ∃ t,v=Value.str w t from r1)
 refine ⟨"str","str.replace",PySem.F.plainAttrs_str,PySem.F.slot_str_replace,rfl,typeIs_str s1 w tk,(fun _ e=>nomatch e),?_⟩
 refine Calls.callWith_builtin rfl (Calls.evalArgs_plain ?_)
 refine Calls.spliced_cons (Calls.Constant_str (k:=j1) (pos:=p1) ?_)
 refine Calls.spliced_cons (Calls.Constant_str (k:=j2) (pos:=p2) ?_)
 refine Calls.spliced_nil ?_
 refine SC.replaceW (Nat.ne_of_gt hk1) (by exact Nat.succ_ne_zero _) (by exact (Nat.succ_ne_self _).symm) hyz hw hz fun t' k=>?_
 exact ⟨.str _,H1,(I1.tok _).tok _,⟨t',rfl⟩,q1⟩
end
section
variable {P:Program} {w:World} {K:PySem.W.Frag} {mg:Str->Option Value} {base:Heap}
theorem PSst.nox {X:Cx} {st:List Stmt} {t:TS} (h:PSst X.nox st t):PSst X st t:=fun pins s Z H D hk I hw=>
 wpAny_mono (h pins s Z H D hk (I.wish _) hw) (fun _ _ z=>z.unwish) fun _ _ z=>z.elim
theorem Fun.okT {x qual:Str} {st:Stmt} {f:Addr} {fd:FuncData} {N ps:List Str} {k:Nat} {sp:Sp} (F:Fun K x qual st f fd) (S:au N ps (ag st)) (len: ∀ vs H Q E,sp vs H Q E->vs.length=ps.length)
  (hbody: ∀ (cdv:Value) (A:Around) (outer:List Env) (s:Shared) (H:Hp) (vs:List V) (Q:VK) (E:XK),Room k (A.deeper (envOfC qual (ag st) s.heap.objs.size f cdv))->sp vs H Q E->
   ∃ t,PSst (cz CX0 P w K mg base N qual (ag st) f cdv A outer s H E).nox (bd st) t/\t {nx:=fun _ H'=>Q .non H',rt:=Q} (cq N vs) H):eU P w K mg base CX0 (k+1) f fd ps sp:=by
 obtain ⟨oc,od,kV,doc,pm,an,cdv,ct,osl,rfl,lk,hcd⟩:=F.ex
 refine ⟨len,fun A outer s H args us vs Q E hk hr e0 hb r hsp=>?_⟩
 have hl:=len _ _ _ _ hsp
 have KX:K.In s.heap:=e0.mod.kin.keeps fun b o e=>(e0.bs b o e).1
 have lim:s.heap.NoLimit:=e0.mod.nolimit.keeps fun b o e=>(e0.bs b o e).1
 have hkind: ∀ y∈ps.zip us,(ag st).names.lookup y.1=some .local\/((ag st).names.lookup y.1=some .cell/\((cellsFrom (s.heap.objs.size+1) (ag st).names []).lookup y.1).isSome=true):=fun ⟨n,v⟩ hy=>by
  rcases S.par n (List.of_mem_zip hy).1 with q | q
  ·exact .inl q
  ·exact .inr ⟨q,PySem.W.cellsFrom_some _ _ _ (.inl q)⟩
 refine codeAny_call_function hr.depth (KX _ _ lk) rfl S.co S.gen rfl (PySem.W.codeRec_of KX hcd) (hb _ _ _ _ ?_)
 refine cN hk (wpAny_newFunctionEnv_cells (Q:=fun env s1=>env=newEnv (ag st) s.heap.objs.size _ (cellsFrom (s.heap.objs.size+1) (ag st).names []) _ _ _ none _/\InCallC s env.locals (bindL env.kindOf (ps.zip us) fun _=>none) env.cells (bindC env.kindOf (ps.zip us) fun _=>none) s1) S.kind hkind fun env he s1 x=>⟨he,x⟩) fun env s1 hk1 ⟨he,x⟩=>?_
 subst he
 refine ⟨lim.keeps x.toInCall.keep,codeAny_func ?_⟩
 obtain ⟨t,ht0,hq⟩:=hbody cdv A outer s H vs Q E (hr.deeper _) hsp
 have ht:=ht0.nox
 have I:Inv (cz CX0 P w K mg base N qual (ag st) f cdv A outer s H E) [] (cq N vs) H s1:=fo S hr.hd e0 hl r x
 refine wpAny_mono (ht [] s1 (cq N vs) H _ hk1 I hq) (fun fl s' hs=>?_) fun e s' hs=>hs
 have fin: ∀ {Z':St} {H':Hp} {v:V} {u:Value},Inv (cz CX0 P w K mg base N qual (ag st) f cdv A outer s H E) [] Z' H' s'->RelV v u->Q v H'->CE outer P w H s Q u s':=
  fun {Z' H' v u} J rv q=>⟨v,H',J.os,J.bare,J.base,J.hok,rv,q⟩
 cases fl with
 | ret u=>
  obtain ⟨v,Z',H',J,rv,q⟩:=hs
  exact fin J rv q
 | next=>
  obtain ⟨Z',H',J,q⟩:=hs
  exact fin (v:=V.non) (u:=Value.none) J rfl q
 | brk=>
  obtain ⟨_,_,_,q⟩:=hs
  exact False.elim q
 | cont=>
  obtain ⟨_,_,_,q⟩:=hs
  exact False.elim q
end
section
variable {X:Cx} {o l:Expr} {to tl:TE} {p pos apos cpos:Pos}
noncomputable def Itv (K:PySem.W.Frag) (a:Addr) (n:Nat):It:=
 ⟨fun i H=>i<n/\ ∃ xs,xs.length=n/\SqL K H a xs,fun i H x H'=>H'=H/\ ∀ xs,SqL K H a xs->xs[n-1-i]? =some x,fun i H=>i=n⟩
theorem oC {P:Program} {w:World} {K:PySem.W.Frag} {tg:Expr} (a it:Addr) (n:Nat):iU P w K tg (Itv K a n) [it] it (fun i h=>h.IsRevIter it a ((n:Int) -1- (i:Int))) where
 mem:=by simp
 obj:=fun i h st b hb=>by
  have e:b=it:=by simpa using hb
  subst e
  obtain ⟨o,e,c,d⟩:=st
  exact ⟨o,e,fun v z=>by rw [d]at z;cases z⟩
 keep:=fun i h h' st k=>st.at fun o e=>k it (by simp) o e
 item:=by
  intro X hP hw hK hc i pins s Z H E I hf st hg
  subst hP hw hK
  obtain ⟨hi,xs,hn,hq⟩:=hg
  obtain ⟨its,rv,p,hz⟩:=I.list hq
  have hl:=rv.length
  have hx:xs[n-1-i]? =some (xs[n-1-i]'(by omega)):=List.getElem?_eq_getElem (by omega)
  obtain ⟨u,hu,ru⟩:=rv.get hx
  obtain ⟨f0,f1,f2,f3,f4,f5⟩:=hf it (by simp)
  have st1:s.heap.IsRevIter it a ((n-1-i:Nat):Int):=by
   have e:(n:Int) -1- (i:Int)=((n-1-i:Nat):Int):=by omega
   rw [<- e];exact st
  refine wpAny_pyNext_rev_item st1 p.isList (x:=u) (by simpa using hu) fun h' st' sb=>?_
  have I1:Inv X pins Z H {s with heap:=h'}:=I.turned (t':=s.toks) (fun b o hb e=>(sb.2 b hb).trans e) f0 f1 f3 f4 f5
  have st2:h'.IsRevIter it a ((n:Int) -1- ((i+1:Nat):Int)):=by
   have e:(n:Int) -1- ((i+1:Nat):Int)=((n-1-i:Nat):Int) -1:=by omega
   rw [e];exact st'
  obtain ⟨o,e,c,d⟩:=id st'
  exact ⟨u,rfl,jJ (s:={s with heap:=h'}) e c d (by decide) ⟨_,H,I1,ru,⟨rfl,fun ys hy=>by rw [I.list_inj hy hq];exact hx⟩,st2,fun b hb=>(hf b hb).1⟩⟩
 done:=by
  intro X hP hw hK hc i pins s Z H E I hf st hg
  subst hP hw hK
  have hi:i=n:=hg
  obtain ⟨f0,f1,f2,f3,f4,f5⟩:=hf it (by simp)
  have st1:s.heap.IsRevIter it a (-1):=by
   have e:(n:Int) -1- (i:Int)= -1:=by omega
   rw [<- e];exact st
  exact wpAny_pyNext_rev_end (I.ok.hd hc) st1 fun h' eb=>⟨rfl,I.turned (t':=s.toks) (fun b o hb e=>eb b o hb e) f0 f1 f3 f4 f5⟩
 self:=fun _ _ _ _ _ st h=>wpAny_pyIter_revIter st h
noncomputable def vU (K:PySem.W.Frag) (tl:TE):TI:=fun Z H R=>tl Z H fun x H1=> ∃ a xs,x=.ref a/\SqL K H1 a xs/\R (Itv K a xs.length) H1
theorem tO {tg:Expr} (hg:Gl X "reversed") (hm:X.mg "reversed"=none) (hl:PE X l tl) (hs:starEach [l] X.env=[(false,eval l X.env)]:=by rfl):PI X tg (.Call (.Name "reversed" p) [l] [] pos) (vU X.K tl):=by
 intro pins s Z H R I h
 refine Call_ (dA I hg hm (show bootBuiltins "reversed"=some (.type "reversed") by decide +kernel) (PyProof.Rows.callWith_type1 (by rw [hs];exact Calls.spliced_cons (thn (hl pins s Z H _ I h) fun v s1 ⟨x,H1,I1,r1,q1⟩=>Calls.spliced_nil (by
  obtain ⟨a,xs,ex,hq,q⟩:=q1
  subst ex
  cases r1
  obtain ⟨its,rv,pl,hz⟩:=I1.list hq
  refine call_reversed_list pl.isList ?_
  refine wpAny_pyIter_revIter (i:=(its.toArray.size:Int) -1) ⟨_,Heap.get?_push_size _ rfl,rfl,rfl⟩ ?_
  refine ⟨s1.heap.objs.size,[s1.heap.objs.size],_,_,H1,rfl,I1.kept (t':=s1.toks) fun b o e=>Heap.get?_push_of_some _ e,oC a _ xs.length,⟨_,Heap.get?_push_size _ rfl,rfl,?_⟩,fun b hb=>?_,q⟩
  ·have e:(its.toArray.size:Int) -1=(xs.length:Int) -1- ((0:Nat):Int):=by rw [List.size_toArray,rv.length];omega
   rw [<- e];rfl
  ·have e:b=s1.heap.objs.size:=by simpa using hb
   subst e
   exact I1.fpOk (Nat.le_refl _) (I1.hok.fresh (Nat.le_refl _))))) (by rw [hs];rfl) rfl))
theorem sj {K:PySem.W.Frag} {a:Addr} {xs:List V} {g:TG} {tb:TS} {D:fw} {Z:St} {H:Hp} (Pv:Nat->St->Hp->Prop) (h0:Pv 0 Z H) (hl: ∀ i Z H,i<=xs.length->Pv i Z H->SqL K H a xs)
  (step: ∀ i x Z H,i<xs.length->xs[xs.length-1-i]? =some x->Pv i Z H->g x Z H fun Z2 H2=>tb {D with nx:=Pv (i+1),ct:=Pv (i+1),bk:=D.nx} Z2 H2) (fin: ∀ Z H,Pv xs.length Z H->D.nx Z H):
  ∃ W:Nat->Nat->St->Hp->Prop,(∃ m,W 0 m Z H)/\ ∀ i m Z H,W i m Z H->
   ((Itv K a xs.length).stop i H/\D.nx Z H)\/((Itv K a xs.length).go i H/\ ∃ N:St->Hp->Prop,(∀ Z' H',N Z' H'-> ∃ m',m'<m/\W (i+1) m' Z' H')/\ ∀ x H',(Itv K a xs.length).yld i H x H'->g x Z H' fun Z2 H2=>tb {D with nx:=N,ct:=N,bk:=D.nx} Z2 H2):=by
 refine ⟨fun i m Z H=>m=xs.length-i/\i<=xs.length/\Pv i Z H,⟨xs.length,by simp,Nat.zero_le _,h0⟩,?_⟩
 rintro i m Z H ⟨rfl,hi,p⟩
 have q:=hl i Z H hi p
 by_cases hlt:i<xs.length
 ·refine .inr ⟨⟨hlt,xs,rfl,q⟩,Pv (i+1),fun Z' H' p'=>⟨xs.length- (i+1),by omega,rfl,hlt,p'⟩,fun x H' y=>?_⟩
  obtain ⟨e,y⟩:=y
  subst e
  exact step i x Z _ hlt (y xs q) p
 ·have e:i=xs.length:=by omega
  subst e
  exact .inl ⟨rfl,fin Z H p⟩
end
section
variable {P:Program} {w:World} {K:PySem.W.Frag} {mg:Str->Option Value} {base:Heap}
theorem Fun.okTG {CX:CXT} {x qual:Str} {st:Stmt} {f:Addr} {fd:FuncData} {N ps:List Str} {k:Nat} {sp:Sp} (F:Fun K x qual st f fd) (S:au N ps (ag st)) (len: ∀ vs H Q E,sp vs H Q E->vs.length=ps.length)
  (hbody: ∀ (cdv:Value) (A:Around) (outer:List Env) (s:Shared) (H:Hp) (vs:List V) (Q:VK) (E:XK),Room k (A.deeper (envOfC qual (ag st) s.heap.objs.size f cdv))->sp vs H Q E->
   ∃ t,PSst (cz CX P w K mg base N qual (ag st) f cdv A outer s H E) (bd st) t/\t {nx:=fun _ H'=>Q .non H',rt:=Q} (cq N vs) H):eU P w K mg base CX (k+1) f fd ps sp:=by
 obtain ⟨oc,od,kV,doc,pm,an,cdv,ct,osl,rfl,lk,hcd⟩:=F.ex
 refine ⟨len,fun A outer s H args us vs Q E hk hr e0 hb r hsp=>?_⟩
 have hl:=len _ _ _ _ hsp
 have KX:K.In s.heap:=e0.mod.kin.keeps fun b o e=>(e0.bs b o e).1
 have lim:s.heap.NoLimit:=e0.mod.nolimit.keeps fun b o e=>(e0.bs b o e).1
 have hkind: ∀ y∈ps.zip us,(ag st).names.lookup y.1=some .local\/((ag st).names.lookup y.1=some .cell/\((cellsFrom (s.heap.objs.size+1) (ag st).names []).lookup y.1).isSome=true):=fun ⟨n,v⟩ hy=>by
  rcases S.par n (List.of_mem_zip hy).1 with q | q
  ·exact .inl q
  ·exact .inr ⟨q,PySem.W.cellsFrom_some _ _ _ (.inl q)⟩
 refine codeAny_call_function hr.depth (KX _ _ lk) rfl S.co S.gen rfl (PySem.W.codeRec_of KX hcd) (hb _ _ _ _ ?_)
 refine cN hk (wpAny_newFunctionEnv_cells (Q:=fun env s1=>env=newEnv (ag st) s.heap.objs.size _ (cellsFrom (s.heap.objs.size+1) (ag st).names []) _ _ _ none _/\InCallC s env.locals (bindL env.kindOf (ps.zip us) fun _=>none) env.cells (bindC env.kindOf (ps.zip us) fun _=>none) s1) S.kind hkind fun env he s1 x=>⟨he,x⟩) fun env s1 hk1 ⟨he,x⟩=>?_
 subst he
 refine ⟨lim.keeps x.toInCall.keep,codeAny_func ?_⟩
 obtain ⟨t,ht0,hq⟩:=hbody cdv A outer s H vs Q E (hr.deeper _) hsp
 have ht:=ht0
 have I:Inv (cz CX P w K mg base N qual (ag st) f cdv A outer s H E) [] (cq N vs) H s1:=fo S hr.hd e0 hl r x
 refine wpAny_mono (ht [] s1 (cq N vs) H _ hk1 I hq) (fun fl s' hs=>?_) fun e s' hs=>hs
 have fin: ∀ {Z':St} {H':Hp} {v:V} {u:Value},Inv (cz CX P w K mg base N qual (ag st) f cdv A outer s H E) [] Z' H' s'->RelV v u->Q v H'->CE outer P w H s Q u s':=
  fun {Z' H' v u} J rv q=>⟨v,H',J.os,J.bare,J.base,J.hok,rv,q⟩
 cases fl with
 | ret u=>
  obtain ⟨v,Z',H',J,rv,q⟩:=hs
  exact fin J rv q
 | next=>
  obtain ⟨Z',H',J,q⟩:=hs
  exact fin (v:=V.non) (u:=Value.none) J rfl q
 | brk=>
  obtain ⟨_,_,_,q⟩:=hs
  exact False.elim q
 | cont=>
  obtain ⟨_,_,_,q⟩:=hs
  exact False.elim q
end
section
variable {X:Cx}
theorem tH {c:Expr} {a b:List Stmt} {tc:TT} {t u:TS} {pos:Pos} (hc:PTt X c tc) (ha:PSst X a t) (hb:PSst X b u):PSt X (.If c a b pos) (uM tc t u):=by
 intro pins s Z H D hk I h
 refine wpAny_If (cN hk (hc pins s Z H _ hk I h) fun d s1 hk1 ⟨H1,I1,q1⟩=>?_)
 cases d with
 | true=>exact ha pins s1 Z H1 D hk1 I1 q1
 | false=>exact hb pins s1 Z H1 D hk1 I1 q1
theorem rh {tg iter:Expr} {body:List Stmt} {wi:TI} {g:TG} {tb:TS} {pos:Pos} (hp:PassesOwn (model X.prog X.w) X.A X.env X.xe) (hc:X.calm=true) (hi:PI X tg iter wi) (hg:PG X tg g) (hb:PSst X body tb)
  (hs: ∀ x,foldedSetIterable iter X.env x=pure x:=by intro _;rfl):PSt X (.For tg iter body [] pos) (qQ wi g tb):=by
 intro pins s Z H D hk I h
 refine wpAny_For (cN hk (hi pins s Z H _ I h) fun v s1 hk1 h1=>cN hk1 h1 fun itv s2 hk2 h2=>?_) hs
 obtain ⟨it,fp,tn,J,H2,e,I2,T,st2,f2,W,⟨m0,w0⟩,turn⟩:=h2
 subst e
 have stat: ∀ {H':Hp},(∀ b∈fp,H' b=none)-> ∀ b∈fp,eS X pins H' b:=fun hn b hb=>⟨hn b hb,(f2 b hb).2⟩
 refine codeAny_forLoop_any (fun n s'=>0<s'.toks/\ ∃ i Z' H',Inv X pins Z' H' s'/\tn i s'.heap/\(∀ b∈fp,H' b=none)/\W i n Z' H') ?_ m0 ⟨hk2,0,Z,H2,I2,st2,fun b hb=>(f2 b hb).1,w0⟩
 rintro n s3 ⟨hk3,i,Z3,H3,I3,st3,fr3,w3⟩
 rcases turn i n Z3 H3 w3 with ⟨stop,qn⟩ | ⟨go,N,hN,step⟩
 ·refine wpAny_passesOwn hp (thn (T.done X rfl rfl rfl hc i pins s3 Z3 H3 X.xe I3 (stat fr3) st3 stop) fun r s4 ⟨hr,I4⟩=>?_)
  subst hr
  exact wpAny_execs_nil ⟨Z3,H3,I4,qn⟩
 ·refine wpAny_passesOwn hp (cN hk3 (T.item X rfl rfl rfl hc i pins s3 Z3 H3 X.xe I3 (stat fr3) st3 go) fun r s4 hk4 ⟨u,hr,h4⟩=>?_)
  subst hr
  refine wpAny_passesOwn hp (cN hk4 h4 fun _ s5 hk5 ⟨x,H5,I5,r5,y5,st5,fr5⟩=>?_)
  have I5':=I5.pinned (stat fr5) (T.obj _ _ st5)
  refine wpAny_passesOwn hp (cN hk5 (hg _ s5 Z3 H5 x u _ I5' r5 (step x H5 y5)) fun _ s6 hk6 ⟨Z6,H6,I6,q6⟩=>?_)
  refine wpAny_passesOwn hp (cN hk6 (hb _ s6 Z6 H6 _ hk6 I6 q6) fun f s7 hk7 q7=>?_)
  have again: ∀ {Z7:St} {H7:Hp},Inv X (pins++dU fp s5.heap) Z7 H7 s7->N Z7 H7-> ∃ m,m<n/\0<s7.toks/\ ∃ i Z' H',Inv X pins Z' H' s7/\tn i s7.heap/\(∀ b∈fp,H' b=none)/\W i m Z' H':=fun {Z7 H7} I7 n7=>by
   obtain ⟨m',hm,w7⟩:=hN Z7 H7 n7
   refine ⟨m',hm,hk7,i+1,Z7,H7,I7.unpinned,T.keep _ _ _ st5 fun b hb o e=>(I7.pin (b,o) (List.mem_append_right _ (List.mem_append_right _ (aY hb e)))).1,fun b hb=>?_,w7⟩
   obtain ⟨o,e,d⟩:=T.obj _ _ st5 b hb
   exact (I7.pin (b,o) (List.mem_append_right _ (List.mem_append_right _ (aY hb e)))).2.1
  cases f with
  | next=>obtain ⟨Z7,H7,I7,n7⟩:=q7;exact again I7 n7
  | cont=>obtain ⟨Z7,H7,I7,n7⟩:=q7;exact again I7 n7
  | brk=>obtain ⟨Z7,H7,I7,q7⟩:=q7;exact ⟨Z7,H7,I7.unpinned,q7⟩
  | ret v=>obtain ⟨x7,Z7,H7,I7,r7,q7⟩:=q7;exact ⟨x7,Z7,H7,I7.unpinned,r7,q7⟩
end
end L2
namespace HT
open PySem PyProof.Rows
section
variable {prog:Program} {w:World} {A:Around} {s:Shared} {E:Value->Shared->Prop} {d it:Addr} {ks:List (Value×Value)} {i ep:Nat}
noncomputable def IEs (h:Heap) (d:Addr) (ks:List (Value×Value)) (ep:Nat):Prop:= ∃ o es,h.get? d=some o/\o.ExactDict/\o.data=.dict es ep/\es.toList.map (fun e=>(e.key,e.val))=ks
theorem IEs.type (m:IEs s.heap d ks ep):s.TypeIs (.ref d) "dict":=by
 obtain ⟨o,_,ho,hc,_⟩:=m
 exact ⟨o,ho,hc.1⟩
theorem IEs.keeps {h h':Heap} (m:IEs h d ks ep) (k: ∀ o,h.get? d=some o->h'.get? d=some o):IEs h' d ks ep:=by
 obtain ⟨o,es,ho,r⟩:=m
 exact ⟨o,es,k o ho,r⟩
theorem dR {es:Array DictEntry} (e:es.toList.map (fun e=>(e.key,e.val))=ks):es.size=ks.length:=by
 rw [<- e,List.length_map,Array.length_toList]
theorem call_ies {Q:Value->Shared->Prop} (lo:(d==sysModules)=false) (m:IEs s.heap d ks ep)
  (q:Q (.ref s.heap.objs.size) {s with heap:=s.heap.push {cls:=.type "dict_items",data:=.fields #[.ref d]}}):wpAny (model prog w) A (call (.builtin "dict.items") [.ref d]) Q E s:=by
 have ty:=m.type
 refine wpAny_call_entry PySem.F.slot_dict_items ty PySem.F.entry_dict_items ?_ (PySem.F.args_dict_items_1 _)
 refine wpAny_bind ?_
 unfold Builtin.Dict.noArgs
 refine wpAny_bind (wpAny_notOrdered_dict ty ?_)
 refine (show wpAny _ _ (pure d) _ _ s from wpAny_pure (show wpAny _ _ (Builtin.Dict.showsAll d >>= _) _ _ s from ?_))
 unfold Builtin.Dict.showsAll
 rw [if_neg (by rw [lo];exact Bool.false_ne_true)]
 exact wpAny_bind (wpAny_pure (wpAny_bind (wpAny_newObj_type (wpAny_pure ⟨_,rfl,q⟩))))
theorem iter_ies {r:Addr} {Q:Value->Shared->Prop} (hv:s.heap.IsItemsView r d) (m:IEs s.heap d ks ep)
  (q:Q (.ref s.heap.objs.size) {s with heap:=s.heap.push {cls:=.type "dict_itemiterator",data:=.fields #[.none,.bool false,.ref d,.int 0 0,.int ks.length 0,.int ep 0,.none,.none]}}):wpAny (model prog w) A (pyIter (.ref r)) Q E s:=by
 obtain ⟨ov,hov,hcv,hdv⟩:=(show ∃ o,s.heap.get? r=some o/\o.cls=.type "dict_items"/\o.data=.fields #[.ref d]from hv)
 obtain ⟨o,es,ho,hc,hdat,hk⟩:=m
 refine wpAny_pyIter_slot hv.typeIs PySem.F.slot_dict_items_iter (wpAny_call_entry PySem.F.slot_dict_items_iter hv.typeIs PySem.F.entry_dict_items_iter ?_ (PySem.F.args_dict_items_iter_1 _))
 unfold Builtin.«dict_items.__iter__» Builtin.Dict_items.dictOf Builtin.Dict_items.newIterator
 refine wpAny_bind (wpAny_pure (wpAny_bind (wpAny_bind (wpAny_field hov hdv (x:=.ref d) rfl (wpAny_pure (wpAny_bind (wpAny_bind (wpAny_dictEntries ho hdat (wpAny_bind (wpAny_dictEpoch ho hdat ?_))))))))))
 have own:Builtin.Dict_items.ownsTuple "dict_itemiterator"=true:=by decide
 simp only [own,if_true]
 refine wpAny_newObj_type (wpAny_pure ⟨_,rfl,"dict_itemiterator",_,⟨_,Heap.get?_push_size _ rfl,rfl⟩,PySem.F.slot_dict_itemiterator_next.lookup,?_⟩)
  (by simp only [sizeOk,Builtin.Dict_items.ownedTupleFields,List.size_toArray,List.length_append,List.length_cons,List.length_nil,sizeLine_eq];omega)
 simpa [rawInt,dR hk,Builtin.Dict_items.ownedTupleFields]using q
theorem next_ies {x y ok ov:Value} {Q:Option Value->Shared->Prop} (st:IsItemIter s.heap it d i ks.length ep ok ov) (m:IEs s.heap d ks ep) (hx:ks[i]? =some (x,y))
  (q: ∀ h',IsItemIterOut h' it d (i+1) ks.length ep x y s.heap.objs.size->h'.get? s.heap.objs.size=some {cls:=.type "tuple",data:=.seq #[x,y]}->
   (∀ b o,b≠it->s.heap.get? b=some o->h'.get? b=some o)->Q (some (.ref s.heap.objs.size)) {s with heap:=h'}):wpAny (model prog w) A (pyNext (.ref it)) Q E s:=by
 obtain ⟨hp,g,dr,tk,os⟩:=s
 obtain ⟨od,es,hod,hcd,hdd,hk⟩:=m
 have ty:Shared.TypeIs ⟨hp,g,dr,tk,os⟩ (.ref it) "dict_itemiterator":=⟨_,st,rfl⟩
 have hz:=dR hk
 have hlt:i<ks.length:=(List.getElem?_eq_some_iff.mp hx).1
 have hes:i<es.size:=by omega
 have hkv:(es[i].key,es[i].val)=(x,y):=by
  have e1:(es.toList.map (fun e=>(e.key,e.val)))[i]? =some (x,y):=by rw [hk];exact hx
  rw [List.getElem?_map,Array.getElem?_toList,Array.getElem?_eq_getElem hes]at e1
  exact Option.some.inj e1
 have hkx:es[i].key=x:=(Prod.mk.inj hkv).1
 have hvy:es[i].val=y:=(Prod.mk.inj hkv).2
 unfold pyNext
 refine wpAny_bind (wpAny_attempt (wpAny_callSpecial?_slot (name:=Str.ofString "__next__") ty PySem.F.slot_dict_itemiterator_next (wpAny_call_entry PySem.F.slot_dict_itemiterator_next ty PySem.F.entry_dict_itemiterator_next ?_ (PySem.F.args_dict_itemiterator_next_1 _))))
 refine wpAny_bind (wpAny_pure (wpAny_bind (wpAny_bind ?_)))
 first | refine wpAny_bind (wpAny_typeNameOfWhole_itemiter ty (wpAny_pure (wpAny_bind (wpAny_fieldsOf st rfl ?_)))) | refine wpAny_bind (wpAny_typeNameOf_itemiter ty (wpAny_pure (wpAny_bind (wpAny_fieldsOf st rfl ?_))))
 have own:Builtin.Dict_items.ownsTuple "dict_itemiterator"=true:=by decide
 simp only [own,if_true]
 refine (show wpAny _ _ (if (Value.ref d==Value.none)=true then _ else _) _ _ _ from ?_)
 rw [if_neg fun b0:(Value.ref d==Value.none)=true=>Bool.false_ne_true b0]
 refine wpAny_bind (wpAny_pure (wpAny_bind (wpAny_dictEntries hod hdd ?_)))
 rw [if_neg (by rw [hz];simp)]
 refine wpAny_bind (wpAny_pure (wpAny_bind (wpAny_dictEpoch hod hdd ?_)))
 rw [if_neg (by simp)]
 refine wpAny_pure ?_
 simp only [show ¬ ((i:Int) <0)from by omega,if_false,Int.toNat_natCast,Array.getElem?_eq_getElem hes]
 refine wpAny_bind ?_
 first | refine wpAny_bind (wpAny_typeNameOfWhole_itemiter ty (wpAny_pure (wpAny_bind (wpAny_isOneOf_itemiter ty ?_)))) | refine wpAny_bind (wpAny_typeNameOf_itemiter ty (wpAny_pure (wpAny_bind (wpAny_isOneOf_itemiter ty ?_))))
 refine (show wpAny _ _ (setField (.ref it) 3 (rawInt ((i:Int) +1)) >>= _) _ _ ⟨hp,g,dr,tk,os⟩from ?_)
 refine wpAny_bind (wpAny_setField_rec st (by simp) fun h1 e1 b1=>?_)
 replace b1:Heap.SameBut it hp h1:=b1
 replace e1:IsItemIter h1 it d (i+1) ks.length ep ok ov:=by
  have e:((i+1:Nat):Int)=(i:Int) +1:=by omega
  unfold IsItemIter
  rw [e]
  simpa [rawInt]using e1
 have ty1:Shared.TypeIs ⟨h1,g,dr,tk,os⟩ (.ref it) "dict_itemiterator":=⟨_,e1,rfl⟩
 refine wpAny_bind (wpAny_holding (wpAny_bind (wpAny_isOneOf_itemiter ty1 (wpAny_bind (wpAny_isOneOf_itemiter ty1 ?_)))))
 rw [hkx,hvy]
 refine (show wpAny _ _ (Builtin.Dict_items.pairFromOwner (.ref it) 6 x y) _ _ ⟨h1,g,dr,tk,os⟩from ?_)
 unfold Builtin.Dict_items.pairFromOwner
 refine wpAny_bind (wpAny_newTuple ?_)
 have e2:IsItemIter (h1.push {cls:=.type "tuple",data:=.seq #[x,y]}) it d (i+1) ks.length ep ok ov:=Heap.get?_push_of_some _ e1
 have z1:h1.objs.size=hp.objs.size:=b1.1
 have il:hp.objs.size≠it:=Nat.ne_of_gt (Heap.lt_size st)
 have t2:(h1.push {cls:=.type "tuple",data:=.seq #[x,y]}).get? hp.objs.size=some {cls:=.type "tuple",data:=.seq #[x,y]}:=by rw [<- z1];exact Heap.get?_push_size _ rfl
 have k2: ∀ b o,b≠it->hp.get? b=some o->(h1.push {cls:=.type "tuple",data:=.seq #[x,y]}).get? b=some o:=fun b o hb e=>Heap.get?_push_of_some _ (b1.extBut b o hb e)
 generalize h1.push {cls:=.type "tuple",data:=.seq #[x,y]}=h2 at e2 t2 k2
 refine (show wpAny _ _ (Builtin.Dict_items.ownedTupleIsFree (.ref it) >>= _) _ _ ⟨h2,g,dr,tk,os⟩from ?_)
 rw [z1]
 refine wpAny_bind ?_
 unfold Builtin.Dict_items.ownedTupleIsFree
 refine wpAny_bind (wpAny_field e2 rfl (x:=.none) rfl (wpAny_pure ?_))
 simp only [if_true]
 refine wpAny_bind (wpAny_field e2 rfl (x:=ok) rfl (wpAny_bind (wpAny_field e2 rfl (x:=ov) rfl ?_)))
 refine wpAny_bind (wpAny_setField_rec e2 (by simp) fun h3 e3 b3=>?_)
 replace b3:Heap.SameBut it h2 h3:=b3
 replace e3:IsItemIter h3 it d (i+1) ks.length ep x ov:=e3
 refine wpAny_bind (wpAny_setField_rec e3 (by simp) fun h4 e4 b4=>?_)
 replace b4:Heap.SameBut it h3 h4:=b4
 replace e4:IsItemIter h4 it d (i+1) ks.length ep x y:=e4
 refine wpAny_bind (wpAny_setField_rec e4 (by simp) fun h5 e5 b5=>?_)
 replace b5:Heap.SameBut it h4 h5:=b5
 replace e5:IsItemIterOut h5 it d (i+1) ks.length ep x y hp.objs.size:=e5
 refine wpAny_bind (wpAny_setField_rec e5 (by simp) fun h6 e6 b6=>?_)
 replace b6:Heap.SameBut it h5 h6:=b6
 replace e6:IsItemIterOut h6 it d (i+1) ks.length ep x y hp.objs.size:=e6
 have up: ∀ b o,b≠it->h2.get? b=some o->h6.get? b=some o:=fun b o hb e=>b6.extBut b o hb (b5.extBut b o hb (b4.extBut b o hb (b3.extBut b o hb e)))
 exact wpAny_bind (wpAny_letGo (wpAny_pure (wpAny_pure ⟨_,rfl,wpAny_pure (q h6 e6 (up _ _ il t2) fun b o hb e=>up b o hb (k2 b o hb e))⟩)))
theorem end_ies {ok ov:Value} {Q:Option Value->Shared->Prop} (hh:A.handled=none) (st:IsItemIter s.heap it d i ks.length ep ok ov) (m:IEs s.heap d ks ep) (hx:ks.length<=i)
  (q: ∀ h',Heap.ExtBut it s.heap h'->Q none {s with heap:=h'}):wpAny (model prog w) A (pyNext (.ref it)) Q E s:=by
 have ty:s.TypeIs (.ref it) "dict_itemiterator":=⟨_,st,rfl⟩
 obtain ⟨od,es,hod,hcd,hdd,hk⟩:=m
 have hz:=dR hk
 unfold pyNext
 refine wpAny_bind (wpAny_attempt (wpAny_callSpecial?_slot (name:=Str.ofString "__next__") ty PySem.F.slot_dict_itemiterator_next (wpAny_call_entry PySem.F.slot_dict_itemiterator_next ty PySem.F.entry_dict_itemiterator_next ?_ (PySem.F.args_dict_itemiterator_next_1 _))))
 refine wpAny_bind (wpAny_pure (wpAny_bind (wpAny_bind ?_)))
 first | refine wpAny_bind (wpAny_typeNameOfWhole_itemiter ty (wpAny_pure (wpAny_bind (wpAny_fieldsOf st rfl ?_)))) | refine wpAny_bind (wpAny_typeNameOf_itemiter ty (wpAny_pure (wpAny_bind (wpAny_fieldsOf st rfl ?_))))
 have own:Builtin.Dict_items.ownsTuple "dict_itemiterator"=true:=by decide
 simp only [own,if_true]
 refine (show wpAny _ _ (if (Value.ref d==Value.none)=true then _ else _) _ _ s from ?_)
 rw [if_neg fun b0:(Value.ref d==Value.none)=true=>Bool.false_ne_true b0]
 refine wpAny_bind (wpAny_pure (wpAny_bind (wpAny_dictEntries hod hdd ?_)))
 rw [if_neg (by rw [hz];simp)]
 refine wpAny_bind (wpAny_pure (wpAny_bind (wpAny_dictEpoch hod hdd ?_)))
 rw [if_neg (by simp)]
 refine wpAny_pure ?_
 have hge:es.size<=i:=by omega
 simp only [show ¬ ((i:Int) <0)from by omega,if_false,Int.toNat_natCast,Array.getElem?_eq_none hge]
 refine wpAny_bind ?_
 first | refine wpAny_bind (wpAny_typeNameOfWhole_itemiter ty (wpAny_pure ?_)) | refine wpAny_bind (wpAny_typeNameOf_itemiter ty (wpAny_pure ?_))
 refine (show wpAny _ _ (setField (.ref it) 2 .none >>= _) _ _ s from wpAny_bind (wpAny_setField st rfl (by simp) ?_))
 refine (show wpAny _ _ (newExc (.type "StopIteration") [] >>= _) _ _ _ from wpAny_bind ?_)
 simp only [newExc,newTuple]
 refine wpAny_bind (wpAny_newObj_type (wpAny_bind (m:=firstArgMember _ _) (wpAny_of_eq (a:=Value.none) (by first | rfl | (simp only [firstArgMember];rfl)) (wpAny_newObj_type ?_ (by size_fits)))) (by size_fits))
 simp only [raiseNew]
 refine wpAny_bind (wpAny_handled ?_)
 rw [show A.in1.handled=none from hh]
 refine (wpAny_bind (wpAny_pure (wpAny_throw (?_))))
 refine wpAny_bind (wpAny_isInstance (T:="StopIteration") (b:=true) ⟨_,Heap.get?_push_size _ rfl,rfl⟩ isSubtype_stop (wpAny_pure (q _ ?_)))
 exact ((Heap.SameBut.update ..).extBut.push _).push _
end
end HT
namespace L2
open PySem PySem.Spec PyProof.Rows
section
variable {X:Cx}
theorem cQ:da X (.type "int") (fun xs H Q=> ∃ z n,xs=[.str z]/\intText? z=some n/\z.length<=640/\Q (.int n) H):=by
 intro pins s Z H xs us Q I r h
 obtain ⟨z,n,rfl,hn,hl,q⟩:=h
 obtain ⟨u,rfl,ru⟩:=gQ r
 obtain ⟨t,rfl⟩:=(show ∃ t,u=Value.str z t from ru)
 exact PySem.W.KIN.call_text hn hl ⟨.int n,H,I.tok _,⟨_,rfl⟩,q⟩
noncomputable def q8:V->List V->Hp->VK->Prop:=fun x vs H Q=> ∃ z y,x=.str z/\vs=[.str y]/\Q (.bl (Txt.startswith z y)) H
theorem nF:MtM X "str.startswith" q8:=by
 intro pins s Z H x vs v us Q I rx rv h
 obtain ⟨z,y,rfl,rfl,q⟩:=h
 obtain ⟨t,rfl⟩:=(show ∃ t,v=Value.str z t from rx)
 obtain ⟨u,rfl,ru⟩:=rv.one
 obtain ⟨t2,rfl⟩:=(show ∃ t,u=Value.str y t from ru)
 exact SC.startswith ⟨.bl _,H,I,rfl,q⟩
noncomputable def uW:V->List V->Hp->VK->Prop:=fun x vs H Q=> ∃ z y,x=.str z/\vs=[.str y]/\(y.length==0)=false/\z.length<=sizeLine/\ ∀ p,H p=none->Q (.ref p) (upd H p (.tup [.str (Txt.partition z y).1,.str (Txt.partition z y).2.1,.str (Txt.partition z y).2.2]))
theorem rS:MtM X "str.partition" uW:=by
 intro pins s Z H x vs v us Q I rx rv h
 obtain ⟨z,y,rfl,rfl,hy,hz,q⟩:=h
 obtain ⟨t,rfl⟩:=(show ∃ t,v=Value.str z t from rx)
 obtain ⟨u,rfl,ru⟩:=rv.one
 obtain ⟨t2,rfl⟩:=(show ∃ t,u=Value.str y t from ru)
 have fin: ∀ (a b c:Str) (t1 t2 t3:Tok) (k:Nat),Txt.partition z y=(a,b,c)->EP X pins Z Q (.ref s.heap.objs.size) {s with toks:=k,heap:=s.heap.push {cls:=.type "tuple",data:=.seq [.str a t1,.str b t2,.str c t3].toArray}}:=fun a b c t1 t2 t3 k e=>by
  have q2:=q _ (I.hok.fresh (Nat.le_refl _))
  rw [e]at q2
  refine ⟨.ref s.heap.objs.size,_,I.laid (t':=k) (o:=.tup [.str a,.str b,.str c]) (fun b ob q=>Heap.get?_push_of_some _ q) (Nat.le_refl _) ?_,rfl,q2⟩
  exact ⟨(by show 3<=sizeLine;decide),_,.cons ⟨_,rfl⟩ (.cons ⟨_,rfl⟩ (.cons ⟨_,rfl⟩ .nil)),_,Heap.get?_push_size _ rfl,rfl,_,rfl⟩
 refine call_meets F.slot_str_partition (typeIs_str _ _ _) F.entry_str_partition (F.args_str_partition_2 _ _) (meets_str_partition z y t t2 hy hz) ?_
 cases ho:Builtin.Str.occurrences z y 0 z.length 1 with
 | nil=>exact fin _ _ _ _ _ _ _ (by unfold Txt.partition;rw [ho])
 | cons i r=>exact fin _ _ _ _ _ _ _ (by unfold Txt.partition;rw [ho])
noncomputable def fB (xs:List V) (lo:Option Int) (c:Int):List V:=(sliceRange (sliceBounds lo none (some c) xs.length).1 (sliceBounds lo none (some c) xs.length).2.1 (sliceBounds lo none (some c) xs.length).2.2).filterMap (xs[·]?)
noncomputable def sQ (K:PySem.W.Frag) (te:TE) (tl:TO) (tk:TE):TE:=fun Z H Q=>te Z H fun x H1=>tl Z H1 fun l H2=>tk Z H2 fun y H3=> ∃ a xs c,x=.ref a/\y=.int c/\SqL K H3 a xs/\c≠0/\ ∀ p,H3 p=none->Q (.ref p) (upd H3 p (.lst (fB xs l c)))
theorem jp {e k:Expr} {lo:Option Expr} {te tk:TE} {tl:TO} {p2 pos:Pos} (he:PE X e te) (hl:PO X lo tl) (hk:PE X k tk):PE X (.Subscript e (.Slice lo none (some k) p2) pos) (sQ X.K te tl tk):=by
 intro pins s Z H Q I h
 refine Subscript_ (thn (he pins s Z H _ I h) fun v s1 ⟨x,H1,I1,r1,q1⟩=>?_)
 refine wpAny_Slice (thn (hl pins s1 Z H1 _ I1 q1) fun vl s2 ⟨l,H2,I2,pl,q2⟩=>?_)
 rw [evalPart_none,evalPart_some]
 refine wpAny_pure ?_
 refine thn (hk pins s2 Z H2 _ I2 q2) fun vk s3 ⟨y,H3,I3,ry,a,xs,c,ex,ey,hq,hc,q⟩=>?_
 subst ex ey
 obtain ⟨t,rfl⟩:=ry
 cases r1
 have I4:Inv X pins Z H3 {s3 with heap:=s3.heap.push {cls:=.type "slice",data:=.fields #[vl,.none,.int c t]}}:=I3.kept (t':=s3.toks) fun b ob q=>Heap.get?_push_of_some _ q
 obtain ⟨its,r,ht,hz⟩:=I4.list hq
 have hlen:=r.length
 have hpick:slicePick its.toArray l none (some c)=((sliceRange (sliceBounds l none (some c) xs.length).1 (sliceBounds l none (some c) xs.length).2.1 (sliceBounds l none (some c) xs.length).2.2).filterMap (its[·]?)).toArray:=by
  unfold slicePick
  rw [List.size_toArray,hlen]
  simp
 have hle:(fB xs l c).length<=sizeLine:=by
  have h1:=slicePick_size_le its.toArray l none (some c)
  rw [hpick,List.size_toArray,List.size_toArray]at h1
  have h2:=(cf (sliceRange (sliceBounds l none (some c) xs.length).1 (sliceBounds l none (some c) xs.length).2.1 (sliceBounds l none (some c) xs.length).2.2) r).length
  unfold fB
  omega
 show wpAny (model X.prog X.w) X.A (subscriptTail e (.Slice lo none (some k) p2) (.ref a) (.ref s3.heap.objs.size)) (EP X pins Z Q) X.xe {s3 with heap:=s3.heap.push {cls:=.type "slice",data:=.fields #[vl,.none,.int c t]}}
 refine tail_any (ops:=[.ref a,.ref s3.heap.objs.size]) ht.isList.typeIs slot_list_getitem.lookup (wpAny_getItem_list_slice ht.isList (Heap.IsSliceOf.new ..) pl .none (.int c t) (by simpa using hc) ?_ (by rw [List.size_toArray];omega)) (by with_unfolding_all rfl)
 rw [hpick]
 refine ⟨.ref (s3.heap.push {cls:=.type "slice",data:=.fields #[vl,.none,.int c t]}).objs.size,_,I4.laid (t':=s3.toks) (o:=.lst (fB xs l c)) (fun b ob q=>Heap.get?_push_of_some _ q) (Nat.le_refl _) ?_,rfl,q _ I4.fresh⟩
 exact ⟨hle,_,0,cf _ r,Heap.get?_push_size _ rfl⟩
end
noncomputable def evL {α:Type}:List α->List α
 | a::_::r=>a::evL r
 | [a]=>[a]
 | []=>[]
noncomputable def odL {α:Type}:List α->List α
 | _::b::r=>b::odL r
 | _=>[]
theorem iO {α:Type}: ∀ (n:Nat) (xs:List α),xs.length=n->((List.range ((n+1) /2)).map (fun k=>2*k)).filterMap (xs[·]?)=evL xs/\((List.range (n/2)).map (fun k=>2*k+1)).filterMap (xs[·]?)=odL xs
 | 0,[],_=>⟨rfl,rfl⟩
 | 1,[a],_=>⟨rfl,rfl⟩
 | n+2,a::b::r,h=>by
  obtain ⟨h1,h2⟩:=iO n r (by simpa using h)
  have e1:(n+2+1) /2=(n+1) /2+1:=by omega
  have e2:(n+2) /2=n/2+1:=by omega
  refine ⟨?_,?_⟩
  ·rw [e1,List.range_succ_eq_map,List.map_cons,List.map_map,List.filterMap_cons]
   show a::List.filterMap _ _=a::evL r
   rw [<- h1,List.filterMap_map,List.filterMap_map]
   rfl
  ·rw [e2,List.range_succ_eq_map,List.map_cons,List.map_map,List.filterMap_cons]
   show b::List.filterMap _ _=b::odL r
   rw [<- h2,List.filterMap_map,List.filterMap_map]
   rfl
theorem oK (xs:List V):fB xs none 2=evL xs:=by
 unfold fB
 have e:sliceRange (sliceBounds none none (some 2) xs.length).1 (sliceBounds none none (some 2) xs.length).2.1 (sliceBounds none none (some 2) xs.length).2.2=(List.range ((xs.length+1) /2)).map (fun k=>2*k):=by
  simp only [sliceBounds,sliceRange,Option.getD_some,show ((2:Int) >0)=True from by simp,if_true]
  by_cases h:(0:Int) <xs.length
  ·rw [if_pos h]
   have:(((xs.length:Int) -0+2-1) /2).toNat=(xs.length+1) /2:=by omega
   rw [this]
   refine List.map_congr_left fun k _=>?_
   omega
  ·have h0:xs.length=0:=by omega
   rw [if_neg h,h0]
   rfl
 rw [e]
 exact (iO _ xs rfl).1
theorem oJ (xs:List V):fB xs (some 1) 2=odL xs:=by
 unfold fB
 have e:sliceRange (sliceBounds (some 1) none (some 2) xs.length).1 (sliceBounds (some 1) none (some 2) xs.length).2.1 (sliceBounds (some 1) none (some 2) xs.length).2.2=(List.range (xs.length/2)).map (fun k=>2*k+1):=by
  simp only [sliceBounds,sliceRange,Option.getD_some,show ((2:Int) >0)=True from by simp,if_true]
  rw [if_neg (show ¬ ((1:Int) <0) by decide)]
  by_cases h:(1:Int) <xs.length
  ·have e1:max (0:Int) (min 1 (xs.length:Int))=1:=by omega
   rw [e1,if_pos h]
   have:(((xs.length:Int) -1+2-1) /2).toNat=xs.length/2:=by omega
   rw [this]
   refine List.map_congr_left fun k _=>?_
   omega
  ·have h0:xs.length/2=0:=by omega
   rw [if_neg (by omega),h0]
   rfl
 rw [e]
 exact (iO _ xs rfl).2
section
variable {X:Cx}
noncomputable def lr (H:Hp) (x:V):Prop:=(∃ z,x=.str z)\/ ∃ a xs,x=.ref a/\H a=some (.tup xs)
noncomputable def isT (y:Str):V->Bool
 | .str z=>decide (z=y)
 | _=>false
theorem tV (hu:X.A.units<cLine):OpR X (compareOp .NotEq) (fun x y H Q=> ∃ z,y=.str z/\lr H x/\Q (.bl (!isT z x)) H):=by
 intro pins s Z H x y v u Q I rx ry h
 obtain ⟨z,rfl,hx,q⟩:=h
 obtain ⟨t,rfl⟩:=(show ∃ t,u=Value.str z t from ry)
 rcases hx with ⟨w,rfl⟩ | ⟨a,xs,rfl,ha⟩
 ·obtain ⟨t2,rfl⟩:=(show ∃ t,v=Value.str w t from rx)
  refine SeqAt.RcNeAt.str_str w t2 z t X.prog X.w X.xe _ ⟨.bl _,H,I,?_,q⟩
  show Value.bool _=Value.bool _
  congr 2
 ·cases rx
  obtain ⟨its,r,p,_⟩:=I.tuple (SqT.of ha)
  exact SeqAt.RcNeAt.tuple_str z t p hu X.prog X.w X.xe _ ⟨.bl _,H,I,rfl,q⟩
theorem gD {A:Around} {s:Shared} {l:Addr} {items:Array Value} (b:Str) (u:Tok) (hl:s.heap.IsTuple l items) (hu:A.units<cLine):SeqAt.EqAt A s (.ref l) (.str b u) false:=fun prog w E Q h=>by
 unfold eqBool
 refine wpAny_holding ?_
 refine wpAny_ite_split (fun hab=>absurd (eq_of_beq hab) nofun) (fun _=>?_)
 exact wpAny_bind (SeqAt.RcAt.tuple_str b u hl hu prog w E _ (wpAny_truthy_bool h))
noncomputable def ln:List V->List Str->Bool
 | [],[]=>true
 | x::r,y::ys=>isT y x&&ln r ys
 | _,_=>false
theorem jU: ∀ (xs:List V) (ys:List Str),((List.range (min xs.length ys.length)).all (fun j=>isT ((ys[j]?).getD "") ((xs[j]?).getD .non))&&xs.length==ys.length)=ln xs ys
 | [],[]=>rfl
 | [],_::_=>by show (_&&false)=false;rw [Bool.and_false]
 | _::_,[]=>by show (_&&false)=false;rw [Bool.and_false]
 | x::r,y::ys=>by
  have ih:=jU r ys
  show _=(isT y x&&ln r ys)
  rw [<- ih,List.length_cons,List.length_cons,show min (r.length+1) (ys.length+1)=min r.length ys.length+1 by omega,List.range_succ_eq_map,List.all_cons,List.all_map,Bool.and_assoc]
  congr 1
  congr 1
  rw [Bool.eq_iff_iff]
  simp
theorem rJ (hu:X.A.units+1<cLine):OpR X (compareOp .Eq) (fun x y H Q=> ∃ a b xs ys,x=.ref a/\y=.ref b/\SqT X.K H a xs/\(∀ x∈xs,lr H x)/\SqT X.K H b (ys.map V.str)/\Q (.bl (ln xs ys)) H):=by
 intro pins s Z H x y v u Q I rx ry h
 obtain ⟨a,b,xs,ys,rfl,rfl,ha,hx,hb,q⟩:=h
 cases rx
 cases ry
 obtain ⟨its,r,p,_⟩:=I.tuple ha
 obtain ⟨its2,r2,p2,_⟩:=I.tuple hb
 have hl1:=r.length
 have hl2:=r2.length
 rw [List.length_map]at hl2
 refine SeqAt.eq_tupleAt (e:=fun j=>isT ((ys[j]?).getD "") ((xs[j]?).getD .non)) p p2 (Nat.lt_of_succ_lt hu) (fun j h1 h2=>?_) ⟨.bl (ln xs ys),H,I,?_,q⟩
 ·rw [List.size_toArray]at h1 h2
  have hj1:j<xs.length:=by omega
  have hj2:j<ys.length:=by omega
  obtain ⟨v1,e1,rv1⟩:=r.get (List.getElem?_eq_getElem hj1)
  obtain ⟨v2,e2,rv2⟩:=r2.get (show (ys.map V.str)[j]? =some (V.str ys[j]) by rw [List.getElem?_map,List.getElem?_eq_getElem hj2];rfl)
  obtain ⟨t2,rfl⟩:=(show ∃ t,v2=Value.str ys[j] t from rv2)
  have g1:its.toArray[j]=v1:=by
   have:=(List.getElem?_eq_some_iff.mp e1).2
   simpa using this
  have g2:its2.toArray[j]=Value.str ys[j] t2:=by
   have:=(List.getElem?_eq_some_iff.mp e2).2
   simpa using this
  rw [g1,g2,List.getElem?_eq_getElem hj1,List.getElem?_eq_getElem hj2]
  show SeqAt.EqAt _ _ _ _ (isT ys[j] xs[j])
  have hxj:=hx xs[j] (List.getElem_mem hj1)
  generalize xs[j]=xj at hxj rv1
  rcases hxj with ⟨z,rfl⟩ | ⟨c,zs,rfl,hc⟩
  ·obtain ⟨t1,rfl⟩:=(show ∃ t,v1=Value.str z t from rv1)
   have:=SeqAt.EqAt.str_str (A:=X.A.in1) (s:=s) z t1 ys[j] t2
   rw [show isT ys[j] (.str z)=(z==ys[j])from by
    rw [Bool.eq_iff_iff,beq_iff_eq]
    show decide (z=ys[j])=true↔_
    rw [decide_eq_true_eq]]
   exact this
  ·cases rv1
   obtain ⟨its3,r3,p3,_⟩:=I.tuple (SqT.of hc)
   exact gD ys[j] t2 p3 hu
 ·show Value.bool _=Value.bool _
  rw [List.size_toArray,List.size_toArray,<- hl1,<- hl2,jU]
end
noncomputable def KItm (K:PySem.W.Frag) (d:Addr) (ks:List (Str×Addr)):Prop:=(d==sysModules)=false/\ ∃ o es ep,K.lookup d=some o/\o.ExactDict/\o.data=.dict es ep/\ ∃ ts:List Tok,es.toList.map (fun e=>(e.key,e.val))=(ks.zip ts).map (fun q=>(Value.str q.1.1 q.2,Value.ref q.1.2))/\ts.length=ks.length
theorem KItm.ies {K:PySem.W.Frag} {d:Addr} {ks:List (Str×Addr)} (h:KItm K d ks): ∃ (ep:Nat) (ts:List Tok),ts.length=ks.length/\ ∀ hp:Heap,K.In hp->HT.IEs hp d ((ks.zip ts).map (fun q=>(Value.str q.1.1 q.2,Value.ref q.1.2))) ep:=by
 obtain ⟨_,o,es,ep,h1,h2,h3,ts,h4,h5⟩:=h
 exact ⟨ep,ts,h5,fun hp kin=>⟨o,es,kin _ _ h1,h2,h3,h4⟩⟩
noncomputable def ItK (ks:List (Str×Addr)):It:=
 ⟨fun i _=>i<ks.length,fun i H x H'=> ∃ T k a,H T=none/\x=.ref T/\H'=upd H T (.tup [.str k,.ref a])/\ks[i]? =some (k,a),fun i _=>i=ks.length⟩
theorem i6 {P:Program} {w:World} {K:PySem.W.Frag} {es:List Expr} {kk:Nat} {tpos:Pos} {ks:List (Str×Addr)} {ts:List Tok} {ep:Nat} (it d:Addr) (hts:ts.length=ks.length)
  (m0: ∀ hp:Heap,K.In hp->HT.IEs hp d ((ks.zip ts).map (fun q=>(Value.str q.1.1 q.2,Value.ref q.1.2))) ep):iU P w K (.Tuple es kk tpos) (ItK ks) [it] it (fun i h=> ∃ ok ov,IsItemIter h it d i ks.length ep ok ov):=by
 have hlz:((ks.zip ts).map (fun q=>(Value.str q.1.1 q.2,Value.ref q.1.2))).length=ks.length:=by rw [List.length_map,List.length_zip,hts,Nat.min_self]
 refine ⟨by simp,fun i h st b hb=>?_,fun i h h' st k=>?_,?_,?_,fun _ _ _ _ _ st h=>?_⟩
 ·obtain ⟨ok,ov,st⟩:=st
  have e:b=it:=by simpa using hb
  subst e
  exact ⟨_,st,fun v e=>nomatch e⟩
 ·obtain ⟨ok,ov,st⟩:=st
  exact ⟨ok,ov,k it (by simp) _ st⟩
 ·intro X hP hw hK hc i pins s Z H E I hf st hg
  subst hP hw hK
  have hi:i<ks.length:=hg
  have hit:i<ts.length:=by omega
  have m:=m0 _ I.kIn
  obtain ⟨ok,ov,st⟩:=st
  have st0:=st
  rw [<- hlz]at st
  refine HT.next_ies st m (x:=.str ks[i].1 ts[i]) (y:=.ref ks[i].2) (by rw [List.getElem?_map,(List.getElem?_zip_eq_some (z:=(ks[i],ts[i]))).mpr ⟨List.getElem?_eq_getElem hi,List.getElem?_eq_getElem hit⟩];rfl) fun h' z1 pr kk=>?_
  refine ⟨_,rfl,wpAny_letOwnedTupleGo_items z1 fun h'' z2 sb=>?_⟩
  have lt: ∀ {b:Addr} {ob:Obj},s.heap.get? b=some ob->b≠s.heap.objs.size:=fun e=>Nat.ne_of_lt (Heap.lt_size e)
  have fT:H s.heap.objs.size=none:=I.hok.fresh (Nat.le_refl _)
  have keep: ∀ b ob,b∉[it]->s.heap.get? b=some ob->h''.get? b=some ob:=fun b ob hb z=>by
   simp only [List.mem_cons,List.not_mem_nil,or_false]at hb
   exact sb.extBut b ob hb (kk b ob hb z)
  have trk: ∀ b uo,H b=some uo->b∉[it]:=fun b uo z hb=>by rw [(hf b hb).1]at z;cases z
  have ptT:=sb.extBut _ _ (Ne.symm (lt st0)) pr
  have I2:Inv X pins Z (upd H s.heap.objs.size (.tup [.str ks[i].1,.ref ks[i].2])) {s with heap:=h''}:=by
   refine I.step (g':=s.gens) (d':=s.drawn) (t':=s.toks) (ch:=[it]) (fun b hb=>?_) (fun b ob _ _ hb z _=>keep b ob hb z) (fun b ob _ _ hb z _=>⟨ob.slots,keep b ob hb z⟩) (fun b ob hb z n=>by rw [ah (lt z)];exact n)
    (fun b ob hb z=>⟨ob,keep b ob hb z⟩) (fun b zs z=>by rw [ah (aj z fT)];exact z) (fun b ob uo z=>by rw [ah (aj z fT)];exact z) (fun b ps z=>⟨#[],by rw [ah (aj z fT),z];simp⟩) (fun m hm=>?_) (fun b uo z=>?_) I.bare
   ·obtain ⟨_,f1,_,f3,f4,f5⟩:=hf b hb
    exact ⟨f3,f1,f4,f5⟩
   ·obtain ⟨ob,es',ep,ho,r⟩:=hm
    exact ⟨ob,es',ep,keep _ ob (fun hb=>(hf _ hb).2.1 rfl) ho,r⟩
   ·by_cases hb:b=s.heap.objs.size
    ·subst hb
     rw [ac]at z
     cases z
     exact ⟨by show 2<=sizeLine;decide,[.str ks[i].1 ts[i],.ref ks[i].2],.cons ⟨_,rfl⟩ (.cons rfl .nil),_,ptT,rfl,_,rfl⟩
    ·rw [ah hb]at z
     refine (I.hok b uo z).stay (fun c' v' hc' q=>keep c' v' ?_ q) (fun c' q=>by rw [ah (aj q fT)];exact q) fun c' zs q=>by rw [ah (aj q fT)];exact q
     rcases hc' with h | h
     ·rw [h];exact trk b uo z
     ·exact trk c' _ h
  refine ⟨.ref s.heap.objs.size,_,I2,rfl,⟨_,ks[i].1,ks[i].2,fT,rfl,rfl,List.getElem?_eq_getElem hi⟩,⟨_,_,by rw [<- hlz];exact z2⟩,fun b hb=>?_⟩
  have e:b=it:=by simpa using hb
  subst e
  rw [ah (lt st0)]
  exact (hf _ (by simp)).1
 ·intro X hP hw hK hc i pins s Z H E I hf st hg
  subst hP hw hK
  have hi:i=ks.length:=hg
  have m:=m0 _ I.kIn
  obtain ⟨ok,ov,st⟩:=st
  rw [<- hlz]at st
  obtain ⟨f0,f1,f2,f3,f4,f5⟩:=hf it (by simp)
  exact HT.end_ies (I.ok.hd hc) st m (by rw [hlz];omega) fun h' eb=>⟨rfl,I.turned (t':=s.toks) (fun b o hb e=>eb b o hb e) f0 f1 f3 f4 f5⟩
 ·obtain ⟨ok,ov,st⟩:=st
  exact PySem.W.kcp_self st h
noncomputable def iKD (K:PySem.W.Frag) (to:TE):TI:=fun Z H R=>to Z H fun x H1=> ∃ d ks,x=.ref d/\KItm K d ks/\R (ItK ks) H1
theorem nh {X:Cx} {es:List Expr} {kk:Nat} {tpos:Pos} {o:Expr} {to:TE} {apos cpos:Pos} (ho:PE X o to)
  (hbase:attributeBase o "items" X.env (eval o X.env)=eval o X.env:=by rfl) (hline:(apos.endLine==cpos.line)=true:=by rfl):
  PI X (.Tuple es kk tpos) (.Call (.Attribute o "items" apos) [] [] cpos) (iKD X.K to):=by
 intro pins s Z H R I h
 refine wpAny_Call_method0_late hbase hline (thn (ho pins s Z H _ I h) fun v s1 ⟨x,H1,I1,r1,d,ks,ex,hK,q⟩=>?_)
 subst ex
 cases r1
 obtain ⟨ep,ts,hts,m0⟩:=hK.ies
 have m:=m0 _ I1.kIn
 have hlz:((ks.zip ts).map (fun q=>(Value.str q.1.1 q.2,Value.ref q.1.2))).length=ks.length:=by rw [List.length_map,List.length_zip,hts,Nat.min_self]
 refine ⟨"dict","dict.items",PySem.F.plainAttrs_dict,PySem.F.slot_dict_items,PySem.F.type_dict_items,m.type,(fun b e=>?_),Calls.callWith_builtin rfl (PySem.evalArgs_none (HT.call_ies hK.1 m ?_))⟩
 ·cases e
  obtain ⟨o',es',e1,e2,_⟩:=m
  exact ⟨o',e1,e2.2.1⟩
 have kp0: ∀ b o,s1.heap.get? b=some o->(s1.heap.push {cls:=.type "dict_items",data:=.fields #[.ref d]}).get? b=some o:=fun b o e=>Heap.get?_push_of_some _ e
 refine HT.iter_ies ⟨_,Heap.get?_push_size _ rfl,rfl,rfl⟩ (m.keeps fun o e=>kp0 _ o e) ?_
 have hsz:(s1.heap.push {cls:=.type "dict_items",data:=.fields #[.ref d]}).objs.size=s1.heap.objs.size+1:=Heap.size_push ..
 refine ⟨_,[_],_,_,H1,rfl,I1.kept (t':=s1.toks) fun b o e=>Heap.get?_push_of_some _ (kp0 b o e),i6 _ d hts m0,⟨.none,.none,?_⟩,fun b hb=>?_,q⟩
 ·rw [<- hlz]
  exact Heap.get?_push_size _ rfl
 ·have e:b=(s1.heap.push {cls:=.type "dict_items",data:=.fields #[.ref d]}).objs.size:=by simpa using hb
  have hb':s1.heap.objs.size<=b:=by rw [e,hsz];omega
  exact I1.fpOk hb' (I1.hok.fresh hb')
theorem k8 {ks:List (Str×Addr)} {g:TG} {tb:TS} {D:fw} {Z:St} {H:Hp} (Pv:Nat->St->Hp->Prop) (h0:Pv 0 Z H)
  (step: ∀ i k a T Z H,ks[i]? =some (k,a)->H T=none->Pv i Z H->g (.ref T) Z (upd H T (.tup [.str k,.ref a])) fun Z2 H2=>tb {D with nx:=Pv (i+1),ct:=Pv (i+1),bk:=D.nx} Z2 H2) (fin: ∀ Z H,Pv ks.length Z H->D.nx Z H):
  ∃ W:Nat->Nat->St->Hp->Prop,(∃ m,W 0 m Z H)/\ ∀ i m Z H,W i m Z H->
   ((ItK ks).stop i H/\D.nx Z H)\/((ItK ks).go i H/\ ∃ N:St->Hp->Prop,(∀ Z' H',N Z' H'-> ∃ m',m'<m/\W (i+1) m' Z' H')/\ ∀ x H',(ItK ks).yld i H x H'->g x Z H' fun Z2 H2=>tb {D with nx:=N,ct:=N,bk:=D.nx} Z2 H2):=by
 refine ⟨fun i m Z H=>m=ks.length-i/\i<=ks.length/\Pv i Z H,⟨ks.length,by simp,Nat.zero_le _,h0⟩,?_⟩
 rintro i m Z H ⟨rfl,hi,p⟩
 by_cases hlt:i<ks.length
 ·refine .inr ⟨hlt,Pv (i+1),fun Z' H' p'=>⟨ks.length- (i+1),by omega,rfl,hlt,p'⟩,fun x H' y=>?_⟩
  obtain ⟨T,k,a,fT,rfl,rfl,hk⟩:=y
  exact step i k a T Z H hk fT p
 ·have e:i=ks.length:=by omega
  subst e
  exact .inl ⟨rfl,fin Z H p⟩
section
variable {X:Cx} {tg:Expr}
noncomputable def PIk (X:Cx) (tg iter:Expr) (wi:TI):Prop:=
 ∀ (pins:List (Addr×Obj)) (s:Shared) (Z:St) (H:Hp) (R:It->Hp->Prop),Inv X pins Z H s->wi Z H R->
  wpAny (model X.prog X.w) X.A (eval iter X.env) (fun v s1=>0<s1.toks/\wpAny (model X.prog X.w) X.A (pyIter v) (PIE X pins Z tg R) X.xe s1) X.xe s
theorem pJ {n:Int} {j:Nat} {p1:Pos} {es:List Expr} {t:TA} (ha:PA X es t) (hst:starEach (.Constant (.int n) j p1::es) X.env=(false,eval (.Constant (.int n) j p1) X.env)::starEach es X.env)
  (pos:Pos) (pins:List (Addr×Obj)) (s:Shared) (Z:St) (H:Hp) (Q:List V->Hp->Prop) (I:Inv X pins Z H s) (h:i8 (tC (.int n)) t Z H Q):
  wpAny (model X.prog X.w) X.A (spliced (backTo pos (starEach (.Constant (.int n) j p1::es) X.env))) (fun us s'=>0<s'.toks/\AP X pins Z Q us s') X.xe s:=by
 rw [hst]
 refine Calls.spliced_cons (wpAny_Constant_int (k:=j) (pos:=p1) ?_)
 have hk2:0< ({s with toks:=s.toks+1}:Shared).toks:=Nat.succ_pos _
 exact cN hk2 (ha pos pins _ Z H _ (I.tok _) h) fun us s3 hk3 ⟨vs,H3,I3,r3,q3⟩=>⟨hk3,_,H3,I3,.cons (show RelV (.int n) (.int n _)from ⟨_,rfl⟩) r3,q3⟩
theorem pi {tg iter:Expr} {body:List Stmt} {wi:TI} {g:TG} {tb u:TS} {pos:Pos} {sts:List Stmt} (hp:PassesOwn (model X.prog X.w) X.A X.env X.xe) (hc:X.calm=true) (hi:PIk X tg iter wi) (hg:PG X tg g) (hb:PSst X body tb) (hx:PSst X sts u)
  (hs: ∀ x,foldedSetIterable iter X.env x=pure x:=by intro _;rfl):PSs X (.For tg iter body [] pos::sts) (oE (qQ wi g tb) u):=by
 intro pins s Z H D I h
 refine wpAny_execs_cons (wpAny_For (thn (hi pins s Z H _ I h) fun v s1 ⟨hk1,h1⟩=>cN hk1 h1 fun itv s2 hk2 h2=>?_) hs)
 obtain ⟨it,fp,tn,J,H2,e,I2,T,st2,f2,W,⟨m0,w0⟩,turn⟩:=h2
 subst e
 have stat: ∀ {H':Hp},(∀ b∈fp,H' b=none)-> ∀ b∈fp,eS X pins H' b:=fun hn b hb=>⟨hn b hb,(f2 b hb).2⟩
 refine codeAny_forLoop_any (fun n s'=>0<s'.toks/\ ∃ i Z' H',Inv X pins Z' H' s'/\tn i s'.heap/\(∀ b∈fp,H' b=none)/\W i n Z' H') ?_ m0 ⟨hk2,0,Z,H2,I2,st2,fun b hb=>(f2 b hb).1,w0⟩
 rintro n s3 ⟨hk3,i,Z3,H3,I3,st3,fr3,w3⟩
 rcases turn i n Z3 H3 w3 with ⟨stop,qn⟩ | ⟨go,N,hN,step⟩
 ·refine wpAny_passesOwn hp (cN hk3 (T.done X rfl rfl rfl hc i pins s3 Z3 H3 X.xe I3 (stat fr3) st3 stop) fun r s4 hk4 ⟨hr,I4⟩=>?_)
  subst hr
  exact wpAny_execs_nil (hx pins s4 Z3 H3 D hk4 I4 qn)
 ·refine wpAny_passesOwn hp (cN hk3 (T.item X rfl rfl rfl hc i pins s3 Z3 H3 X.xe I3 (stat fr3) st3 go) fun r s4 hk4 ⟨u,hr,h4⟩=>?_)
  subst hr
  refine wpAny_passesOwn hp (cN hk4 h4 fun _ s5 hk5 ⟨x,H5,I5,r5,y5,st5,fr5⟩=>?_)
  have I5':=I5.pinned (stat fr5) (T.obj _ _ st5)
  refine wpAny_passesOwn hp (cN hk5 (hg _ s5 Z3 H5 x u _ I5' r5 (step x H5 y5)) fun _ s6 hk6 ⟨Z6,H6,I6,q6⟩=>?_)
  refine wpAny_passesOwn hp (cN hk6 (hb _ s6 Z6 H6 _ hk6 I6 q6) fun f s7 hk7 q7=>?_)
  have again: ∀ {Z7:St} {H7:Hp},Inv X (pins++dU fp s5.heap) Z7 H7 s7->N Z7 H7-> ∃ m,m<n/\0<s7.toks/\ ∃ i Z' H',Inv X pins Z' H' s7/\tn i s7.heap/\(∀ b∈fp,H' b=none)/\W i m Z' H':=fun {Z7 H7} I7 n7=>by
   obtain ⟨m',hm,w7⟩:=hN Z7 H7 n7
   refine ⟨m',hm,hk7,i+1,Z7,H7,I7.unpinned,T.keep _ _ _ st5 fun b hb o e=>(I7.pin (b,o) (List.mem_append_right _ (List.mem_append_right _ (aY hb e)))).1,fun b hb=>?_,w7⟩
   obtain ⟨o,e,d⟩:=T.obj _ _ st5 b hb
   exact (I7.pin (b,o) (List.mem_append_right _ (List.mem_append_right _ (aY hb e)))).2.1
  cases f with
  | next=>obtain ⟨Z7,H7,I7,n7⟩:=q7;exact again I7 n7
  | cont=>obtain ⟨Z7,H7,I7,n7⟩:=q7;exact again I7 n7
  | brk=>obtain ⟨Z7,H7,I7,q7⟩:=q7;exact hx pins s7 Z7 H7 D hk7 I7.unpinned q7
  | ret v=>obtain ⟨x7,Z7,H7,I7,r7,q7⟩:=q7;exact ⟨x7,Z7,H7,I7.unpinned,r7,q7⟩
end
end L2
namespace HT
open PySem PyProof.Rows
section
variable {prog:Program} {w:World} {A:Around} {s:Shared} {E:Value->Shared->Prop}
noncomputable def zK2 (h:Heap) (l1 l2:Addr):Heap:=(h.push (tIt l1)).push (vd l2)
noncomputable def zK3 (h:Heap) (l1 l2:Addr):Heap:=(zK2 h l1 l2).push {cls:=.type "tuple",data:=.seq #[.ref h.objs.size,.ref (h.push (tIt l1)).objs.size]}
noncomputable def zK4 (h:Heap) (l1 l2:Addr):Heap:=(zK3 h l1 l2).push {cls:=.type "tuple",data:=.seq #[.none,.none]}
noncomputable def zK5 (h:Heap) (l1 l2:Addr):Heap:=(zK4 h l1 l2).push {cls:=.type "zip",data:=.fields #[.none,.bool false,.bool false,.ref (zK2 h l1 l2).objs.size,.ref (zK3 h l1 l2).objs.size]}
theorem oj (l1 l2:Addr) (xs ys:Array Value):Meets (Builtin.«zip.__new__» ⟨[.type "zip",.ref l1,.ref l2],[]⟩)
  (fun _ R s=>s.heap.IsTuple l1 xs/\s.heap.IsList l2 ys/\R (.ok (.ret (.ref (zK4 s.heap l1 l2).objs.size))) {s with heap:=zK5 s.heap l1 l2}):=
 .of_wp fun prog w A R s h=>by
  obtain ⟨hp,g,d,tk,os⟩:=s
  obtain ⟨a1,a2,h⟩:=h
  have sub:=sub_zip
  have b1:Heap.IsTuple (Shared.heap ⟨hp,g,d,tk,os⟩) l1 xs:=a1
  have b2:Heap.IsList (Shared.heap ⟨hp.push {cls:=.type "tuple_iterator",data:=.fields #[.ref l1,.int 0 0]},g,d,tk,os⟩) l2 ys:=Heap.IsList.push a2 _
  wp_walk using wpAny_pyIter_tuple b1,wpAny_pyIter_list b2
  exact ⟨_,rfl,h⟩
theorem call_zipK {l1 l2:Addr} {xs ys:Array Value} {Q:Value->Shared->Prop} (a1:SSeq true s.heap l1 xs) (a2:SSeq false s.heap l2 ys)
  (q: ∀ h',IsZip h' (s.heap.objs.size+4) (s.heap.objs.size+2) (s.heap.objs.size+3) .none->IsPair h' (s.heap.objs.size+2) (.ref s.heap.objs.size) (.ref (s.heap.objs.size+1))->
   IsPair h' (s.heap.objs.size+3) .none .none->SIter true h' s.heap.objs.size l1 0->SIter false h' (s.heap.objs.size+1) l2 0->
   (∀ b o,s.heap.get? b=some o->h'.get? b=some o)->Q (.ref (s.heap.objs.size+4)) {s with heap:=h'}):wpAny (model prog w) A (call (.type "zip") [.ref l1,.ref l2]) Q E s:=by
 refine callType_new PySem.F.called_zip (by decide) (PySem.F.typeCall_zip_2 _ _) (PySem.F.newCall_zip_2 _ _) (fun obj=>PySem.F.args_object_init_3 obj _ _) PySem.F.entry_zip_new (oj l1 l2 xs ys) ⟨a1,a2,?_⟩
 have z1:(s.heap.push (tIt l1)).objs.size=s.heap.objs.size+1:=Heap.size_push ..
 have z2:(zK2 s.heap l1 l2).objs.size=s.heap.objs.size+2:=by unfold zK2;rw [Heap.size_push,z1]
 have z3:(zK3 s.heap l1 l2).objs.size=s.heap.objs.size+3:=by unfold zK3;rw [Heap.size_push,z2]
 have z4:(zK4 s.heap l1 l2).objs.size=s.heap.objs.size+4:=by unfold zK4;rw [Heap.size_push,z3]
 have g5:(zK5 s.heap l1 l2).get? (zK4 s.heap l1 l2).objs.size=some {cls:=.type "zip",data:=.fields #[.none,.bool false,.bool false,.ref (zK2 s.heap l1 l2).objs.size,.ref (zK3 s.heap l1 l2).objs.size]}:=Heap.get?_push_size _ rfl
 have g4:(zK5 s.heap l1 l2).get? (zK3 s.heap l1 l2).objs.size=some {cls:=.type "tuple",data:=.seq #[.none,.none]}:=Heap.get?_push_of_some _ (Heap.get?_push_size _ rfl)
 have g3:(zK5 s.heap l1 l2).get? (zK2 s.heap l1 l2).objs.size=some {cls:=.type "tuple",data:=.seq #[.ref s.heap.objs.size,.ref (s.heap.push (tIt l1)).objs.size]}:=Heap.get?_push_of_some _ (Heap.get?_push_of_some _ (Heap.get?_push_size _ rfl))
 have g2:(zK5 s.heap l1 l2).get? (s.heap.push (tIt l1)).objs.size=some (vd l2):=Heap.get?_push_of_some _ (Heap.get?_push_of_some _ (Heap.get?_push_of_some _ (Heap.get?_push_size _ rfl)))
 have g1:(zK5 s.heap l1 l2).get? s.heap.objs.size=some (tIt l1):=Heap.get?_push_of_some _ (Heap.get?_push_of_some _ (Heap.get?_push_of_some _ (Heap.get?_push_of_some _ (Heap.get?_push_size _ rfl))))
 show _/\_
 rw [z2,z3,z4]at g5
 rw [z1,z2]at g3
 rw [z3]at g4
 rw [z1]at g2
 rw [z4]
 exact ⟨⟨_,g5,rfl⟩,q _ g5 g3 g4 (show Heap.IsTupleIter _ _ _ _ from ⟨_,g1,rfl,rfl⟩) (show Heap.IsListIter _ _ _ _ from ⟨_,g2,rfl,rfl⟩) fun b o x=>
  Heap.get?_push_of_some _ (Heap.get?_push_of_some _ (Heap.get?_push_of_some _ (Heap.get?_push_of_some _ (Heap.get?_push_of_some _ x))))⟩
end
end HT
namespace L2
open PySem PySem.Spec PyProof.Rows
theorem sG {X:Cx} {pins:List (Addr×Obj)} {Z:St} {H:Hp} {s:Shared} {l b:Addr} {xs:List V} (I:Inv X pins Z H s) (h:SqT X.K H l xs) (f:eS X pins H b):b≠l:=by
 rintro rfl
 rcases h with (h | ⟨o,h⟩) | ⟨o,its,n,hk,_⟩
 ·rw [f.1]at h;cases h
 ·rw [f.1]at h;cases h
 ·have e:=I.ok.mod.kin b o hk
  rcases f.2.2.2.1 with z | z
  ·exact I.ok.noex b o e z
  ·exact absurd (Nat.lt_of_lt_of_le (Heap.lt_size e) I.ok.bsz) (Nat.not_lt.mpr z)
noncomputable def qK (K:PySem.W.Frag) (l1 l2:Addr):It:=
 ⟨fun i H=> ∃ xs ys x y,SqT K H l1 xs/\H l2=some (.lst ys)/\xs[i]? =some x/\ys[i]? =some y,
  fun i H v H'=> ∃ T x y,H T=none/\v=.ref T/\H'=upd H T (.tup [x,y])/\ ∀ xs ys,SqT K H l1 xs->H l2=some (.lst ys)->xs[i]? =some x/\ys[i]? =some y,
  fun i H=> ∃ xs ys,SqT K H l1 xs/\H l2=some (.lst ys)/\xs.length=i/\ys.length=i⟩
noncomputable def wk (z TI TO i1 i2 l1 l2:Addr) (i:Nat) (h:Heap):Prop:=IsZip h z TI TO .none/\IsPair h TI (.ref i1) (.ref i2)/\(∃ a b,IsPair h TO a b)/\HT.SIter true h i1 l1 i/\HT.SIter false h i2 l2 i
theorem mv {P:Program} {w:World} {K:PySem.W.Frag} {es:List Expr} {kk:Nat} {tpos:Pos} (z TI TO i1 i2 l1 l2:Addr) (nd:[z,TI,TO,i1,i2].Nodup):
  iU P w K (.Tuple es kk tpos) (qK K l1 l2) [z,TI,TO,i1,i2] z (wk z TI TO i1 i2 l1 l2):=by
 simp only [List.nodup_cons,List.mem_cons,List.not_mem_nil,or_false,not_or,List.nodup_nil,and_true]at nd
 obtain ⟨⟨n1,n2,n3,n4⟩,⟨n5,n6,n7⟩,⟨n8,n9⟩,n10,_⟩:=nd
 have ap: ∀ {X:Cx} {pins:List (Addr×Obj)} {H:Hp} {ys:List V},(∀ b∈[z,TI,TO,i1,i2],eS X pins H b)->(∀ b∈[z,TI,TO,i1,i2],b≠l1)->H l2=some (.lst ys)->
   HT.ZAp z TI TO i1 i2 [i1,l1] [i2,l2]/\l1≠i1/\l2≠i2:=by
  intro X pins H ys hf h1 h2
  have a: ∀ b∈[z,TI,TO,i1,i2],b≠l1/\b≠l2:=fun b hb=>⟨h1 b hb,(aj h2 (hf b hb).1).symm⟩
  have az:=a z (by simp)
  have aO:=a TO (by simp)
  have a1:=a i1 (by simp)
  have a2:=a i2 (by simp)
  refine ⟨⟨Ne.symm n1,Ne.symm n2,Ne.symm n3,Ne.symm n4,n5,n6,n7,n8,n9,n10,?_,?_,?_,?_,?_,?_⟩,Ne.symm a1.1,Ne.symm a2.2⟩ <;> simp only [List.mem_cons,List.not_mem_nil,or_false,not_or]
  ·exact ⟨n3,az.1⟩
  ·exact ⟨n4,az.2⟩
  ·exact ⟨n8,aO.1⟩
  ·exact ⟨n9,aO.2⟩
  ·exact ⟨Ne.symm n10,a2.1⟩
  ·exact ⟨n10,a1.2⟩
 refine ⟨by simp,fun i h st b hb=>?_,fun i h h' st k=>?_,?_,?_,fun _ _ _ _ _ st h=>wpAny_pyIter_zip st.1 h⟩
 ·obtain ⟨h1,h2,⟨a,b',h3⟩,h4,h5⟩:=st
  rcases fp5 hb with rfl | rfl | rfl | rfl | rfl
  ·exact ⟨_,h1,fun v e=>nomatch e⟩
  ·exact ⟨_,h2,fun v e=>nomatch e⟩
  ·exact ⟨_,h3,fun v e=>nomatch e⟩
  ·exact h4.obj
  ·exact h5.obj
 ·obtain ⟨h1,h2,⟨a,b',h3⟩,h4,h5⟩:=st
  exact ⟨k z (by simp) _ h1,k TI (by simp) _ h2,⟨a,b',k TO (by simp) _ h3⟩,h4.at fun o e=>k i1 (by simp) o e,h5.at fun o e=>k i2 (by simp) o e⟩
 ·intro X hP hw hK hc i pins s Z H E I hf st hg
  subst hP hw hK
  obtain ⟨xs,ys,x,y,hx,hy,ex,ey⟩:=hg
  obtain ⟨its1,r1,q1,_⟩:=I.tuple hx
  have q1:HT.SSeq true s.heap l1 its1.toArray:=q1
  obtain ⟨its2,r2,q2,_⟩:=I.seqS (c:=false) hy
  obtain ⟨u,hu,ru⟩:=r1.get ex
  obtain ⟨v,hv,rv⟩:=r2.get ey
  obtain ⟨z0,t0,⟨a,b,o0⟩,s1,s2⟩:=st
  obtain ⟨D,e1,e2⟩:=ap hf (fun b hb=>sG I hx (hf b hb)) hy
  refine HT.next_zip (HT.draws_seq (A:=X.A.in1) true (I.ok.hd hc) i1 l1 e1 its1.toArray) (HT.draws_seq (A:=X.A.in1) false (I.ok.hd hc) i2 l2 e2 its2.toArray) D z0 t0 o0 ⟨s1,q1⟩ ⟨s2,q2⟩
   (by rw [List.size_toArray];exact (List.getElem?_eq_some_iff.mp hu).1) (by rw [List.size_toArray];exact (List.getElem?_eq_some_iff.mp hv).1) fun x' y' h' tk px py z1 o1 t1 t2 pr kk=>?_
  have ex':x'=u:=by
   have p1:its1[i]? =some x':=by simpa using px
   rw [hu]at p1;exact (Option.some.inj p1).symm
  have ey':y'=v:=by
   have p1:its2[i]? =some y':=by simpa using py
   rw [hv]at p1;exact (Option.some.inj p1).symm
  subst ex' ey'
  refine ⟨_,rfl,wpAny_letOwnedTupleGo_zip z1 fun h'' z2 sb=>?_⟩
  have lt: ∀ {b:Addr} {ob:Obj},s.heap.get? b=some ob->b≠s.heap.objs.size:=fun e=>Nat.ne_of_lt (Heap.lt_size e)
  have fT:H s.heap.objs.size=none:=I.hok.fresh (Nat.le_refl _)
  have keep: ∀ b ob,b∉[z,TO,i1,i2]->s.heap.get? b=some ob->h''.get? b=some ob:=fun b ob hb e=>by
   simp only [List.mem_cons,List.not_mem_nil,or_false,not_or]at hb
   exact sb.extBut b ob hb.1 (kk b ob hb.1 hb.2.1 hb.2.2.1 hb.2.2.2 e)
  have sub: ∀ b,b∈[z,TO,i1,i2]->b∈[z,TI,TO,i1,i2]:=fun b hb=>by
   simp only [List.mem_cons,List.not_mem_nil,or_false]at hb ⊢
   rcases hb with h | h | h | h
   ·exact .inl h
   ·exact .inr (.inr (.inl h))
   ·exact .inr (.inr (.inr (.inl h)))
   ·exact .inr (.inr (.inr (.inr h)))
  have trk: ∀ b uo,H b=some uo->b∉[z,TO,i1,i2]:=fun b uo e hb=>by rw [(hf b (sub b hb)).1]at e;cases e
  have ptT:IsPair h'' s.heap.objs.size x' y':=sb.extBut _ _ (Ne.symm (lt z0)) pr
  have I2:Inv X pins Z (upd H s.heap.objs.size (.tup [x,y])) {s with heap:=h'',toks:=tk}:=by
   refine I.step (g':=s.gens) (d':=s.drawn) (ch:=[z,TO,i1,i2]) (fun b hb=>?_) (fun b ob _ _ hb e _=>keep b ob hb e) (fun b ob _ _ hb e _=>⟨ob.slots,keep b ob hb e⟩) (fun b ob hb e n=>by rw [ah (lt e)];exact n)
    (fun b ob hb e=>⟨ob,keep b ob hb e⟩) (fun b zs e=>by rw [ah (aj e fT)];exact e) (fun b ob uo e=>by rw [ah (aj e fT)];exact e) (fun b ps e=>⟨#[],by rw [ah (aj e fT),e];simp⟩) (fun m hm=>?_) (fun b uo e=>?_) I.bare
   ·obtain ⟨_,f1,_,f3,f4,f5⟩:=hf b (sub b hb)
    exact ⟨f3,f1,f4,f5⟩
   ·obtain ⟨ob,es',ep,ho,r⟩:=hm
    exact ⟨ob,es',ep,keep _ ob (fun hb=>(hf _ (sub _ hb)).2.1 rfl) ho,r⟩
   ·by_cases hb:b=s.heap.objs.size
    ·subst hb
     rw [ac]at e
     cases e
     exact ⟨by show 2<=sizeLine;decide,[x',y'],.cons ru (.cons rv .nil),_,ptT,rfl,_,rfl⟩
    ·rw [ah hb]at e
     refine (I.hok b uo e).stay (fun c' v' hc' q=>keep c' v' ?_ q) (fun c' q=>by rw [ah (aj q fT)];exact q) fun c' zs q=>by rw [ah (aj q fT)];exact q
     rcases hc' with h | h
     ·rw [h];exact trk b uo e
     ·exact trk c' _ h
  refine ⟨.ref s.heap.objs.size,_,I2,rfl,⟨_,x,y,fT,rfl,rfl,fun xs' ys' h1 h2=>?_⟩,⟨z2,sb.extBut _ _ (Ne.symm n1) (kk _ _ (Ne.symm n1) n5 n6 n7 t0),⟨_,_,sb.extBut _ _ (Ne.symm n2) o1⟩,t1.1.at fun o e=>sb.extBut _ o (Ne.symm n3) e,t2.1.at fun o e=>sb.extBut _ o (Ne.symm n4) e⟩,fun b hb=>?_⟩
  ·cases I.tuple_inj hx h1
   rw [hy]at h2
   cases h2
   exact ⟨ex,ey⟩
  ·have hb': ∃ ob,s.heap.get? b=some ob:=by
    rcases fp5 hb with rfl | rfl | rfl | rfl | rfl
    ·exact ⟨_,z0⟩
    ·exact ⟨_,t0⟩
    ·exact ⟨_,o0⟩
    ·obtain ⟨ob,e,_⟩:=s1.obj;exact ⟨ob,e⟩
    ·obtain ⟨ob,e,_⟩:=s2.obj;exact ⟨ob,e⟩
   obtain ⟨ob,e⟩:=hb'
   rw [ah (lt e)]
   exact (hf b hb).1
 ·intro X hP hw hK hc i pins s Z H E I hf st hg
  subst hP hw hK
  obtain ⟨xs,ys,hx,hy,l,l'⟩:=hg
  obtain ⟨its1,r1,q1,_⟩:=I.tuple hx
  have q1:HT.SSeq true s.heap l1 its1.toArray:=q1
  obtain ⟨z0,t0,⟨a,b,o0⟩,s1,s2⟩:=st
  obtain ⟨D,e1,e2⟩:=ap hf (fun b hb=>sG I hx (hf b hb)) hy
  have hi:i=its1.toArray.size:=by rw [List.size_toArray,<- l];exact r1.length
  rw [hi]at s1
  refine HT.end_zip (HT.draws_seq (A:=X.A.in1) true (I.ok.hd hc) i1 l1 e1 its1.toArray) D z0 t0 o0 ⟨s1,q1⟩ fun h' kk=>⟨rfl,?_⟩
  have keep: ∀ b ob,b∉[z,TO,i1,i2]->s.heap.get? b=some ob->h'.get? b=some ob:=fun b ob hb e=>by
   simp only [List.mem_cons,List.not_mem_nil,or_false,not_or]at hb
   exact kk b ob hb.1 hb.2.1 hb.2.2.1 hb.2.2.2 e
  have sub: ∀ b,b∈[z,TO,i1,i2]->b∈[z,TI,TO,i1,i2]:=fun b hb=>by
   simp only [List.mem_cons,List.not_mem_nil,or_false]at hb ⊢
   rcases hb with h | h | h | h
   ·exact .inl h
   ·exact .inr (.inr (.inl h))
   ·exact .inr (.inr (.inr (.inl h)))
   ·exact .inr (.inr (.inr (.inr h)))
  have trk: ∀ b uo,H b=some uo->b∉[z,TO,i1,i2]:=fun b uo e hb=>by rw [(hf b (sub b hb)).1]at e;cases e
  refine I.step (g':=s.gens) (d':=s.drawn) (t':=s.toks) (ch:=[z,TO,i1,i2]) (fun b hb=>?_) (fun b ob _ _ hb e _=>keep b ob hb e) (fun b ob _ _ hb e _=>⟨ob.slots,keep b ob hb e⟩) (fun b ob hb e n=>n)
   (fun b ob hb e=>⟨ob,keep b ob hb e⟩) (fun b zs e=>e) (fun b ob uo e=>e) (fun b ps e=>⟨#[],by rw [e];simp⟩) (fun m hm=>?_) (fun b uo e=>?_) I.bare
  ·obtain ⟨_,f1,_,f3,f4,f5⟩:=hf b (sub b hb)
   exact ⟨f3,f1,f4,f5⟩
  ·obtain ⟨ob,es',ep,ho,r⟩:=hm
   exact ⟨ob,es',ep,keep _ ob (fun hb=>(hf _ (sub _ hb)).2.1 rfl) ho,r⟩
  ·refine (I.hok b uo e).stay (fun c' v' hc' q=>keep c' v' ?_ q) (fun _ q=>q) fun _ _ q=>q
   rcases hc' with h | h
   ·rw [h];exact trk b uo e
   ·exact trk c' _ h
noncomputable def ve (K:PySem.W.Frag) (ta:TA):TI:=fun Z H R=>ta Z H fun vs H1=> ∃ l1 l2 xs ys,vs=[.ref l1,.ref l2]/\SqT K H1 l1 xs/\H1 l2=some (.lst ys)/\R (qK K l1 l2) H1
theorem rq {X:Cx} {es:List Expr} {kk:Nat} {tpos:Pos} {a b:Expr} {ta:TA} {p pos:Pos} (hg:Gl X "zip") (hm:X.mg "zip"=none) (ha:PA X [a,b] ta) (hs:starEach [a,b] X.env=[(false,eval a X.env),(false,eval b X.env)]:=by rfl) (hs2:starEach [b] X.env=[(false,eval b X.env)]:=by rfl):
  PI X (.Tuple es kk tpos) (.Call (.Name "zip" p) [a,b] [] pos) (ve X.K ta):=by
 intro pins s Z H R I h
 refine Call_ (dA I hg hm (show bootBuiltins "zip"=some (.type "zip") by decide +kernel) (PyProof.Rows.callWith_type1 (thn (ha pos pins s Z H _ I h) fun us s1 ⟨vs,H1,I1,r1,q1⟩=>?_) (by rw [hs,hs2]) (by rw [hs2];rfl)))
 obtain ⟨l1,l2,xs,ys,rfl,hx,hy,q⟩:=q1
 obtain ⟨u,v,rfl,ru,rv⟩:=fR r1
 cases (show u=Value.ref l1 from ru)
 cases (show v=Value.ref l2 from rv)
 obtain ⟨its1,_,e1,_⟩:=I1.tuple hx
 have e1:HT.SSeq true s1.heap l1 its1.toArray:=e1
 obtain ⟨its2,_,e2,_⟩:=I1.seqS (c:=false) hy
 refine HT.call_zipK e1 e2 fun h' a1 a2 a3 a4 a5 kp=>?_
 have I2:Inv X pins Z H1 {s1 with heap:=h'}:=I1.kept (t':=s1.toks) kp
 refine wpAny_pyIter_zip a1 ?_
 refine ⟨s1.heap.objs.size+4,[s1.heap.objs.size+4,s1.heap.objs.size+2,s1.heap.objs.size+3,s1.heap.objs.size,s1.heap.objs.size+1],_,_,H1,rfl,I2,mv _ _ _ _ _ l1 l2 (by simp),⟨a1,a2,⟨_,_,a3⟩,a4,a5⟩,fun b hb=>?_,q⟩
 have hb':s1.heap.objs.size<=b:=by rcases fp5 hb with rfl | rfl | rfl | rfl | rfl <;> omega
 exact I1.fpOk hb' (I1.hok.fresh hb')
theorem qv {K:PySem.W.Frag} {l1 l2:Addr} {xs ys:List V} {g:TG} {tb:TS} {D:fw} {Z:St} {H:Hp} (hl:xs.length=ys.length) (Pv:Nat->St->Hp->Prop) (h0:Pv 0 Z H)
  (hh: ∀ i Z H,Pv i Z H->SqT K H l1 xs/\H l2=some (.lst ys))
  (hs: ∀ i x y Z H T,xs[i]? =some x->ys[i]? =some y->Pv i Z H->H T=none->g (.ref T) Z (upd H T (.tup [x,y])) fun Z2 H2=>tb {D with nx:=Pv (i+1),ct:=Pv (i+1),bk:=D.nx} Z2 H2) (hd: ∀ Z H,Pv xs.length Z H->D.nx Z H):
  ∃ W:Nat->Nat->St->Hp->Prop,(∃ m,W 0 m Z H)/\ ∀ i m Z H,W i m Z H->
   ((qK K l1 l2).stop i H/\D.nx Z H)\/((qK K l1 l2).go i H/\ ∃ N:St->Hp->Prop,(∀ Z' H',N Z' H'-> ∃ m',m'<m/\W (i+1) m' Z' H')/\ ∀ x H',(qK K l1 l2).yld i H x H'->g x Z H' fun Z2 H2=>tb {D with nx:=N,ct:=N,bk:=D.nx} Z2 H2):=by
 refine ⟨fun i m Z H=>m=xs.length-i/\i<=xs.length/\Pv i Z H,⟨xs.length,by simp,Nat.zero_le _,h0⟩,?_⟩
 rintro i m Z H ⟨rfl,hi,p⟩
 obtain ⟨q1,q2⟩:=hh i Z H p
 by_cases hlt:i<xs.length
 ·refine .inr ⟨⟨xs,ys,xs[i],ys[i],q1,q2,List.getElem?_eq_getElem hlt,List.getElem?_eq_getElem (by omega)⟩,Pv (i+1),fun Z' H' p'=>⟨xs.length- (i+1),by omega,rfl,hlt,p'⟩,?_⟩
  rintro _ _ ⟨T,x,y,fT,rfl,rfl,hxy⟩
  obtain ⟨ex,ey⟩:=hxy xs ys q1 q2
  exact hs i x y Z H T ex ey p fT
 ·have e:i=xs.length:=by omega
  subst e
  exact .inl ⟨⟨xs,ys,q1,q2,rfl,hl.symm⟩,hd Z H p⟩
section
variable {X:Cx} {tg:Expr}
theorem ku {n:Int} {j:Nat} {p1:Pos} {b:Expr} {ta:TA} {p pos:Pos} (hg:Gl X "range") (hm:X.mg "range"=none) (ha:PA X [b] ta) (hst:starEach [.Constant (.int n) j p1,b] X.env=(false,eval (.Constant (.int n) j p1) X.env)::starEach [b] X.env:=by rfl)
  (hs:starEach [.Constant (.int n) j p1,b] X.env=[(false,eval (.Constant (.int n) j p1) X.env),(false,eval b X.env)]:=by rfl)
  (hs2:starEach [b] X.env=[(false,eval b X.env)]:=by rfl):PIk X tg (.Call (.Name "range" p) [.Constant (.int n) j p1,b] [] pos) (vf (i8 (tC (.int n)) ta)):=by
 intro pins s Z H R I h
 refine Call_ (dA I hg hm boot_range (PyProof.Rows.callWith_type1 (thn (pJ ha hst pos pins s Z H _ I h) fun us s1 ⟨hk1,vs,H1,I1,r1,q1⟩=>?_) (by rw [hs,hs2]) (by rw [hs2];rfl)))
 obtain ⟨i,j,e,⟨q1,q2,q3,q4⟩,q⟩:=q1
 subst e
 cases r1 with
 | cons r rr=>
  cases rr with
  | cons r' rr=>
   cases rr
   obtain ⟨t,rfl⟩:=r
   obtain ⟨t',rfl⟩:=r'
   exact call_range_2 ⟨Nat.succ_pos _,jh I1 q1 q2 q3 q4 q⟩
end
section
variable {P:Program} {w:World} {K:PySem.W.Frag} {mg:Str->Option Value} {base:Heap}
theorem Fun.okC {x qual:Str} {st:Stmt} {f:Addr} {fd:FuncData} {N ps:List Str} {k:Nat} {sp:Sp} (F:Fun K x qual st f fd) (S:au N ps (ag st)) (len: ∀ vs H Q E,sp vs H Q E->vs.length=ps.length)
  (hbody: ∀ (A:Around) (outer:List Env) (s:Shared) (H:Hp) (vs:List V) (Q:VK) (E:XK),Room k (A.deeper (envOfC qual (ag st) s.heap.objs.size f fd.code))->sp vs H Q E->
   ∃ t,PSs (cz CX0 P w K mg base N qual (ag st) f fd.code A outer s H E).nox (bd st) t/\t {nx:=fun _ H'=>Q .non H',rt:=Q} (cq N vs) H):FnOk P w K mg base CX0 (k+1) f fd ps sp:=by
 obtain ⟨oc,od,kV,doc,pm,an,cdv,ct,osl,rfl,lk,hcd⟩:=F.ex
 refine qw lk hcd S len fun A outer s H vs Q E hr hsp=>?_
 obtain ⟨t,h,q⟩:=hbody A outer s H vs Q E hr hsp
 exact ⟨t,h.nox,q⟩
end
end L2
namespace My
open PySem L2
variable {P:Program} {w:World} {K:PySem.W.Frag} {mg:Str->Option Value} {base:Heap} {C aD aM aR c f f2 f3 f4 f5 f6 f7 f8 g tbA:Addr} {fd fd2 fd3 fd4 fd5 fd6 fd7 fd8 gd:FuncData}
noncomputable def bP (c:Nat):Bool:=decide (97<=c/\c<=122)
noncomputable def aT (x:Str):Bool:=decide (1<=x.length)&&decide (x.length<=8)&&x.cps.toList.all bP
noncomputable def ops:List Str:=["plus","less","times","least","most"]
inductive Fm where
 | num (n:Int)
 | own (x:Str)
 | part (k:Int) (x:Str)
 | bin (op:Str) (a b:Fm)
 | whn (a b c:Fm)
noncomputable def Fm.size:Fm->Nat
 | .num _=>1
 | .own _=>1
 | .part _ _=>1
 | .bin _ a b=>a.size+b.size+1
 | .whn a b c=>a.size+b.size+c.size+1
noncomputable def Fm.wf:Fm->Prop
 | .num n=> -999999<=n/\n<=999999
 | .own x=>aT x=true
 | .part k x=>(0<=k/\k<=2)/\aT x=true
 | .bin op a b=>op∈ops/\a.wf/\b.wf
 | .whn a b c=>a.wf/\b.wf/\c.wf
theorem Fm.size_pos: ∀ f:Fm,1<=f.size
 | .num _=>Nat.le_refl 1
 | .own _=>Nat.le_refl 1
 | .part _ _=>Nat.le_refl 1
 | .bin _ a b=>by show 1<=a.size+b.size+1;omega
 | .whn a b c=>by show 1<=a.size+b.size+c.size+1;omega
noncomputable def Rep (H:Hp):Fm->V->Prop
 | .num n,v=> ∃ a,v=.ref a/\H a=some (.tup [.str "num",.int n])
 | .own x,v=> ∃ a,v=.ref a/\H a=some (.tup [.str "own",.str x])
 | .part k x,v=> ∃ a,v=.ref a/\H a=some (.tup [.str "part",.int k,.str x])
 | .bin op A B,v=> ∃ a u w,v=.ref a/\H a=some (.tup [.str op,u,w])/\Rep H A u/\Rep H B w
 | .whn A B C,v=> ∃ a u w z,v=.ref a/\H a=some (.tup [.str "when",u,w,z])/\Rep H A u/\Rep H B w/\Rep H C z
noncomputable def TK (H H':Hp):Prop:= ∀ a xs,H a=some (.tup xs)->H' a=some (.tup xs)
theorem TK.trans {H H1 H2:Hp} (a:TK H H1) (b:TK H1 H2):TK H H2:=fun c o h=>b c o (a c o h)
theorem TK.upd {H:Hp} {p:Addr} {o:HO} (h: ∀ xs,H p≠some (.tup xs)):TK H (upd H p o):=fun a xs e=>by
 by_cases q:a=p
 ·subst q
  exact absurd e (h xs)
 ·rw [ah q]
  exact e
theorem TK.lst {H:Hp} {p:Addr} {o:HO} {ys:List V} (h:H p=some (.lst ys)):TK H (L2.upd H p o):=TK.upd fun xs e=>by rw [h]at e;cases e
theorem TK.new {H:Hp} {p:Addr} {o:HO} (h:H p=none):TK H (L2.upd H p o):=TK.upd fun xs e=>by rw [h]at e;cases e
theorem Rep.mono {H H':Hp} (t:TK H H'): ∀ {f:Fm} {v:V},Rep H f v->Rep H' f v
 | .num _,_,⟨a,e,h⟩=>⟨a,e,t _ _ h⟩
 | .own _,_,⟨a,e,h⟩=>⟨a,e,t _ _ h⟩
 | .part _ _,_,⟨a,e,h⟩=>⟨a,e,t _ _ h⟩
 | .bin _ _ _,_,⟨a,u,w,e,h,r1,r2⟩=>⟨a,u,w,e,t _ _ h,Rep.mono t r1,Rep.mono t r2⟩
 | .whn _ _ _,_,⟨a,u,w,z,e,h,r1,r2,r3⟩=>⟨a,u,w,z,e,t _ _ h,Rep.mono t r1,Rep.mono t r2,Rep.mono t r3⟩
noncomputable def isV (T:String) (H:Hp) (v:V):Bool:=match v with
 | .bl _=>T=="bool"||T=="int"
 | .int _=>T=="int"
 | .str _=>T=="str"
 | .ref a=>(match H a with | some (.lst _)=>T=="list" | some (.tup _)=>T=="tuple" | some (.dK _)=>T=="dict" | _=>false)
 | _=>false
noncomputable def Sh (H:Hp):V->Prop
 | .non=>True
 | .bl _=>True
 | .int _=>True
 | .str x=>x.length<=2000
 | .ref a=>(∃ xs,H a=some (.lst xs))\/(∃ xs,H a=some (.tup xs))\/ ∃ kvs,H a=some (.dK kvs)
 | _=>False
section
variable {X:Cx}
theorem rZ (K:PySem.W.Frag) (t T:String) (ht:t∈["NoneType","bool","int","str","list","tuple","dict"]) (hT:T∈["bool","int","str","list","tuple","dict"]):
  PySem.W.kitOne K (.type t) (.type T)=some (t==T||(t=="bool"&&T=="int")):=by
 simp only [List.mem_cons,List.not_mem_nil,or_false]at ht hT
 rcases ht with rfl | rfl | rfl | rfl | rfl | rfl | rfl <;> rcases hT with rfl | rfl | rfl | rfl | rfl | rfl <;> first | rfl | (with_unfolding_all rfl) | (with_unfolding_all decide)
theorem ba:da X (.builtin "isinstance") (fun xs H Q=> ∃ x T,xs=[x,.ty T]/\Sh H x/\T∈["bool","int","str","list","tuple","dict"]/\Q (.bl (isV T H x)) H):=by
 intro pins s Z H xs us Q I r h
 obtain ⟨x,T,rfl,hs,hT,q⟩:=h
 have go: ∀ t,eR X.K H x (.type t)->t∈["NoneType","bool","int","str","list","tuple","dict"]->isV T H x=(t==T||(t=="bool"&&T=="int"))->wpAny (model X.prog X.w) X.A (call (.builtin "isinstance") us) (EP X pins Z Q) X.xe s:=by
  intro t ty ht e
  refine qE pins s Z H _ us Q I r ⟨x,T,.type t,_,rfl,ty,rZ X.K t T ht hT,?_⟩
  rw [<- e]
  exact q
 have hTT:=hT
 simp only [List.mem_cons,List.not_mem_nil,or_false]at hTT
 cases x with
 | non=>exact go _ .non (by simp) (by rcases hTT with rfl | rfl | rfl | rfl | rfl | rfl <;> rfl)
 | bl b=>exact go _ (.bl b) (by simp) (by rcases hTT with rfl | rfl | rfl | rfl | rfl | rfl <;> rfl)
 | int i=>exact go _ (.int i) (by simp) (by rcases hTT with rfl | rfl | rfl | rfl | rfl | rfl <;> rfl)
 | str z=>exact go _ (.str z) (by simp) (by rcases hTT with rfl | rfl | rfl | rfl | rfl | rfl <;> rfl)
 | ref a=>
  rcases hs with ⟨ys,e⟩ | ⟨ys,e⟩ | ⟨ys,e⟩
  ·exact go _ (.lst e) (by simp) (by simp only [isV,e];rcases hTT with rfl | rfl | rfl | rfl | rfl | rfl <;> rfl)
  ·exact go _ (.tup e) (by simp) (by simp only [isV,e];rcases hTT with rfl | rfl | rfl | rfl | rfl | rfl <;> rfl)
  ·exact go _ (.dK e) (by simp) (by simp only [isV,e];rcases hTT with rfl | rfl | rfl | rfl | rfl | rfl <;> rfl)
 | byt _=>exact hs.elim
 | flt _=>exact hs.elim
 | ty _=>exact hs.elim
end
noncomputable def top (i:Nat):Stmt:=PySem.Challenge.pw_boughworth_k04_formulas_written.main.body.getD i (.Pass ⟨0,0,0,0⟩)
noncomputable abbrev kh:Stmt:=top 5
noncomputable abbrev iz:Stmt:=top 6
noncomputable abbrev lI:Stmt:=top 7
noncomputable abbrev dF:Stmt:=top 8
noncomputable abbrev pe:Stmt:=top 14
noncomputable abbrev pc:Stmt:=top 15
noncomputable abbrev kj:Stmt:=top 16
noncomputable abbrev iA:Stmt:=top 17
noncomputable abbrev fM:Stmt:=top 18
noncomputable abbrev gb:Stmt:=top 23
noncomputable abbrev fc:Stmt:=top 24
noncomputable abbrev dS:Stmt:=top 25
noncomputable abbrev ki:Stmt:=top 26
noncomputable abbrev iE:Stmt:=top 27
noncomputable abbrev o7:Stmt:=top 28
noncomputable abbrev ff:Stmt:=top 29
noncomputable abbrev pf:Stmt:=top 31
noncomputable abbrev o9:Stmt:=top 32
noncomputable abbrev km:Stmt:=top 33
noncomputable abbrev du:Stmt:=top 34
noncomputable abbrev iC:Stmt:=top 35
noncomputable abbrev pb:Stmt:=top 36
noncomputable abbrev cV:Stmt:=top 37
noncomputable abbrev iD:Stmt:=top 38
noncomputable abbrev jf:Stmt:=top 39
noncomputable abbrev fe:Stmt:=top 40
noncomputable abbrev cg:Stmt:=top 41
noncomputable abbrev iB:Stmt:=top 42
noncomputable abbrev gX:Stmt:=top 43
structure Gb (mg:Str->Option Value):Prop where
 isi:mg "isinstance"=none
 int:mg "int"=none
 bool:mg "bool"=none
 str:mg "str"=none
 tuple:mg "tuple"=none
 len:mg "len"=none
 all:mg "all"=none
 range:mg "range"=none
 max:mg "max"=none
 min:mg "min"=none
noncomputable def jX:V->Bool
 | .int _=>true
 | _=>false
noncomputable def cn (lo hi:Int):V->Bool
 | .int i=>decide (lo<=i)&&decide (i<=hi)
 | _=>false
noncomputable def cM:V->Bool
 | .str x=>aT x
 | _=>false
theorem l0 {H:Hp} {v:V} (h:Sh H v):(if isV "int" H v=true then !isV "bool" H v else false)=jX v:=by
 cases v with
 | ref a=>rcases h with ⟨ys,e⟩ | ⟨ys,e⟩ | ⟨ys,e⟩ <;> (simp only [isV,e];rfl)
 | _=>rfl
theorem lY {H:Hp} {v:V} (h:isV "str" H v=true): ∃ z,v=.str z:=by
 cases v with
 | str z=>exact ⟨z,rfl⟩
 | ref a=>
  simp only [isV]at h
  split at h <;> simp at h
 | _=>simp [isV]at h
theorem se {H:Hp} {v:V} (h:isV "tuple" H v=true): ∃ a xs,v=.ref a/\H a=some (.tup xs):=by
 cases v with
 | ref a=>
  simp only [isV]at h
  split at h
  ·simp at h
  ·rename_i xs e
   exact ⟨a,xs,rfl,e⟩
  ·simp at h
  ·simp at h
 | _=>simp [isV]at h
theorem qb {Q:VK} {b b':Bool} {H:Hp} (q:Q (.bl b) H) (e:b=b'):Q (.bl b') H:=e▸q
theorem ai {H:Hp} {p:Addr} (h:H p=none) (o:HO):Same H (upd H p o):=fun b u q=>by rw [ah (aj q h)];exact q
noncomputable def eg:Sp:=fun vs H Q _=> ∃ v,vs=[v]/\Sh H v/\Q (.bl (jX v)) H
noncomputable def jb:Sp:=fun vs H Q _=> ∃ v lo hi,vs=[v,.int lo,.int hi]/\Sh H v/\Q (.bl (cn lo hi v)) H
noncomputable def oO:Sp:=fun vs H Q _=> ∃ v,vs=[v]/\Sh H v/\ ∀ H',Same H H'->Q (.bl (cM v)) H'
theorem qT:au ["thing"] ["thing"] (ag kh):=fsc
theorem pR (F:Fun K "is_whole" "is_whole" kh f fd) (G:Gb mg):FnOk P w K mg base CX0 1 f fd ["thing"] eg:=by
 refine F.ok qT (fun vs H Q E h=>?_) (fun cdv A outer s H vs Q E hr h=>?_)
 ·obtain ⟨v,rfl,_⟩:=h
  rfl
 obtain ⟨v,rfl,hS,q⟩:=h
 refine ⟨_,ak (ar (cu (al ba rfl G.isi (by decide +kernel) (aa (pv 0) (aa (bb (v:=.ty "int") rfl G.int (by decide +kernel) rfl) ad)))
  (cF (pC (al ba rfl G.isi (by decide +kernel) (aa (pv 0) (aa (bb (v:=.ty "bool") rfl G.bool (by decide +kernel) rfl) ad))))))),?_⟩
 have e:=l0 hS
 refine ⟨_,rfl,v,"int",rfl,hS,by simp,_,rfl,?_⟩
 refine aZ (fun c=>?_) (fun c=>?_)
 ·rw [if_pos c]at e
  refine ⟨_,rfl,v,"bool",rfl,hS,by simp,_,rfl,?_⟩
  exact qb q e.symm
 ·rw [if_neg c]at e
  exact qb q e.symm
theorem oY:au ["thing","lowest","highest"] ["thing","lowest","highest"] (ag iz):=fsc
theorem nu (F:Fun K "is_whole_within" "is_whole_within" iz f fd) (GW:FnOk P w K mg base CX0 1 g gd ["thing"] eg) (bW:Binds K gd ["thing"] []) (kW:PySem.W.keepIn K (.ref g)=true) (mW:mg "is_whole"=some (.ref g)):
  FnOk P w K mg base CX0 2 f fd ["thing","lowest","highest"] jb:=by
 refine F.ok oY (fun vs H Q E h=>?_) (fun cdv A outer s H vs Q E hr h=>?_)
 ·obtain ⟨v,lo,hi,rfl,_⟩:=h
  rfl
 obtain ⟨v,lo,hi,rfl,hS,q⟩:=h
 refine ⟨_,ak (ar (cu (aq GW hr rfl mW kW bW .nil aL (aa (pv 0) ad)) (cF (gj hV hV (pv 1) (pv 0) (pv 2))))),?_⟩
 refine ⟨_,rfl,v,rfl,hS,_,rfl,?_⟩
 refine aZ (fun c=>?_) (fun c=>?_)
 ·cases v with
  | int i=>
   refine ⟨_,rfl,_,rfl,lo,i,rfl,rfl,_,rfl,?_⟩
   refine aZ (fun c1=>?_) (fun c1=>?_)
   ·refine ⟨_,rfl,i,hi,rfl,rfl,?_⟩
    have e:cn lo hi (.int i)=decide (i<=hi):=by
     show (decide (lo<=i)&&decide (i<=hi))=_
     rw [c1,Bool.true_and]
    exact qb q e
   ·have e:cn lo hi (.int i)=false:=by
     show (decide (lo<=i)&&decide (i<=hi))=_
     rw [Bool.eq_false_iff.mpr c1,Bool.false_and]
    exact qb q e
  | _=>cases c
 ·have e:cn lo hi v=false:=by
   cases v with
   | int i=>exact absurd rfl c
   | _=>rfl
  exact qb q e
noncomputable def a8 (k:Str):Option Nat:=if k∈ops then some 2 else if k="when" then some 3 else none
noncomputable def pQ (p:V->Bool):List V->Bool
 | [x]=>p x
 | _=>false
noncomputable def sM (p:V->V->Bool):List V->Bool
 | [x,y]=>p x y
 | _=>false
theorem lS {p:V->Bool} {r:List V} (h: ¬ r.length=1):pQ p r=false:=by
 match r with
 | []=>rfl
 | [x]=>exact absurd rfl h
 | _::_::_=>rfl
theorem qM {p:V->V->Bool} {r:List V} (h: ¬ r.length=2):sM p r=false:=by
 match r with
 | []=>rfl
 | [_]=>rfl
 | [x,y]=>exact absurd rfl h
 | _::_::_::_=>rfl
noncomputable def cI:List V->Bool
 | .str k::r=>(match a8 k with
  | some n=>decide (r.length=n)
  | none=>if k="num" then pQ (cn (-999999) 999999) r
   else if k="own" then pQ cM r
   else if k="part" then sM (fun x y=>cn 0 2 x&&cM y) r else false)
 | _=>false
noncomputable def dm (H:Hp):V->Bool
 | .ref a=>(match H a with | some (.tup xs)=>cI xs | _=>false)
 | _=>false
theorem c6 {H:Hp} {a:Addr} {xs:List V} (h:H a=some (.tup xs)):dm H (.ref a)=cI xs:=by simp only [dm,h]
theorem nR {H:Hp} {a:Addr} {xs:List V} (h:H a=some (.lst xs)):dm H (.ref a)=false:=by simp only [dm,h]
theorem qr {H:Hp} {a:Addr} {xs:List (Key×V)} (h:H a=some (.dK xs)):dm H (.ref a)=false:=by simp only [dm,h]
noncomputable def bz:List V->List V
 | .str k::r=>if (a8 k).isSome then r else []
 | _=>[]
noncomputable def eJ:List (Key×V):=[(.inr "plus",.int 2),(.inr "less",.int 2),(.inr "times",.int 2),(.inr "least",.int 2),(.inr "most",.int 2),(.inr "when",.int 3)]
theorem qp (k:Str):db eJ (.inr k)=(a8 k).map fun (n:Nat)=>V.int n:=by
 unfold a8 ops eJ
 by_cases h1:k="plus"
 ·subst h1;decide +kernel
 by_cases h2:k="less"
 ·subst h2;decide +kernel
 by_cases h3:k="times"
 ·subst h3;decide +kernel
 by_cases h4:k="least"
 ·subst h4;decide +kernel
 by_cases h5:k="most"
 ·subst h5;decide +kernel
 by_cases h6:k="when"
 ·subst h6;decide +kernel
 have ne: ∀ {y:Str},¬ k=y-> ¬ (Sum.inr y:Key)=Sum.inr k:=fun h e=>h (Sum.inr.inj e).symm
 rw [bQ (ne h1),bQ (ne h2),bQ (ne h3),bQ (ne h4),bQ (ne h5),bQ (ne h6),oy,if_neg,if_neg h6]
 ·rfl
 ·simp only [List.mem_cons,List.not_mem_nil,or_false,not_or]
  exact ⟨h1,h2,h3,h4,h5⟩
theorem ce {α:Type} {x:α} {r:List α}:atI (x::r) 0=some x:=aW (j:=0) rfl
theorem qG {α:Type} {x y:α} {r:List α}:atI (x::y::r) 1=some y:=aW (j:=1) rfl
theorem uy {α:Type} {x y z:α} {r:List α}:atI (x::y::z::r) 2=some z:=aW (j:=2) rfl
noncomputable def Ask (H:Hp) (v:V):Prop:=Sh H v/\ ∀ a xs,v=.ref a->H a=some (.tup xs)->xs.length<=1000/\ ∀ x∈xs,Sh H x
noncomputable def oU:Sp:=fun vs H Q _=> ∃ v,vs=[v]/\Ask H v/\ ∀ H',Same H H'->Q (.bl (dm H v)) H'
noncomputable def fL:Sp:=fun vs H Q _=> ∃ a k r,vs=[.ref a]/\H a=some (.tup (.str k::r))/\r.length<=1000/\ ∀ p H',Same H H'->H' p=some (.tup (bz (.str k::r)))->Q (.ref p) H'
theorem lg {m n:Nat}:decide (V.int (m:Int)=V.int (n:Int))=decide (m=n):=by
 by_cases h:m=n
 ·subst h;rw [decide_eq_true rfl,decide_eq_true rfl]
 ·rw [decide_eq_false h,decide_eq_false (fun e=>h (by injection e with e;omega))]
theorem qV:au ["formula"] ["formula"] (ag kj):=fsc
theorem gr (F:Fun K "inner_of" "inner_of" kj f fd) (mD:mg "INNER_COUNTS"=some (.ref aD)) (D:iX P w K aD eJ):FnOk P w K mg base CX0 1 f fd ["formula"] fL:=by
 refine F.ok qV (fun vs H Q E h=>?_) (fun cdv A outer s H vs Q E hr h=>?_)
 ·obtain ⟨a,k,r,rfl,_⟩:=h
  rfl
 obtain ⟨a,k,r,rfl,ha,hl,q⟩:=h
 refine ⟨_,ak (ar (eC (aA pM (aF a9 (pv 0) ae (fun _ _=>rfl)) (bO (v:=.ref aD) rfl mD rfl) (by with_unfolding_all rfl)) (bj oW (pv 0) (bt ae) bu) (bp ad))),?_⟩
 refine ⟨_,rfl,a,_,0,_,rfl,rfl,SqT.of ha,ce,.inr k,aD,eJ,rfl,rfl,D,_,rfl,?_⟩
 have hv:=qp k
 cases hk:a8 k with
 | none=>
  rw [hk]at hv
  refine aZ (fun c=>?_) (fun c=>?_)
  ·rw [hv]at c
   exact absurd c (by decide)
  ·refine ⟨(by show 0<=sizeLine;decide),fun p hp=>?_⟩
   refine q p _ (ai hp _) ?_
   rw [ac]
   show some (HO.tup [])=some (HO.tup (if (a8 k).isSome=true then r else []))
   rw [hk]
   rfl
 | some n=>
  rw [hk]at hv
  refine aZ (fun c=>?_) (fun c=>?_)
  ·refine ⟨_,rfl,1,rfl,a,_,rfl,SqT.of ha,?_,fun p hp=>?_⟩
   ·rintro ⟨h1,_⟩
    have:HT.sIx (V.str k::r).length 0 (some 1)=min 1 (V.str k::r).length:=HT.sIx_nat _ _ 1
    rw [this,List.length_cons]at h1
    omega
   ·refine q p _ (ai hp _) ?_
    rw [ac]
    have e1:HT.sIx (V.str k::r).length 0 (some 1)=1:=by
     have:HT.sIx (V.str k::r).length 0 (some 1)=min 1 (V.str k::r).length:=HT.sIx_nat _ _ 1
     rw [this,List.length_cons]
     omega
    have e2:dZ (V.str k::r) (some 1) none=r:=by
     unfold dZ
     rw [e1,HT.sIx_none,List.length_cons,List.drop_one,List.tail_cons,Nat.add_sub_cancel,List.take_length]
    show some (HO.tup (dZ (V.str k::r) (some 1) none))=some (HO.tup (if (a8 k).isSome=true then r else []))
    rw [hk,e2]
    rfl
  ·rw [hv]at c
   exact absurd rfl c
inductive Fs (H:Hp):List V->Nat->Prop where
 | nil:Fs H [] 0
 | cons {v:V} {f:Fm} {vs:List V} {n:Nat}:Rep H f v->f.wf->Fs H vs n->Fs H (v::vs) (f.size+n)
theorem Fs.append {H:Hp} {xs ys:List V} {m n:Nat} (a:Fs H xs m) (b:Fs H ys n):Fs H (xs++ys) (m+n):=by
 induction a with
 | nil=>rw [Nat.zero_add];exact b
 | cons r w _ ih=>rw [Nat.add_assoc];exact .cons r w ih
theorem Fs.split {H:Hp}: ∀ {xs ys:List V} {n:Nat},Fs H (xs++ys) n-> ∃ a b,Fs H xs a/\Fs H ys b/\n=a+b
 | [],ys,n,h=>⟨0,n,.nil,h,by omega⟩
 | x::r,ys,n,h=>by
  cases h with
  | cons rp wf t=>
   obtain ⟨a,b,h1,h2,e⟩:=Fs.split t
   exact ⟨_,b,.cons rp wf h1,h2,by omega⟩
theorem hU {k:Str} (h:k∈ops):k.length<=1000:=by
 unfold ops at h
 simp only [List.mem_cons,List.not_mem_nil,or_false]at h
 rcases h with rfl | rfl | rfl | rfl | rfl <;> decide +kernel
theorem ic {op:Str} (h:op∈ops):a8 op=some 2:=by unfold a8;rw [if_pos h]
theorem k7:a8 "when"=some 3:=by decide +kernel
theorem ft:a8 "num"=none:=by decide +kernel
theorem fq:a8 "own"=none:=by decide +kernel
theorem dY:a8 "part"=none:=by decide +kernel
theorem iM (a b:Nat):decide ([a] <[b])=decide (a<b):=by
 rw [decide_eq_decide]
 simp [List.cons_lt_cons_iff]
theorem vw (c:Nat):(!decide ((⟨#[c]⟩:Str).cps.toList< ("a":Str).cps.toList))=decide (97<=c):=by
 have e:("a":Str).cps.toList=[97]:=by decide +kernel
 rw [e]
 show (!decide ([c] <[97]))=_
 rw [iM]
 by_cases h:c<97
 ·rw [decide_eq_true h,decide_eq_false (by omega)]
  rfl
 ·rw [decide_eq_false h,decide_eq_true (by omega)]
  rfl
theorem vM (c:Nat):(!decide (("z":Str).cps.toList< (⟨#[c]⟩:Str).cps.toList))=decide (c<=122):=by
 have e:("z":Str).cps.toList=[122]:=by decide +kernel
 rw [e]
 show (!decide ([122] <[c]))=_
 rw [iM]
 by_cases h:122<c
 ·rw [decide_eq_true h,decide_eq_false (by omega)]
  rfl
 ·rw [decide_eq_false h,decide_eq_true (by omega)]
  rfl
theorem rW (c:Nat):bP c=(decide (97<=c)&&decide (c<=122)):=by
 unfold bP
 by_cases h1:97<=c <;> by_cases h2:c<=122 <;> simp [h1,h2]
theorem sZ:au ["thing"] ["thing"] (ag lI):=fsc
theorem rL (F:Fun K "is_word" "is_word" lI f fd) (G:Gb mg) {tk:Tok} (mL:mg "MOST_LETTERS"=some (.int 8 tk)):FnOk P w K mg base CX0 1 f fd ["thing"] oO:=by
 refine F.ok sZ (fun vs H Q E h=>?_) (fun cdv A outer s H vs Q E hr h=>?_)
 ·obtain ⟨v,rfl,_⟩:=h
  rfl
 obtain ⟨v,rfl,hS,q⟩:=h
 refine ⟨_,af (aV (PW.pt (ji (dw (cO (al ba rfl G.isi (by decide +kernel) (aa (pv 0) (aa (bb (v:=.ty "str") rfl G.str (by decide +kernel) rfl) ad)))))
   (gh (dw (jl hV hV ae (al eQ rfl G.len PySem.boot_len (aa (pv 0) ad)) (bO (v:=.int 8) rfl mL ⟨_,rfl⟩)))))) (ak (ar dL)) aE)
  (ak (ar (al (gI rfl) rfl G.all (by decide +kernel) (aa (lO (sc0:=ag lI) (N0:=["thing"]) (ys:=[]) (fr:=[]) rfl (pq (pv 0)) rfl rfl
   cok (fun C s H ex=>gj dI dI ao (pv 0) ao)) ad)))),?_⟩
 refine ⟨_,rfl,v,"str",rfl,hS,by simp,_,rfl,?_⟩
 refine aZ (fun c=>?_) (fun c=>?_)
 ·-- no text
  refine cL ?_
  have e:cM v=false:=by
   cases v with
   | str z=>simp [isV]at c
   | _=>rfl
  exact qb (q H (Same.refl H)) e
 ·obtain ⟨z,rfl⟩:=lY (H:=H) (v:=v) (by cases h:isV "str" H v with
   | true=>rfl
   | false=>rw [h]at c;exact absurd rfl c)
  have hz:z.length<=sizeLine:=Nat.le_of_lt (Nat.lt_of_le_of_lt hS (by decide:2000<sizeLine))
  refine ⟨_,rfl,z,rfl,hz,1,_,rfl,rfl,_,rfl,?_⟩
  have ew:cM (.str z)=(decide (1<=z.length)&&decide (z.length<=8)&&z.cps.toList.all bP):=rfl
  refine aZ (fun c1=>?_) (fun c1=>?_)
  ·have c1':1<=z.length:=by have:=of_decide_eq_true c1;omega
   refine ⟨_,8,rfl,rfl,_,rfl,?_⟩
   refine aZ (fun c2=>?_) (fun c2=>?_)
   ·have c2': ¬ z.length<=8:=fun z8=>by
     have:((z.length:Int)<=8):=by omega
     rw [decide_eq_true this]at c2
     exact absurd c2 (by decide)
    have e:cM (.str z)=false:=by rw [ew,decide_eq_false c2',Bool.and_false,Bool.false_and]
    exact qb (q H (Same.refl H)) e
   ·have c2':z.length<=8:=by
     by_cases h:((z.length:Int)<=8)
     ·omega
     ·rw [decide_eq_false h]at c2
      exact absurd rfl c2
    refine ⟨_,rfl,z,rfl,?_⟩
    refine c8 (n:=z.length) (R:=fun i v=> ∃ c,z.cps[i]? =some c/\v=.str ⟨#[c]⟩) (by omega) qk jG lX
     (fun p i zs H'=>H'=upd H p (.lst zs)/\i<=z.length/\zs=((z.cps.toList.take i).map bP).map V.bl) (fun p hp=>⟨rfl,Nat.zero_le _,rfl⟩) ?_ ?_ ?_
    ·rintro p i zs H' ⟨rfl,hi,rfl⟩
     refine ⟨ac,?_⟩
     rw [List.length_map,List.length_map,List.length_take]
     exact Nat.min_eq_left hi
    ·rintro p i zs H' v k hp hi ⟨ch,hc,rfl⟩ ⟨rfl,_,rfl⟩ hk
     have hc':z.cps.toList[i]? =some ch:=by rw [Array.getElem?_toList];exact hc
     have nxt:((z.cps.toList.take i).map bP).map V.bl++[V.bl (bP ch)]=((z.cps.toList.take (i+1)).map bP).map V.bl:=by
      rw [List.take_add_one,hc']
      simp
     have fin:k (.bl (bP ch)) (upd H p (.lst (((z.cps.toList.take i).map bP).map V.bl))):=hk _ _ ac ⟨by rw [bK],hi,nxt⟩
     rw [rW]at fin
     refine ⟨_,rfl,_,_,rfl,rfl,_,rfl,?_⟩
     refine aZ (fun c3=>?_) (fun c3=>?_)
     ·refine ⟨_,_,rfl,rfl,?_⟩
      rw [vw]at c3
      rw [c3,Bool.true_and]at fin
      exact qb fin (vM ch).symm
     ·rw [vw]at c3
      rw [Bool.eq_false_iff.mpr c3,Bool.false_and]at fin
      exact fin
    ·rintro p zs H' hp ⟨rfl,_,rfl⟩
     refine ⟨p,(z.cps.toList.take z.length).map bP,rfl,SqL.of ac,?_⟩
     have e:cM (.str z)=((z.cps.toList.take z.length).map bP).all id:=by
      rw [ew,decide_eq_true c1',decide_eq_true c2',List.take_of_length_le (show z.cps.toList.length<=z.length from Nat.le_refl _),List.all_map]
      rfl
     exact qb (q _ (ai hp _)) e
  ·have c1': ¬ 1<=z.length:=fun z1=>by
    have:((1:Int)<=(z.length:Int)):=by omega
    rw [decide_eq_true this]at c1
    exact c1 rfl
   refine ⟨_,rfl,?_⟩
   refine cL ?_
   have e:cM (.str z)=false:=by rw [ew,decide_eq_false c1',Bool.false_and,Bool.false_and]
   exact qb (q H (Same.refl H)) e
theorem scHead:au ["thing","kind"] ["thing"] (ag pc):=fsc
theorem rP (F:Fun K "is_head" "is_head" pc f fd) (G:Gb mg) (mD:mg "INNER_COUNTS"=some (.ref aD)) (D:iX P w K aD eJ) {tN tP:Tok} (mN:mg "MOST_NUM"=some (.int 999999 tN)) (mP:mg "MOST_PART"=some (.int 2 tP))
  (GW:FnOk P w K mg base CX0 2 g gd ["thing","lowest","highest"] jb) (bW:Binds K gd ["thing","lowest","highest"] []) (kW:PySem.W.keepIn K (.ref g)=true) (mW:mg "is_whole_within"=some (.ref g))
  (GX:FnOk P w K mg base CX0 1 f2 fd2 ["thing"] oO) (bX:Binds K fd2 ["thing"] []) (kX:PySem.W.keepIn K (.ref f2)=true) (mX:mg "is_word"=some (.ref f2)):
  FnOk P w K mg base CX0 3 f fd ["thing"] oU:=by
 refine F.ok scHead (fun vs H Q E h=>?_) (fun cdv A outer s H vs Q E hr h=>?_)
 ·obtain ⟨v,rfl,_⟩:=h
  rfl
 obtain ⟨v,rfl,⟨hS,hI⟩,q⟩:=h
 have hr1:=hr.mono (show 1<=2 by decide)
 refine ⟨_,af (aV (PW.pt (ji (dw (cO (al ba rfl G.isi (by decide +kernel) (aa (pv 0) (aa (bb (v:=.ty "tuple") rfl G.tuple (by decide +kernel) rfl) ad)))))
   (gh (aA bh (al ax rfl G.len PySem.boot_len (aa (pv 0) ad)) ae (aB _))))) (ak (ar dL)) aE)
  (af (av (i:=1) scHead.nd rfl (Or.inl rfl) (aF a9 (pv 0) ae (fun _ _=>rfl)))
  (af (aV (dw (cO (al ba rfl G.isi (by decide +kernel) (aa (pv 1) (aa (bb (v:=.ty "str") rfl G.str (by decide +kernel) rfl) ad))))) (ak (ar dL)) aE)
  (af (aV (aA pM (pv 1) (bO (v:=.ref aD) rfl mD rfl) (by with_unfolding_all rfl))
   (ak (ar (cp bh (al ax rfl G.len PySem.boot_len (aa (pv 0) ad)) (am be ae (lN (bO (v:=.ref aD) rfl mD rfl) (pv 1) (fun _ _=>rfl))) (aB _)))) aE)
  (af (aV (aA bh (pv 1) ao (aB _))
   (ak (ar (cu (cp bh (al ax rfl G.len PySem.boot_len (aa (pv 0) ad)) ae (aB _))
    (cF (aq GW hr rfl mW kW bW .nil aL (aa (aF a9 (pv 0) ae (fun _ _=>rfl)) (aa (jo fU (bO (v:=.int 999999) rfl mN ⟨_,rfl⟩)) (aa (bO (v:=.int 999999) rfl mN ⟨_,rfl⟩) ad)))))))) aE)
  (af (aV (aA bh (pv 1) ao (aB _))
   (ak (ar (cu (cp bh (al ax rfl G.len PySem.boot_len (aa (pv 0) ad)) ae (aB _))
    (cF (aq GX hr1 rfl mX kX bX .nil aL (aa (aF a9 (pv 0) ae (fun _ _=>rfl)) ad)))))) aE)
  (af (aV (aA bh (pv 1) ao (aB _))
   (ak (ar (cu (cp bh (al ax rfl G.len PySem.boot_len (aa (pv 0) ad)) ae (aB _))
    (cu (aq GW hr rfl mW kW bW .nil aL (aa (aF a9 (pv 0) ae (fun _ _=>rfl)) (aa ae (aa (bO (v:=.int 2) rfl mP ⟨_,rfl⟩) ad))))
    (cF (aq GX hr1 rfl mX kX bX .nil aL (aa (aF a9 (pv 0) ae (fun _ _=>rfl)) ad))))))) aE)
  (ak (ar dL)))))))),?_⟩
 have fin: ∀ b,dm H v=b->Q (.bl b) H:=fun b e=>by
  exact qb (q H (Same.refl H)) e
 refine ⟨_,rfl,v,"tuple",rfl,hS,by simp,_,rfl,?_⟩
 refine aZ (fun c=>?_) (fun c=>?_)
 ·refine cL ?_
  refine fin false ?_
  have c':isV "tuple" H v=false:=by simpa using c
  cases v with
  | ref a=>
   rcases hS with ⟨ys,e⟩ | ⟨ys,e⟩ | ⟨ys,e⟩
   ·exact nR e
   ·simp only [isV,e]at c'
    simp at c'
   ·exact qr e
  | _=>rfl
 have c':isV "tuple" H v=true:=by
  cases h:isV "tuple" H v with
  | true=>rfl
  | false=>rw [h]at c;exact absurd rfl c
 obtain ⟨a,xs,rfl,ha⟩:=se c'
 obtain ⟨hl,hx⟩:=hI a xs rfl ha
 have hH:dm H (.ref a)=cI xs:=c6 ha
 refine ⟨_,rfl,a,xs,rfl,.inr (SqT.of ha),rfl,_,rfl,?_⟩
 cases xs with
 | nil=>exact cL (fin false (by rw [hH];rfl))
 | cons x0 r=>
  have c0: ¬ (decide (V.int (((x0::r).length:Nat):Int)=V.int 0))=true:=fun z=>by
   have:=of_decide_eq_true z
   injection this with this
   rw [List.length_cons]at this
   omega
  refine aZ (fun z=>absurd z c0) (fun _=>?_)
  refine ⟨_,rfl,a,_,0,x0,rfl,rfl,SqT.of ha,ce,?_⟩
  refine ⟨_,rfl,x0,"str",rfl,hx x0 List.mem_cons_self,by simp,_,rfl,?_⟩
  refine aZ (fun c1=>?_) (fun c1=>?_)
  ·refine fin false ?_
   rw [hH]
   cases x0 with
   | str k=>simp [isV]at c1
   | _=>rfl
  have c1':isV "str" H x0=true:=by
   cases h:isV "str" H x0 with
   | true=>rfl
   | false=>rw [h]at c1;exact absurd rfl c1
  obtain ⟨k,rfl⟩:=lY c1'
  have hlen: ∀ n:Nat,decide (V.int (((V.str k::r).length:Nat):Int)=V.int ((n+1:Nat):Int))=decide (r.length=n):=fun n=>by
   rw [lg,List.length_cons]
   by_cases h:r.length=n
   ·rw [decide_eq_true h,decide_eq_true (by omega)]
   ·rw [decide_eq_false h,decide_eq_false (by omega)]
  have hv:=qp k
  refine ⟨_,rfl,.inr k,aD,eJ,rfl,rfl,D,_,rfl,?_⟩
  cases hk:a8 k with
  | some n=>
   rw [hk]at hv
   refine aZ (fun _=>?_) (fun c2=>?_)
   ·refine ⟨_,rfl,a,_,rfl,.inr (SqT.of ha),_,rfl,aD,eJ,.inr k,_,rfl,rfl,D,hv,1,_,rfl,rfl,rfl,?_⟩
    refine fin _ ?_
    have e:=hlen n
    have e2:(1:Int) + (n:Int)=((n+1:Nat):Int):=by omega
    rw [hH]
    show cI (V.str k::r)=decide (V.int (((V.str k::r).length:Nat):Int)=V.int (1+ (n:Int)))
    rw [e2,e]
    simp only [cI,hk]
   ·rw [hv]at c2
    exact absurd rfl c2
  | none=>
   rw [hk]at hv
   refine aZ (fun c2=>?_) (fun _=>?_)
   ·rw [hv]at c2
    exact absurd c2 (by decide)
   have hh:cI (V.str k::r)=(if k="num" then pQ (cn (-999999) 999999) r
     else if k="own" then pQ cM r
     else if k="part" then sM (fun x y=>cn 0 2 x&&cM y) r else false):=by
    simp only [cI,hk]
   refine ⟨_,rfl,rfl,_,rfl,?_⟩
   refine aZ (fun c3=>?_) (fun c3=>?_)
   ·have ek:k="num":=by have:=of_decide_eq_true c3;injection this
    rw [if_pos ek]at hh
    refine ⟨_,rfl,a,_,rfl,.inr (SqT.of ha),rfl,_,rfl,?_⟩
    refine aZ (fun c4=>?_) (fun c4=>?_)
    ·have e4:r.length=1:=of_decide_eq_true ((hlen 1).symm.trans c4)
     obtain ⟨x1,rfl⟩: ∃ x1,r=[x1]:=List.length_eq_one_iff.mp e4
     refine ⟨_,rfl,a,_,1,x1,rfl,rfl,SqT.of ha,qG,999999,rfl,x1,-999999,999999,rfl,hx x1 (by simp),?_⟩
     exact fin _ (by rw [hH,hh];rfl)
    ·refine fin false ?_
     rw [hH,hh]
     exact lS fun e1=>c4 ((hlen 1).trans (decide_eq_true e1))
   have nk: ¬ k="num":=fun e=>c3 (decide_eq_true (by rw [e]))
   rw [if_neg nk]at hh
   refine ⟨_,rfl,rfl,_,rfl,?_⟩
   refine aZ (fun c3=>?_) (fun c3=>?_)
   ·have ek:k="own":=by have:=of_decide_eq_true c3;injection this
    rw [if_pos ek]at hh
    refine ⟨_,rfl,a,_,rfl,.inr (SqT.of ha),rfl,_,rfl,?_⟩
    refine aZ (fun c4=>?_) (fun c4=>?_)
    ·have e4:r.length=1:=of_decide_eq_true ((hlen 1).symm.trans c4)
     obtain ⟨x1,rfl⟩: ∃ x1,r=[x1]:=List.length_eq_one_iff.mp e4
     refine ⟨_,rfl,a,_,1,x1,rfl,rfl,SqT.of ha,qG,x1,rfl,hx x1 (by simp),fun H' sm=>?_⟩
     have e:dm H (.ref a)=cM x1:=by rw [hH,hh];rfl
     exact qb (q H' sm) e
    ·refine fin false ?_
     rw [hH,hh]
     exact lS fun e1=>c4 ((hlen 1).trans (decide_eq_true e1))
   have nk2: ¬ k="own":=fun e=>c3 (decide_eq_true (by rw [e]))
   rw [if_neg nk2]at hh
   refine ⟨_,rfl,rfl,_,rfl,?_⟩
   refine aZ (fun c3=>?_) (fun c3=>?_)
   ·have ek:k="part":=by have:=of_decide_eq_true c3;injection this
    rw [if_pos ek]at hh
    refine ⟨_,rfl,a,_,rfl,.inr (SqT.of ha),rfl,_,rfl,?_⟩
    refine aZ (fun c4=>?_) (fun c4=>?_)
    ·have e4:r.length=2:=of_decide_eq_true ((hlen 2).symm.trans c4)
     obtain ⟨x1,x2,rfl⟩: ∃ x1 x2,r=[x1,x2]:=by
      match r,e4 with
      | [x1,x2],_=>exact ⟨x1,x2,rfl⟩
     refine ⟨_,rfl,a,_,1,x1,rfl,rfl,SqT.of ha,qG,x1,0,2,rfl,hx x1 (by simp),_,rfl,?_⟩
     refine aZ (fun c5=>?_) (fun c5=>?_)
     ·refine ⟨_,rfl,a,_,2,x2,rfl,rfl,SqT.of ha,uy,x2,rfl,hx x2 (by simp),fun H' sm=>?_⟩
      have e:dm H (.ref a)=cM x2:=by rw [hH,hh];show (cn 0 2 x1&&cM x2)=_;rw [c5,Bool.true_and]
      exact qb (q H' sm) e
     ·refine fin false ?_
      rw [hH,hh]
      show (cn 0 2 x1&&cM x2)=_
      rw [Bool.eq_false_iff.mpr c5,Bool.false_and]
    ·refine fin false ?_
     rw [hH,hh]
     exact qM fun e1=>c4 ((hlen 2).trans (decide_eq_true e1))
   have nk3: ¬ k="part":=fun e=>c3 (decide_eq_true (by rw [e]))
   rw [if_neg nk3]at hh
   exact fin false (by rw [hH,hh])
noncomputable def Kp (tp:Addr) (H H':Hp):Prop:= ∀ b o,H b=some o->b≠tp->H' b=some o
theorem Kp.refl {tp:Addr} {H:Hp}:Kp tp H H:=fun _ _ h _=>h
theorem Kp.trans {tp:Addr} {H H1 H2:Hp} (a:Kp tp H H1) (b:Kp tp H1 H2):Kp tp H H2:=fun c o h n=>b c o (a c o h n) n
theorem Kp.same {tp:Addr} {H H1 H2:Hp} (a:Kp tp H H1) (b:Same H1 H2):Kp tp H H2:=fun c o h n=>b c o (a c o h n)
theorem Kp.tape {tp:Addr} {H:Hp} {o:HO}:Kp tp H (upd H tp o):=fun b u h n=>by rw [ah n];exact h
theorem Kp.new {tp p:Addr} {H H1:Hp} {o:HO} (a:Kp tp H H1) (h:H1 p=none):Kp tp H (upd H1 p o):=a.same (ai h _)
noncomputable def Tp (H:Hp) (tp:Addr):Prop:= ∃ t:Int,H tp=some (.lst [.int t])
theorem Kp.tk {tp:Addr} {H H':Hp} (a:Kp tp H H') (t:Tp H tp):TK H H':=fun b xs h=>a b _ h fun e=>by
 obtain ⟨t,ht⟩:=t
 subst e
 rw [ht]at h
 cases h
theorem Tp.new {H:Hp} {tp p:Addr} {o:HO} (t:Tp H tp) (h:H p=none):Tp (upd H p o) tp:=by
 obtain ⟨t,ht⟩:=t
 exact ⟨t,by rw [ah (aj ht h)];exact ht⟩
noncomputable def oV (K:PySem.W.Frag):Sp:=fun vs H Q _=> ∃ (a:Addr) (ns:List Int) (k:Int),vs=[.ref a,.int k]/\SqL K H a (ns.map V.int)/\ns.length<=63/\0<=k/\ ∀ c:Int,Q (.int c) H
noncomputable def oR (K:PySem.W.Frag):Sp:=fun vs H Q _=> ∃ (a:Addr) (ns:List Int) (k:Int),vs=[.ref a,.int k]/\SqL K H a (ns.map V.int)/\ns.length<=63/\0<=k/\k<1000/\ ∀ p t,H p=none->Q (.ref p) (upd H p (.lst [.int t]))
noncomputable def em:Sp:=fun vs H Q _=> ∃ (tp:Addr) (m:Int),vs=[.ref tp,.int m]/\Tp H tp/\0<m/\m<1073741824/\ ∀ d t:Int,0<=d->d<m->Q (.int d) (upd H tp (.lst [.int t]))
noncomputable def eh:Sp:=fun vs H Q _=> ∃ tp,vs=[.ref tp]/\Tp H tp/\ ∀ (n:Int) H',-999999<=n->n<=999999->Kp tp H H'->Tp H' tp->Q (.int n) H'
theorem tx:au ["script","k"] ["script","k"] (ag pf):=fsc
theorem rQ (F:Fun K "_law_cell_at" "_law_cell_at" pf f fd) (G:Gb mg):FnOk P w K mg base CX0 1 f fd ["script","k"] (oV K):=by
 refine F.ok tx (fun vs H Q E h=>?_) (fun cdv A outer s H vs Q E hr h=>?_)
 ·obtain ⟨a,ns,k,rfl,_⟩:=h
  rfl
 obtain ⟨a,ns,k,rfl,hS,hl,hk,q⟩:=h
 refine ⟨_,af (aV (aA lQ (pv 1) (al ax rfl G.len PySem.boot_len (aa (pv 0) ad)) (aB _)) (ak (ar (aF aJ (pv 0) (pv 1) (fun _ _=>rfl)))) aE) (ak (ar ae)),?_⟩
 refine ⟨_,rfl,_,rfl,a,_,rfl,.inl hS,_,_,rfl,rfl,_,rfl,?_⟩
 refine aZ (fun c=>?_) (fun c=>?_)
 ·have c':k< (((ns.map V.int).length:Nat):Int):=of_decide_eq_true c
  rw [List.length_map]at c'
  have hk':k.toNat<ns.length:=by omega
  have e:atI (ns.map V.int) k=some (V.int ns[k.toNat]):=by
   have ek:k=((k.toNat:Nat):Int):=by omega
   have q:atI (ns.map V.int) ((k.toNat:Nat):Int)=some (V.int ns[k.toNat]):=aW (by rw [List.getElem?_map,List.getElem?_eq_getElem hk'] <;> rfl)
   rw [<- ek]at q
   exact q
  exact ⟨_,rfl,_,rfl,a,_,k,_,rfl,rfl,hS,e,q _⟩
 ·exact q 0
theorem scTape:au ["script","k","cell","p","one","two","three","four"] ["script","k"] (ag o9):=fsc
theorem rN (F:Fun K "_law_tape" "_law_tape" o9 f fd) (GC:FnOk P w K mg base CX0 1 g gd ["script","k"] (oV K)) (bC:Binds K gd ["script","k"] []) (kC:PySem.W.keepIn K (.ref g)=true) (mC:mg "_law_cell_at"=some (.ref g)):
  FnOk P w K mg base CX0 2 f fd ["script","k"] (oR K):=by
 refine F.ok scTape (fun vs H Q E h=>?_) (fun cdv A outer s H vs Q E hr h=>?_)
 ·obtain ⟨a,ns,k,rfl,_⟩:=h
  rfl
 obtain ⟨a,ns,k,rfl,hS,hl,hk,hk2,q⟩:=h
 refine ⟨_,af (av (i:=2) scTape.nd rfl (Or.inl rfl) (aq GC hr rfl mC kC bC .nil aL (aa (pv 0) (aa (pv 1) ad))))
  (af (aV (aA bh (am cv (pv 2) ae) ae (aB _)) (ak (ar (bq (aa (am lR (pv 2) ae) ad)))) aE)
  (af (av (i:=3) scTape.nd rfl (Or.inl rfl) ae)
  (af (av (i:=4) scTape.nd rfl (Or.inl rfl) (am cv (am be (am be (am cG (am cv (pv 2) (pv 3)) ae) (am cG ae (pv 1))) ae) (pv 3)))
  (af (av (i:=5) scTape.nd rfl (Or.inl rfl) (am cv (am be (am be (am cG (pv 4) (pv 4)) (am cG ae (pv 1))) (pv 4)) (pv 3)))
  (af (av (i:=6) scTape.nd rfl (Or.inl rfl) (am cv (am be (am cG (pv 5) (pv 5)) (pv 4)) (pv 3)))
  (af (av (i:=7) scTape.nd rfl (Or.inl rfl) (am cv (am be (am cG (pv 6) (pv 6)) (pv 5)) (pv 3)))
  (ak (ar (bq (aa (am be (am cG (am be (am cG (am be (am cG (pv 4) (pv 3)) (pv 5)) (pv 3)) (pv 6)) (pv 3)) (pv 7)) ad)))))))))),?_⟩
 refine ⟨_,rfl,_,rfl,a,ns,k,rfl,hS,hl,hk,fun c=>?_⟩
 refine ⟨_,rfl,_,_,rfl,rfl,(by show (0:Int) <2;decide),rfl,_,rfl,?_⟩
 refine aZ (fun _=>?_) (fun _=>?_)
 ·exact ⟨_,rfl,_,_,rfl,rfl,⟨by decide,by decide⟩,(by show 1<=sizeLine;decide),fun p hp=>q p _ hp⟩
 have hp0:(0:Int) <2305843009213693951:=by decide
 have mm: ∀ x:Int,-(2^64) <x%2305843009213693951/\x%2305843009213693951<2^64:=fun x=>by
  have h1:=Int.emod_nonneg x (show (2305843009213693951:Int)≠0 by decide)
  have h2:=Int.emod_lt_of_pos x hp0
  omega
 have hkk: -(2^64) <k/\k<2^64:=by omega
 have hpp:(-(2^64):Int) <2305843009213693951/\(2305843009213693951:Int) <2^64:=by decide
 refine ⟨_,rfl,_,rfl,_,_,rfl,rfl,hp0,_,_,rfl,rfl,.inl (mm _),_,rfl,_,_,rfl,rfl,.inr hkk,_,_,rfl,rfl,_,_,rfl,rfl,_,rfl,_,_,rfl,rfl,hp0,?_⟩
 refine ⟨_,rfl,_,rfl,_,_,rfl,rfl,.inl (mm _),_,rfl,_,_,rfl,rfl,.inr hkk,_,_,rfl,rfl,_,rfl,_,_,rfl,rfl,_,rfl,_,_,rfl,rfl,hp0,?_⟩
 refine ⟨_,rfl,_,rfl,_,_,rfl,rfl,.inl (mm _),_,rfl,_,_,rfl,rfl,_,rfl,_,_,rfl,rfl,hp0,?_⟩
 refine ⟨_,rfl,_,rfl,_,_,rfl,rfl,.inl (mm _),_,rfl,_,_,rfl,rfl,_,rfl,_,_,rfl,rfl,hp0,?_⟩
 refine ⟨_,rfl,_,rfl,_,_,rfl,rfl,.inr hpp,_,rfl,_,_,rfl,rfl,_,rfl,_,_,rfl,rfl,.inr hpp,_,rfl,_,_,rfl,rfl,_,rfl,_,_,rfl,rfl,.inr hpp,_,rfl,_,_,rfl,rfl,(by show 1<=sizeLine;decide),fun p hp=>q p _ hp⟩
theorem scDigit:au ["tape","many","found"] ["tape","many"] (ag km):=fsc
theorem pY (F:Fun K "_law_digit" "_law_digit" km f fd):FnOk P w K mg base CX0 1 f fd ["tape","many"] em:=by
 refine F.ok scDigit (fun vs H Q E h=>?_) (fun cdv A outer s H vs Q E hr h=>?_)
 ·obtain ⟨tp,m,rfl,_⟩:=h
  rfl
 obtain ⟨tp,m,rfl,⟨t,ht⟩,hm,hm2,q⟩:=h
 refine ⟨_,af (av (i:=2) scDigit.nd rfl (Or.inl rfl) (am cv (aF aJ (pv 0) ae (fun _ _=>rfl)) (pv 1)))
  (af (tJ (am lR (aF aJ (pv 0) ae (fun _ _=>rfl)) (pv 1)) (tQ (pv 0) ae oX))
  (ak (ar (pv 2)))),?_⟩
 refine ⟨_,rfl,tp,_,0,_,rfl,rfl,SqL.of ht,ce,_,rfl,_,_,rfl,rfl,hm,?_⟩
 refine ⟨_,rfl,tp,_,0,_,rfl,rfl,SqL.of ht,ce,_,rfl,_,_,rfl,rfl,⟨hm,hm2⟩,?_⟩
 refine ⟨_,rfl,tp,_,0,0,rfl,rfl,ht,rfl,?_⟩
 exact ⟨_,rfl,q (t%m) (t/m) (Int.emod_nonneg _ (by omega)) (Int.emod_lt_of_pos _ hm)⟩
theorem scNumber:au ["tape","way"] ["tape"] (ag iC):=fsc
theorem ny (F:Fun K "_law_number" "_law_number" iC f fd) (GD:FnOk P w K mg base CX0 1 g gd ["tape","many"] em) (bD:Binds K gd ["tape","many"] []) (kD:PySem.W.keepIn K (.ref g)=true) (mD:mg "_law_digit"=some (.ref g)):
  FnOk P w K mg base CX0 2 f fd ["tape"] eh:=by
 refine F.ok scNumber (fun vs H Q E h=>?_) (fun cdv A outer s H vs Q E hr h=>?_)
 ·obtain ⟨tp,rfl,_⟩:=h
  rfl
 obtain ⟨tp,rfl,hT,q⟩:=h
 refine ⟨_,af (av (i:=1) scNumber.nd rfl (Or.inl rfl) (aq GD hr rfl mD kD bD .nil aL (aa (pv 0) (aa ae ad))))
  (af (aV (aA lQ (pv 1) ae (aB _)) (ak (ar (pv 1))) aE)
  (ak (ar (aF aJ (bq (aa (jo fU ae) (aa (am dW (aq GD hr rfl mD kD bD .nil aL (aa (pv 0) (aa ae ad))) ae)
   (aa (am dW (aq GD hr rfl mD kD bD .nil aL (aa (pv 0) (aa ae ad))) ae) ad)))) (am dW (pv 1) ae) (fun _ _=>rfl))))),?_⟩
 refine ⟨_,rfl,tp,6,rfl,hT,by decide,by decide,fun d t h0 h1=>?_⟩
 refine ⟨_,rfl,_,_,rfl,rfl,_,rfl,?_⟩
 refine aZ (fun c=>?_) (fun c=>?_)
 ·exact ⟨_,rfl,q d _ (by omega) (by omega) Kp.tape ⟨t,ac⟩⟩
 have c':3<=d:=by
  rcases Int.lt_or_le d 3 with z | z
  ·exact absurd (decide_eq_true z) c
  ·exact z
 refine ⟨_,rfl,_,rfl,tp,1001,rfl,⟨t,ac⟩,by decide,by decide,fun d2 t2 h20 h21=>?_⟩
 refine ⟨_,_,rfl,rfl,_,rfl,tp,1999999,rfl,⟨t2,ac⟩,by decide,by decide,fun d3 t3 h30 h31=>?_⟩
 refine ⟨_,_,rfl,rfl,(by show 3<=sizeLine;decide),fun p hp=>?_⟩
 rw [bK,bK]at hp ⊢
 have hd:d=3\/d=4\/d=5:=by omega
 have fin: ∀ n:Int,-999999<=n->n<=999999->Q (.int n) (upd (upd H tp (.lst [.int t3])) p (.lst [.int (-1),.int (d2-500),.int (d3-999999)])):=fun n h1 h2=>
  q n _ h1 h2 (Kp.tape.new hp) (Tp.new ⟨t3,ac⟩ hp)
 rcases hd with rfl | rfl | rfl
 ·exact ⟨_,rfl,_,_,rfl,rfl,p,_,0,_,rfl,rfl,SqL.of ac,ce,fin _ (by omega) (by omega)⟩
 ·exact ⟨_,rfl,_,_,rfl,rfl,p,_,1,_,rfl,rfl,SqL.of ac,qG,fin _ (by omega) (by omega)⟩
 ·exact ⟨_,rfl,_,_,rfl,rfl,p,_,2,_,rfl,rfl,SqL.of ac,uy,fin _ (by omega) (by omega)⟩
theorem Fs.mono {H H':Hp} (t:TK H H') {xs:List V} {n:Nat} (h:Fs H xs n):Fs H' xs n:=by
 induction h with
 | nil=>exact .nil
 | cons r w _ ih=>exact .cons (r.mono t) w ih
noncomputable def Lvs (H:Hp) (rs:List V):Prop:= ∀ v∈rs,∃ f,Rep H f v/\f.wf/\f.size=1
theorem Lvs.mono {H H':Hp} (t:TK H H') {rs:List V} (h:Lvs H rs):Lvs H' rs:=fun v hv=>by
 obtain ⟨f,r,w,s⟩:=h v hv
 exact ⟨f,r.mono t,w,s⟩
noncomputable def oS:Sp:=fun vs H Q _=> ∃ tp rl rs,vs=[.ref tp,.ref rl]/\Tp H tp/\rl≠tp/\H rl=some (.lst rs)/\rs.length<=1000/\Lvs H rs/\
 ∀ v f H',Rep H' f v->f.wf->f.size=1->Kp tp H H'->Tp H' tp->Q v H'
noncomputable def gV:Sp:=fun vs H Q _=> ∃ tp rl rs,vs=[.ref tp,.ref rl]/\Tp H tp/\rl≠tp/\H rl=some (.lst rs)/\rs.length<=1000/\Lvs H rs/\
 ∀ v f H',Rep H' f v->f.wf->f.size<=15->Kp tp H H'->Tp H' tp->Q v H'
theorem ll {α:Type} {xs:List α} {d:Int} (h0:0<=d) (h1:d<xs.length): ∃ x,atI xs d=some x/\xs[d.toNat]? =some x:=by
 have hk:d.toNat<xs.length:=by omega
 have ek:d=((d.toNat:Nat):Int):=by omega
 have q:atI xs ((d.toNat:Nat):Int)=some xs[d.toNat]:=aW (List.getElem?_eq_getElem hk)
 rw [<- ek]at q
 exact ⟨_,q,List.getElem?_eq_getElem hk⟩
theorem tw:au ["tape","readings"] ["tape","readings"] (ag pb):=fsc
theorem rO (F:Fun K "_law_leaf" "_law_leaf" pb f fd) (G:Gb mg) (GD:FnOk P w K mg base CX0 1 g gd ["tape","many"] em) (bD:Binds K gd ["tape","many"] []) (kD:PySem.W.keepIn K (.ref g)=true) (mD:mg "_law_digit"=some (.ref g))
  (GN:FnOk P w K mg base CX0 2 f2 fd2 ["tape"] eh) (bN:Binds K fd2 ["tape"] []) (kN:PySem.W.keepIn K (.ref f2)=true) (mN:mg "_law_number"=some (.ref f2)):
  FnOk P w K mg base CX0 3 f fd ["tape","readings"] oS:=by
 refine F.ok tw (fun vs H Q E h=>?_) (fun cdv A outer s H vs Q E hr h=>?_)
 ·obtain ⟨tp,rl,rs,rfl,_⟩:=h
  rfl
 obtain ⟨tp,rl,rs,rfl,hT,hne,hrl,hlen,hL,q⟩:=h
 have hr1:=hr.mono (show 1<=2 by decide)
 refine ⟨_,af (aV (PW.pt (kq (aA pN (al ax rfl G.len PySem.boot_len (aa (pv 1) ad)) ae (aB _))
   (iF (aA lQ (aq GD hr1 rfl mD kD bD .nil aL (aa (pv 0) (aa ae ad))) ae (aB _)))))
   (ak (ar (aF aJ (pv 1) (aq GD hr1 rfl mD kD bD .nil aL (aa (pv 0) (aa (al ax rfl G.len PySem.boot_len (aa (pv 1) ad)) ad))) (fun _ _=>rfl)))) aE)
  (ak (ar (bp (aa ao (aa (aq GN hr rfl mN kN bN .nil aL (aa (pv 0) ad)) ad))))),?_⟩
 have num: ∀ H1,Kp tp H H1->Tp H1 tp->(∃ v,([some (V.ref tp),some (.ref rl)]:St)[0]? =some (some v)/\eh [v] H1 (fun x H2=>[V.str "num",x].length<=sizeLine/\ ∀ p,H2 p=none->Q (.ref p) (upd H2 p (.tup [V.str "num",x]))) E0):=fun H1 k1 t1=>by
  refine ⟨_,rfl,tp,rfl,t1,fun n H2 h1 h2 k2 t2=>⟨(by show 2<=sizeLine;decide),fun p hp=>?_⟩⟩
  exact q _ (.num n) _ ⟨p,rfl,ac⟩ ⟨h1,h2⟩ rfl ((k1.trans k2).new hp) (t2.new hp)
 refine ⟨_,rfl,rl,rs,rfl,.inl (SqL.of hrl),_,_,rfl,rfl,_,rfl,?_⟩
 refine aZ (fun c=>?_) (fun c=>?_)
 ·have c':0<rs.length:=by have:=of_decide_eq_true c;omega
  refine ⟨_,rfl,tp,4,rfl,hT,by decide,by decide,fun d t h0 h1=>?_⟩
  refine ⟨_,_,rfl,rfl,_,rfl,?_⟩
  refine aZ (fun c2=>?_) (fun c2=>?_)
  ·have h2:(upd H tp (.lst [.int t])) rl=some (.lst rs):=by rw [ah hne];exact hrl
   refine ⟨_,rfl,_,rfl,_,rfl,rl,rs,rfl,.inl (SqL.of h2),tp,_,rfl,⟨t,ac⟩,by omega,by omega,fun d2 t2 h20 h21=>?_⟩
   rw [bK]
   have h3:(upd H tp (.lst [.int t2])) rl=some (.lst rs):=by rw [ah hne];exact hrl
   obtain ⟨x,ex,ex2⟩:=ll (xs:=rs) h20 h21
   obtain ⟨fm,r,wf,sz⟩:=hL x (List.mem_of_getElem? ex2)
   have k2:Kp tp H (upd H tp (.lst [.int t2])):=Kp.tape
   exact ⟨rl,rs,d2,x,rfl,rfl,SqL.of h3,ex,q x fm _ (r.mono (k2.tk hT)) wf sz k2 ⟨t2,ac⟩⟩
  ·exact num _ Kp.tape ⟨t,ac⟩
 ·exact num _ Kp.refl hT
theorem jP (xs:List V) {j:Int} (h0:0<=j) (h1:j<=xs.length):dZ xs none (some j)=xs.take j.toNat:=by
 have ej:j=((j.toNat:Nat):Int):=by omega
 have e:HT.sIx xs.length xs.length (some j)=j.toNat:=by
  rw [ej,HT.sIx_nat]
  omega
 unfold dZ
 rw [e,HT.sIx_none,List.drop_zero,Nat.sub_zero]
theorem jQ (xs:List V) {j:Int} (h0:0<=j) (h1:j<=xs.length):dZ xs (some j) none=xs.drop j.toNat:=by
 have ej:j=((j.toNat:Nat):Int):=by omega
 have e:HT.sIx xs.length 0 (some j)=j.toNat:=by
  rw [ej,HT.sIx_nat]
  omega
 unfold dZ
 rw [e,HT.sIx_none]
 apply List.take_of_length_le
 rw [List.length_drop]
 omega
theorem sX {xs:List V} {j:Nat} (h:j+2<=xs.length): ∃ a x y b,xs=a++x::y::b/\a.length=j/\xs.take j=a/\xs.drop (j+2)=b:=by
 refine ⟨xs.take j,xs[j],xs[j+1],xs.drop (j+2),?_,by rw [List.length_take];omega,rfl,rfl⟩
 rw [<- List.drop_eq_getElem_cons (by omega),<- List.drop_eq_getElem_cons (by omega),List.take_append_drop]
theorem sW {xs:List V} {j:Nat} (h:j+3<=xs.length): ∃ a x y z b,xs=a++x::y::z::b/\a.length=j/\xs.take j=a/\xs.drop (j+3)=b:=by
 refine ⟨xs.take j,xs[j],xs[j+1],xs[j+2],xs.drop (j+3),?_,by rw [List.length_take];omega,rfl,rfl⟩
 rw [<- List.drop_eq_getElem_cons (by omega),<- List.drop_eq_getElem_cons (by omega),<- List.drop_eq_getElem_cons (by omega),List.take_append_drop]
theorem gJ {a b:List V} {x:V} {d:Int} (h:d=(a.length:Int)):atI (a++x::b) d=some x:=by
 subst h
 exact aW (by rw [List.getElem?_append_right (Nat.le_refl _),Nat.sub_self];rfl)
theorem uk {H:Hp} {a b:List V} {x y:V} {n:Nat} (h:Fs H (a++x::y::b) n): ∃ A B,Rep H A x/\Rep H B y/\A.wf/\B.wf/\ ∃ m1 m2,Fs H a m1/\Fs H b m2/\n=m1+ (A.size+ (B.size+m2)):=by
 obtain ⟨m1,r,h1,h2,e⟩:=h.split
 cases h2 with
 | cons ra wa h3=>
  cases h3 with
  | cons rb wb h4=>exact ⟨_,_,ra,rb,wa,wb,m1,_,h1,h4,e⟩
theorem uj {H:Hp} {a b:List V} {x y z:V} {n:Nat} (h:Fs H (a++x::y::z::b) n): ∃ A B C,Rep H A x/\Rep H B y/\Rep H C z/\A.wf/\B.wf/\C.wf/\ ∃ m1 m2,Fs H a m1/\Fs H b m2/\n=m1+ (A.size+ (B.size+ (C.size+m2))):=by
 obtain ⟨m1,r,h1,h2,e⟩:=h.split
 cases h2 with
 | cons ra wa h3=>
  cases h3 with
  | cons rb wb h4=>
   cases h4 with
   | cons rc wc h5=>exact ⟨_,_,_,ra,rb,rc,wa,wb,wc,m1,_,h1,h5,e⟩
theorem vA {A B R:Prop} {c1 c2:Bool} (hr:(if c2=true then A else B)->R) (h1:c1=true->c2=true->A) (h2: ¬ (c1=true/\c2=true)->B):if c1=true then R else (if false=true then A else B):=by
 cases c1 with
 | true=>
  rw [if_pos rfl]
  apply hr
  cases c2 with
  | true=>rw [if_pos rfl];exact h1 rfl rfl
  | false=>exact bJ (h2 fun z=>Bool.false_ne_true z.2)
 | false=>exact bJ (bJ (h2 fun z=>Bool.false_ne_true z.1))
theorem scFormula:au ["tape","readings","many","j","stack","way","sign"] ["tape","readings"] (ag cV):=fsc
theorem kG (F:Fun K "_law_formula" "_law_formula" cV f fd) (G:Gb mg) (GD:FnOk P w K mg base CX0 1 g gd ["tape","many"] em) (bD:Binds K gd ["tape","many"] []) (kD:PySem.W.keepIn K (.ref g)=true) (mD:mg "_law_digit"=some (.ref g))
  (GL:FnOk P w K mg base CX0 3 f2 fd2 ["tape","readings"] oS) (bL:Binds K fd2 ["tape","readings"] []) (kL:PySem.W.keepIn K (.ref f2)=true) (mL:mg "_law_leaf"=some (.ref f2)):
  FnOk P w K mg base CX0 4 f fd ["tape","readings"] gV:=by
 refine F.ok scFormula (fun vs H Q E h=>?_) (fun cdv A outer s H vs Q E hr h=>?_)
 ·obtain ⟨tp,rl,rs,rfl,_⟩:=h
  rfl
 obtain ⟨tp,rl,rs,rfl,hT,hne,hrl,hlen,hL,q⟩:=h
 have hr1:=hr.mono (show 1<=3 by decide)
 obtain ⟨t,ht,hread⟩: ∃ t,PSs (cz CX0 P w K mg base ["tape","readings","many","j","stack","way","sign"] "_law_formula" (ag cV) f cdv A outer s H E).nox ((bd cV).drop 2) t/\
   ∀ (m:Int) (H2:Hp),1<=m->m<=8->Kp tp H H2->Tp H2 tp->t {nx:=fun _ H'=>Q .non H',rt:=Q} [some (.ref tp),some (.ref rl),some (.int m),none,none,none,none] H2:=by
  refine ⟨_,af (dG (i:=4) (sc0:=ag cV) (N0:=["tape","readings","many","j","stack","way","sign"]) (ys:=["tape","readings"]) (fr:=[0,1]) rfl scFormula.nd rfl (Or.inl rfl) (cY rfl G.range (aa (pv 2) ad)) rfl rfl
    cok
    (fun C s H ex=>aq GL hr rfl mL kL bL .nil aL (aa (pv 1) (aa (pv 2) ad))))
   (af (eB PassesOwn.never (aA pN (al ax rfl G.len PySem.boot_len (aa (pv 4) ad)) ae (aB _))
    (af (av (i:=5) scFormula.nd rfl (Or.inl rfl) (aq GD hr1 rfl mD kD bD .nil aL (aa (pv 0) (aa ae ad))))
    (ak (aV (PW.pt (kq (aA bh (pv 5) ae (aB _)) (iF (aA pN (al ax rfl G.len PySem.boot_len (aa (pv 4) ad)) ae (aB _)))))
     (af (av (i:=3) scFormula.nd rfl (Or.inl rfl) (aq GD hr1 rfl mD kD bD .nil aL (aa (pv 0) (aa (am dW (al ax rfl G.len PySem.boot_len (aa (pv 4) ad)) ae) ad))))
     (ak (av (i:=4) scFormula.nd rfl (Or.inl rfl) (am gq (am gq (bj et (pv 4) bu (bt (pv 3)))
      (bq (aa (bp (aa ao (aa (aF aJ (pv 4) (pv 3) (fun _ _=>rfl)) (aa (aF aJ (pv 4) (am be (pv 3) ae) (fun _ _=>rfl)) (aa (aF aJ (pv 4) (am be (pv 3) ae) (fun _ _=>rfl)) ad))))) ad)))
      (bj et (pv 4) (bt (am be (pv 3) ae)) bu)))))
     (af (av (i:=3) scFormula.nd rfl (Or.inl rfl) (aq GD hr1 rfl mD kD bD .nil aL (aa (pv 0) (aa (am dW (al ax rfl G.len PySem.boot_len (aa (pv 4) ad)) ae) ad))))
     (af (av (i:=6) scFormula.nd rfl (Or.inl rfl) (aF aJ (bq (aa ao (aa ao (aa ao (aa ao (aa ao ad)))))) (am cv (pv 5) ae) (fun _ _=>rfl)))
     (ak (av (i:=4) scFormula.nd rfl (Or.inl rfl) (am gq (am gq (bj et (pv 4) bu (bt (pv 3)))
      (bq (aa (bp (aa (pv 6) (aa (aF aJ (pv 4) (pv 3) (fun _ _=>rfl)) (aa (aF aJ (pv 4) (am be (pv 3) ae) (fun _ _=>rfl)) ad)))) ad)))
      (bj et (pv 4) (bt (am be (pv 3) ae)) bu))))))))))
   (ak (ar (aF aJ (pv 4) ae (fun _ _=>rfl))))),fun m H2 hm1 hm8 k2 tt2=>?_⟩
  have tpn: ∀ {p:Addr} {Hx:Hp},Tp Hx tp->Hx p=none->p≠tp:=fun t hp e=>by
   obtain ⟨t0,e0⟩:=t
   subst e
   rw [e0]at hp
   cases hp
  refine ⟨_,rfl,m,rfl,by omega,by omega,?_⟩
  refine c8 (n:=m.toNat) (R:=fun i v=>v=.int (0+i)) (by omega) kY gz iN
   (fun p i zs H'=>Kp tp H H'/\Tp H' tp/\H' p=some (.lst zs)/\p≠tp/\zs.length=i/\Fs H' zs i) ?_ ?_ ?_ ?_
  ·intro p hp
   exact ⟨k2.new hp,tt2.new hp,ac,tpn tt2 hp,rfl,.nil⟩
  ·rintro p i zs H' ⟨_,_,h,_,e,_⟩
   exact ⟨h,e⟩
  ·rintro p i zs H' v k hp hi rfl ⟨k3,t3,hz,hpn,hzl,hf⟩ hk
   have hrl':H' rl=some (.lst rs):=k3 _ _ hrl hne
   refine ⟨_,rfl,_,rfl,tp,rl,rs,rfl,t3,hne,hrl',hlen,hL.mono (k3.tk hT),fun v f H3 rp wf sz k4 t4=>?_⟩
   refine hk v H3 (k4 _ _ hz hpn) ⟨?_,?_,ac,hpn,by rw [List.length_append,hzl];rfl,?_⟩
   ·intro b o hb hne'
    have hbp:b≠p:=fun e=>by
     subst e
     have:=k2 b o hb hne'
     rw [hp]at this
     cases this
    rw [ah hbp]
    exact k4 _ _ (k3 _ _ hb hne') hne'
   ·obtain ⟨t0,e0⟩:=t4
    exact ⟨t0,by rw [ah (Ne.symm hpn)];exact e0⟩
   ·have tk:TK H3 (upd H3 p (.lst (zs++[v]))):=TK.lst (k4 _ _ hz hpn)
    have e1:Fs H3 zs i:=hf.mono (k4.tk t3)
    have e2:=e1.append (Fs.cons rp wf .nil)
    rw [sz]at e2
    exact e2.mono tk
  ·rintro p zs H' hp ⟨k3,t3,hz,hpn,hzl,hf⟩
   refine ee (fun Z H'=> ∃ (sl:Addr) (ws:List V) (n:Nat) (j wy sg:Option V),Z=[some (.ref tp),some (.ref rl),some (.int m),j,some (.ref sl),wy,sg]/\H' sl=some (.lst ws)/\sl≠tp/\1<=ws.length/\ws.length<=8/\
     Fs H' ws n/\n+ws.length<=16/\Kp tp H H'/\Tp H' tp)
    (fun Z H'=>match Z with | [_,_,_,_,some (.ref sl),_,_]=>(match H' sl with | some (.lst ws)=>ws.length | _=>0) | _=>0)
    ⟨p,zs,m.toNat,none,none,none,rfl,hz,hpn,by omega,by omega,hf,by omega,k3,t3⟩ ?_ ?_
   ·rintro Z H3 ⟨sl,ws,n,j,wy,sg,rfl,hsl,hsn,hw1,hw8,hfs,hsz,k4,t4⟩
    refine ⟨_,rfl,sl,ws,rfl,.inl (SqL.of hsl),_,_,rfl,rfl,_,rfl,?_⟩
    refine aZ (fun c=>?_) (fun c=>?_)
    ·have c':1<ws.length:=by have:=of_decide_eq_true c;omega
     refine ⟨_,rfl,tp,6,rfl,t4,by decide,by decide,fun wy t5 hw0 hw6=>?_⟩
     have k5:Kp tp H3 (upd H3 tp (.lst [.int t5])):=Kp.tape
     have tt5:Tp (upd H3 tp (.lst [.int t5])) tp:=⟨t5,ac⟩
     have hsl5:=k5 _ _ hsl hsn
     have hfs5:=hfs.mono (k5.tk t4)
     have k5':=k4.trans k5
     generalize upd H3 tp (.lst [.int t5])=H5 at k5 tt5 hsl5 hfs5 k5' ⊢
     refine ⟨_,rfl,rfl,_,rfl,?_⟩
     refine vA (c2:=decide (2< (ws.length:Int))) (fun h=>⟨_,rfl,sl,ws,rfl,.inl (SqL.of hsl5),_,_,rfl,rfl,_,rfl,h⟩) (fun _ cw=>?_) (fun _=>?_)
     ·-- when
      have cw':2<ws.length:=by have:=of_decide_eq_true cw;omega
      refine ⟨_,rfl,_,rfl,sl,ws,rfl,.inl (SqL.of hsl5),_,_,rfl,rfl,tp,_,rfl,tt5,by omega,by omega,fun jj t6 hj0 hj1=>?_⟩
      have k6:Kp tp H5 (upd H5 tp (.lst [.int t6])):=Kp.tape
      have tt6:Tp (upd H5 tp (.lst [.int t6])) tp:=⟨t6,ac⟩
      have hsl6:=k6 _ _ hsl5 hsn
      have hfs6:=hfs5.mono (k6.tk tt5)
      have k6':=k5'.trans k6
      generalize upd H5 tp (.lst [.int t6])=H6 at k6 tt6 hsl6 hfs6 k6' ⊢
      obtain ⟨a,x,y,z,b,ew,ea,etk,edr⟩:=sW (xs:=ws) (j:=jj.toNat) (by omega)
      have ej:jj=(a.length:Int):=by omega
      obtain ⟨A,B,C,ra,rb,rc,wa,wb,wc,m1,m2,f1,f2,en⟩:=uj (ew▸hfs6)
      have hlw:ws.length=a.length+3+b.length:=by rw [ew];simp;omega
      refine ⟨_,rfl,_,rfl,jj,rfl,sl,ws,rfl,SqL.of hsl6,fun p1 hp1=>?_⟩
      rw [jP ws hj0 (by omega),etk]
      have s1:Same H6 (upd H6 p1 (.lst a)):=ai hp1 _
      have g1:(upd H6 p1 (.lst a)) p1=some (.lst a):=ac
      generalize upd H6 p1 (.lst a)=H7 at s1 g1 ⊢
      have hsl7:=s1 _ _ hsl6
      refine ⟨_,rfl,_,rfl,sl,ws,jj,x,rfl,rfl,SqL.of hsl7,ew▸gJ ej,_,rfl,_,rfl,_,_,rfl,rfl,sl,ws,jj+1,y,rfl,rfl,SqL.of hsl7,?_,_,rfl,_,rfl,_,_,rfl,rfl,sl,ws,jj+2,z,rfl,rfl,SqL.of hsl7,?_,(by show 4<=sizeLine;decide),fun p2 hp2=>?_⟩
      ·rw [ew,show a++x::y::z::b=(a++[x])++y::z::b by simp]
       exact gJ (by simp;omega)
      ·rw [ew,show a++x::y::z::b=(a++[x,y])++z::b by simp]
       exact gJ (by simp;omega)
      have s2:Same H7 (upd H7 p2 (.tup [.str "when",x,y,z])):=ai hp2 _
      have g2:(upd H7 p2 (.tup [.str "when",x,y,z])) p2=some (.tup [.str "when",x,y,z]):=ac
      generalize upd H7 p2 (.tup [.str "when",x,y,z])=H8 at s2 g2 ⊢
      refine ⟨(by show 1<=sizeLine;decide),fun p3 hp3=>?_⟩
      have s3:Same H8 (upd H8 p3 (.lst [.ref p2])):=ai hp3 _
      have g3:(upd H8 p3 (.lst [.ref p2])) p3=some (.lst [.ref p2]):=ac
      generalize upd H8 p3 (.lst [.ref p2])=H9 at s3 g3 ⊢
      refine ⟨p1,p3,a,_,rfl,rfl,s3 _ _ (s2 _ _ g1),g3,Nat.le_of_lt (aG (by simp;omega)),fun p4 hp4=>?_⟩
      have s4:Same H9 (upd H9 p4 (.lst (a++[.ref p2]))):=ai hp4 _
      have g4:(upd H9 p4 (.lst (a++[.ref p2]))) p4=some (.lst (a++[.ref p2])):=ac
      generalize upd H9 p4 (.lst (a++[.ref p2]))=H10 at s4 g4 ⊢
      have s7:Same H7 H10:=s2.trans (s3.trans s4)
      refine ⟨_,rfl,_,rfl,_,_,rfl,rfl,jj+3,rfl,sl,ws,rfl,SqL.of (s7 _ _ hsl7),fun p5 hp5=>?_⟩
      rw [jQ ws (by omega) (by omega),show (jj+3).toNat=jj.toNat+3 by omega,edr]
      have s5:Same H10 (upd H10 p5 (.lst b)):=ai hp5 _
      have g5:(upd H10 p5 (.lst b)) p5=some (.lst b):=ac
      generalize upd H10 p5 (.lst b)=H11 at s5 g5 ⊢
      refine ⟨p4,p5,_,b,rfl,rfl,s5 _ _ g4,g5,Nat.le_of_lt (aG (by simp;omega)),fun p6 hp6=>?_⟩
      have s6:Same H6 H11:=s1.trans (s7.trans s5)
      have st:Same H6 (upd H11 p6 (.lst (a++[.ref p2]++b))):=s6.trans (ai hp6 _)
      have tk:TK H6 (upd H11 p6 (.lst (a++[.ref p2]++b))):=fun c xs h=>st _ _ h
      have g2':(upd H11 p6 (.lst (a++[.ref p2]++b))) p2=some (.tup [.str "when",x,y,z]):=(ai hp6 _) _ _ (s5 _ _ (s4 _ _ (s3 _ _ g2)))
      have tt7:Tp (upd H11 p6 (.lst (a++[.ref p2]++b))) tp:=by obtain ⟨t0,e0⟩:=tt6;exact ⟨t0,st _ _ e0⟩
      refine ⟨⟨p6,_,m1+ ((Fm.whn A B C).size+0) +m2,_,_,_,rfl,ac,?_,by simp;omega,by simp;omega,?_,?_,k6'.same st,tt7⟩,?_⟩
      ·intro e
       obtain ⟨t0,e0⟩:=tt6
       have:=s6 _ _ e0
       rw [<- e,hp6]at this
       cases this
      ·exact ((f1.mono tk).append (Fs.cons (f:=.whn A B C) ⟨p2,x,y,z,rfl,g2',ra.mono tk,rb.mono tk,rc.mono tk⟩ ⟨wa,wb,wc⟩ .nil)).append (f2.mono tk)
      ·show m1+ ((A.size+B.size+C.size+1) +0) +m2+ (a++[V.ref p2]++b).length<=16
       simp
       omega
      ·show (match (upd H11 p6 (.lst (a++[.ref p2]++b))) p6 with | some (.lst ws)=>ws.length | _=>0) < (match H3 sl with | some (.lst ws)=>ws.length | _=>0)
       rw [ac,hsl]
       simp
       omega
     ·-- one of the five signs
      refine ⟨_,rfl,_,rfl,sl,ws,rfl,.inl (SqL.of hsl5),_,_,rfl,rfl,tp,_,rfl,tt5,by omega,by omega,fun jj t6 hj0 hj1=>?_⟩
      have k6:Kp tp H5 (upd H5 tp (.lst [.int t6])):=Kp.tape
      have tt6:Tp (upd H5 tp (.lst [.int t6])) tp:=⟨t6,ac⟩
      have hsl6:=k6 _ _ hsl5 hsn
      have hfs6:=hfs5.mono (k6.tk tt5)
      have k6':=k5'.trans k6
      generalize upd H5 tp (.lst [.int t6])=H6 at k6 tt6 hsl6 hfs6 k6' ⊢
      refine ⟨(by show 5<=sizeLine;decide),fun p0 hp0=>?_⟩
      have s0:Same H6 (upd H6 p0 (.lst [.str "plus",.str "less",.str "times",.str "least",.str "most"])):=ai hp0 _
      have g0:(upd H6 p0 (.lst [.str "plus",.str "less",.str "times",.str "least",.str "most"])) p0=some (.lst [.str "plus",.str "less",.str "times",.str "least",.str "most"]):=ac
      generalize upd H6 p0 (.lst [.str "plus",.str "less",.str "times",.str "least",.str "most"])=H6b at s0 g0 ⊢
      obtain ⟨op,hop,hopm⟩: ∃ op,atI [V.str "plus",.str "less",.str "times",.str "least",.str "most"] (wy%5)=some (.str op)/\op∈ops:=by
       have h1:=Int.emod_nonneg wy (show (5:Int)≠0 by decide)
       have h2:=Int.emod_lt_of_pos wy (show (0:Int) <5 by decide)
       have h5:wy%5=0\/wy%5=1\/wy%5=2\/wy%5=3\/wy%5=4:=by omega
       rcases h5 with h | h | h | h | h <;> rw [h]
       ·exact ⟨"plus",rfl,by simp [ops]⟩
       ·exact ⟨"less",rfl,by simp [ops]⟩
       ·exact ⟨"times",rfl,by simp [ops]⟩
       ·exact ⟨"least",rfl,by simp [ops]⟩
       ·exact ⟨"most",rfl,by simp [ops]⟩
      refine ⟨_,rfl,_,_,rfl,rfl,(by show (0:Int) <5;decide),p0,_,_,_,rfl,rfl,SqL.of g0,hop,?_⟩
      obtain ⟨a,x,y,b,ew,ea,etk,edr⟩:=sX (xs:=ws) (j:=jj.toNat) (by omega)
      have ej:jj=(a.length:Int):=by omega
      obtain ⟨A,B,ra,rb,wa,wb,m1,m2,f1,f2,en⟩:=uk (ew▸hfs6)
      have hlw:ws.length=a.length+2+b.length:=by rw [ew];simp;omega
      have hsl6b:=s0 _ _ hsl6
      refine ⟨_,rfl,_,rfl,jj,rfl,sl,ws,rfl,SqL.of hsl6b,fun p1 hp1=>?_⟩
      rw [jP ws hj0 (by omega),etk]
      have s1:Same H6b (upd H6b p1 (.lst a)):=ai hp1 _
      have g1:(upd H6b p1 (.lst a)) p1=some (.lst a):=ac
      generalize upd H6b p1 (.lst a)=H7 at s1 g1 ⊢
      have hsl7:=s1 _ _ hsl6b
      refine ⟨_,rfl,_,rfl,_,rfl,sl,ws,jj,x,rfl,rfl,SqL.of hsl7,ew▸gJ ej,_,rfl,_,rfl,_,_,rfl,rfl,sl,ws,jj+1,y,rfl,rfl,SqL.of hsl7,?_,(by show 3<=sizeLine;decide),fun p2 hp2=>?_⟩
      ·rw [ew,show a++x::y::b=(a++[x])++y::b by simp]
       exact gJ (by simp;omega)
      have s2:Same H7 (upd H7 p2 (.tup [.str op,x,y])):=ai hp2 _
      have g2:(upd H7 p2 (.tup [.str op,x,y])) p2=some (.tup [.str op,x,y]):=ac
      generalize upd H7 p2 (.tup [.str op,x,y])=H8 at s2 g2 ⊢
      refine ⟨(by show 1<=sizeLine;decide),fun p3 hp3=>?_⟩
      have s3:Same H8 (upd H8 p3 (.lst [.ref p2])):=ai hp3 _
      have g3:(upd H8 p3 (.lst [.ref p2])) p3=some (.lst [.ref p2]):=ac
      generalize upd H8 p3 (.lst [.ref p2])=H9 at s3 g3 ⊢
      refine ⟨p1,p3,a,_,rfl,rfl,s3 _ _ (s2 _ _ g1),g3,Nat.le_of_lt (aG (by simp;omega)),fun p4 hp4=>?_⟩
      have s4:Same H9 (upd H9 p4 (.lst (a++[.ref p2]))):=ai hp4 _
      have g4:(upd H9 p4 (.lst (a++[.ref p2]))) p4=some (.lst (a++[.ref p2])):=ac
      generalize upd H9 p4 (.lst (a++[.ref p2]))=H10 at s4 g4 ⊢
      have s7:Same H7 H10:=s2.trans (s3.trans s4)
      refine ⟨_,rfl,_,rfl,_,_,rfl,rfl,jj+2,rfl,sl,ws,rfl,SqL.of (s7 _ _ hsl7),fun p5 hp5=>?_⟩
      rw [jQ ws (by omega) (by omega),show (jj+2).toNat=jj.toNat+2 by omega,edr]
      have s5:Same H10 (upd H10 p5 (.lst b)):=ai hp5 _
      have g5:(upd H10 p5 (.lst b)) p5=some (.lst b):=ac
      generalize upd H10 p5 (.lst b)=H11 at s5 g5 ⊢
      refine ⟨p4,p5,_,b,rfl,rfl,s5 _ _ g4,g5,Nat.le_of_lt (aG (by simp;omega)),fun p6 hp6=>?_⟩
      have s6:Same H6 H11:=s0.trans (s1.trans (s7.trans s5))
      have st:Same H6 (upd H11 p6 (.lst (a++[.ref p2]++b))):=s6.trans (ai hp6 _)
      have tk:TK H6 (upd H11 p6 (.lst (a++[.ref p2]++b))):=fun c xs h=>st _ _ h
      have g2':(upd H11 p6 (.lst (a++[.ref p2]++b))) p2=some (.tup [.str op,x,y]):=(ai hp6 _) _ _ (s5 _ _ (s4 _ _ (s3 _ _ g2)))
      have tt7:Tp (upd H11 p6 (.lst (a++[.ref p2]++b))) tp:=by obtain ⟨t0,e0⟩:=tt6;exact ⟨t0,st _ _ e0⟩
      refine ⟨⟨p6,_,m1+ ((Fm.bin op A B).size+0) +m2,_,_,_,rfl,ac,?_,by simp;omega,by simp;omega,?_,?_,k6'.same st,tt7⟩,?_⟩
      ·intro e
       obtain ⟨t0,e0⟩:=tt6
       have:=s6 _ _ e0
       rw [<- e,hp6]at this
       cases this
      ·exact ((f1.mono tk).append (Fs.cons (f:=.bin op A B) ⟨p2,x,y,rfl,g2',ra.mono tk,rb.mono tk⟩ ⟨hopm,wa,wb⟩ .nil)).append (f2.mono tk)
      ·show m1+ ((A.size+B.size+1) +0) +m2+ (a++[V.ref p2]++b).length<=16
       simp
       omega
      ·show (match (upd H11 p6 (.lst (a++[.ref p2]++b))) p6 with | some (.lst ws)=>ws.length | _=>0) < (match H3 sl with | some (.lst ws)=>ws.length | _=>0)
       rw [ac,hsl]
       simp
       omega
    ·have c':ws.length=1:=by
      have: ¬ (1:Int) < (ws.length:Int):=fun z=>c (decide_eq_true z)
      omega
     obtain ⟨x,ex⟩:=List.length_eq_one_iff.mp c'
     subst ex
     cases hfs with
     | cons rp wf f2=>
      cases f2
      refine ⟨_,rfl,sl,_,0,x,rfl,rfl,SqL.of hsl,ce,q x _ H3 rp wf (by simp at hsz;omega) k4 t4⟩
   ·rintro Z H3 Q1 Q2 hq ⟨y,e1,p,ys,e2,h2,i,j,e3,e4,k,e5,h⟩
    exact ⟨y,e1,p,ys,e2,h2,i,j,e3,e4,k,e5,hq _ _ h⟩
 refine ⟨_,af (av (i:=2) scFormula.nd rfl (Or.inl rfl) (am be ae (aq GD hr1 rfl mD kD bD .nil aL (aa (pv 0) (aa ae ad)))))
  (af (aV (aA bh (aq GD hr1 rfl mD kD bD .nil aL (aa (pv 0) (aa ae ad))) ae (aB _)) (ak (av (i:=2) scFormula.nd rfl (Or.inl rfl) ae)) aE) ht),?_⟩
 refine ⟨_,rfl,tp,4,rfl,hT,by decide,by decide,fun d1 t1 h10 h11=>?_⟩
 refine ⟨1,_,rfl,rfl,?_⟩
 refine ⟨_,rfl,tp,16,rfl,⟨t1,ac⟩,by decide,by decide,fun d2 t2 h20 h21=>?_⟩
 rw [bK]
 refine ⟨rfl,_,rfl,?_⟩
 refine aZ (fun c9=>?_) (fun c9=>?_)
 ·exact hread 8 _ (by decide) (by decide) Kp.tape ⟨t2,ac⟩
 ·exact hread (1+d1) _ (by omega) (by omega) Kp.tape ⟨t2,ac⟩
noncomputable def gK (ws:List Str):Prop:= ∀ x∈ws,aT x=true
noncomputable def lE:Sp:=fun vs H Q _=> ∃ tp m,vs=[.ref tp,.int m]/\Tp H tp/\0<=m/\m<=13/\
 ∀ l (ws:List Str) H',H' l=some (.lst (ws.map V.str))->(ws.length:Int)=m->gK ws->l≠tp->Kp tp H H'->Tp H' tp->Q (.ref l) H'
theorem my (z:Str) (lo hi:Option Int): ∀ c∈(Txt.slice z lo hi).cps.toList,c∈z.cps.toList:=by
 unfold Txt.slice
 split
 ·exact fun _ h=>h
 ·intro c h
  have h':c∈((Builtin.Str.strSliceIndices lo hi 1 z.length).filterMap (z.cps[·]?)):=by simpa using h
  obtain ⟨i,_,e⟩:=List.mem_filterMap.mp h'
  have e':z.cps.toList[i]? =some c:=by rw [Array.getElem?_toList];exact e
  exact List.mem_of_getElem? e'
theorem eY (z:Str) {j:Int} (h0:0<=j) (h1:j<=z.length):((Txt.slice z none (some j)).length:Int)=j:=by
 rcases PyProof.Rows.slice_ns_cases z j h0 with ⟨_,h⟩ | ⟨h,_⟩
 ·exact h
 ·omega
noncomputable def letters:Str:="abcdefghijklmnopqrstuvwxyz"
theorem jB:letters.cps.toList.all bP=true:=by decide +kernel
theorem fE:letters.length=26:=by decide +kernel
theorem fk {d:Int} (h0:0<=d) (h1:d<26): ∃ c,atI letters.cps.toList d=some c/\bP c=true:=by
 have hl:letters.cps.toList.length=26:=by decide +kernel
 obtain ⟨c,e,e2⟩:=ll (xs:=letters.cps.toList) h0 (by rw [hl];omega)
 exact ⟨c,e,List.all_eq_true.mp jB c (List.mem_of_getElem? e2)⟩
theorem aS (x y:Str):(x++y).length=x.length+y.length:=by
 show (x.cps++y.cps).size=_
 rw [Array.size_append]
 rfl
theorem iS (x y:Str):(x++y).cps.toList.all bP=(x.cps.toList.all bP&&y.cps.toList.all bP):=by
 show (x.cps++y.cps).toList.all bP=_
 rw [Array.toList_append,List.all_append]
theorem ip {x:Str} (h1:1<=x.length) (h8:x.length<=8) (ha:x.cps.toList.all bP=true):aT x=true:=by
 unfold aT
 rw [decide_eq_true h1,decide_eq_true h8,ha]
 rfl
theorem eZ {z:Str} (ha:z.cps.toList.all bP=true) (lo hi:Option Int):(Txt.slice z lo hi).cps.toList.all bP=true:=
 List.all_eq_true.mpr fun c hc=>List.all_eq_true.mp ha c (my z lo hi c hc)
theorem iJ {c:Nat} (h:bP c=true):(⟨#[c]⟩:Str).cps.toList.all bP=true:=by
 show (bP c&&true)=true
 rw [h]
 rfl
noncomputable def names13:List Str:=["own","up","down","min","max","of","top","form","sort","wheel","book","tree","ok"]
theorem gN:gK names13:=by
 unfold gK names13
 decide +kernel
theorem aneq:(Txt.slice "aneqoubi" none (some 7)).length=7/\(Txt.slice "aneqoubi" none (some 7)).cps.toList.all bP=true:=by decide +kernel
theorem sk:("eyzmopq":Str).cps.toList.all bP=true:=by decide +kernel
theorem ma:("eyzmopq":Str).length=7:=by decide +kernel
theorem scNames:au ["tape","many","letters","way","turn","back","stem","names","words"] ["tape","many"] (ag du):=fsc
theorem pW (F:Fun K "_law_names" "_law_names" du f fd) (G:Gb mg) (GD:FnOk P w K mg base CX0 1 g gd ["tape","many"] em) (bD:Binds K gd ["tape","many"] []) (kD:PySem.W.keepIn K (.ref g)=true) (mD:mg "_law_digit"=some (.ref g)):
  FnOk P w K mg base CX0 2 f fd ["tape","many"] lE:=by
 refine F.ok scNames (fun vs H Q E h=>?_) (fun cdv A outer s H vs Q E hr h=>?_)
 ·obtain ⟨tp,m,rfl,_⟩:=h
  rfl
 obtain ⟨tp,m,rfl,hT,hm0,hm1,q⟩:=h
 obtain ⟨t,ht,hread⟩: ∃ t,PSs (cz CX0 P w K mg base ["tape","many","letters","way","turn","back","stem","names","words"] "_law_names" (ag du) f cdv A outer s H E).nox ((bd du).drop 5) t/\
   ∀ (b:Int) (l:Addr) (ws:List Str) (H2:Hp) (o2 o3 o4 o6 o8:Option V),(b=1\/b= -1)->H2 l=some (.lst (ws.map V.str))->(ws.length:Int)=m->gK ws->Kp tp H H2->Tp H2 tp->
    t {nx:=fun _ H'=>Q .non H',rt:=Q} [some (.ref tp),some (.int m),o2,o3,o4,some (.int b),o6,some (.ref l),o8] H2:=by
  refine ⟨_,ak (ar (lM (pv 7) (pv 5))),fun b l ws H2 o2 o3 o4 o6 o8 hb hl hlen hw k2 t2=>?_⟩
  refine ⟨_,rfl,_,rfl,l,_,b,rfl,rfl,SqL.of hl,by omega,fun p hp=>?_⟩
  have hpt:p≠tp:=fun e=>by
   obtain ⟨t0,e0⟩:=t2
   subst e
   rw [e0]at hp
   cases hp
  rcases hb with rfl | rfl
  ·rw [mx]
   exact q p ws _ ac hlen hw hpt (k2.new hp) (t2.new hp)
  ·rw [gU,<- List.map_reverse]
   exact q p ws.reverse _ ac (by rw [List.length_reverse];exact hlen) (fun x hx=>hw x (List.mem_reverse.mp hx)) hpt (k2.new hp) (t2.new hp)
 have cw: ∀ {te:TE} {fr:List Nat} {Z:St} {H2:Hp} {Q2:VK},(∀ (i:Nat) (H3:Hp) (k:VK),(i:Int) <m->(∀ x:Str,aT x=true->k (.str x) H3)->te (some (.int (0+i))::cx fr Z) H3 k)->
   (∀ p (ws:List Str),H2 p=none->(ws.length:Int)=m->gK ws->Q2 (.ref p) (upd H2 p (.lst (ws.map V.str))))->fV fr te Z (Itr 0 m.toNat) H2 Q2:=by
  intro te fr Z H2 Q2 hs hd
  refine c8 (n:=m.toNat) (R:=fun i v=>v=.int (0+i)) (by omega) kY gz iN
   (fun p i zs H'=>H'=upd H2 p (.lst zs)/\ ∃ ws:List Str,zs=ws.map V.str/\ws.length=i/\gK ws) (fun p hp=>⟨rfl,[],rfl,rfl,fun x hx=>by cases hx⟩) ?_ ?_ ?_
  ·rintro p i zs H' ⟨rfl,ws,rfl,hl,_⟩
   exact ⟨ac,by rw [List.length_map];exact hl⟩
  ·rintro p i zs H' v k hp hi rfl ⟨rfl,ws,rfl,hl,hw⟩ hk
   refine hs i _ k (by omega) fun x hx=>hk (.str x) _ ac ⟨bK,ws++[x],by simp,by simp [hl],fun y hy=>?_⟩
   rcases List.mem_append.mp hy with e | e
   ·exact hw y e
   ·rw [List.mem_singleton.mp e]
    exact hx
  ·rintro p zs H' hp ⟨rfl,ws,rfl,hl,hw⟩
   exact hd p ws hp (by omega) hw
 refine ⟨_,af (av (i:=2) scNames.nd rfl (Or.inr rfl) ao)
  (af (av (i:=3) scNames.nd rfl (Or.inl rfl) (aq GD hr rfl mD kD bD .nil aL (aa (pv 0) (aa ae ad))))
  (af (av (i:=4) scNames.nd rfl (Or.inr rfl) (aq GD hr rfl mD kD bD .nil aL (aa (pv 0) (aa ae ad))))
  (af (av (i:=5) scNames.nd rfl (Or.inl rfl) (am dW ae (am cG ae (aq GD hr rfl mD kD bD .nil aL (aa (pv 0) (aa ae ad))))))
  (af (aV (aA bh (pv 3) ae (aB _))
   (af (av (i:=6) scNames.nd rfl (Or.inr rfl) (am ay (aF kQ (pv 2) (pv 4) (fun _ _=>rfl)) (bj ga ao bu (bt ae))))
   (ak (dG (i:=7) (sc0:=ag du) (N0:=["tape","many","letters","way","turn","back","stem","names","words"]) (ys:=["letters","stem","turn"]) (fr:=[2,6,4]) rfl scNames.nd rfl (Or.inl rfl) (cY rfl G.range (aa (pv 1) ad)) rfl rfl
    cok
    (fun C s H ex=>eC (aA lQ (pv 0) ae (aB _)) (bj ga (pv 2) bu (bt (am be (pv 0) ae)))
     (am ay (aF kQ (pv 1) (am cv (am be (pv 3) ae) ae) (fun _ _=>rfl)) (bj ga (pv 2) bu (bt (am dW (pv 0) ae))))))))
   (ak (aV (aA bh (pv 3) ae (aB _))
    (@af _ _ _ _ _ (@rf _ 8 _ _ (names13.map V.str) _ _ _ scNames.nd rfl (Or.inr rfl) (Or.inl rfl) rfl)
    (ak (dG (i:=7) (sc0:=ag du) (N0:=["tape","many","letters","way","turn","back","stem","names","words"]) (ys:=["turn","words"]) (fr:=[4,8]) rfl scNames.nd rfl (Or.inl rfl) (cY rfl G.range (aa (pv 1) ad)) rfl rfl
     cok
     (fun C s H ex=>aF (r:=uY K) aJ (pv 2) (am cv (am be (pv 1) (pv 0)) ae) (fun _ _=>rfl)))))
    (ak (dG (i:=7) (sc0:=ag du) (N0:=["tape","many","letters","way","turn","back","stem","names","words"]) (ys:=["letters","turn"]) (fr:=[2,4]) rfl scNames.nd rfl (Or.inl rfl) (cY rfl G.range (aa (pv 1) ad)) rfl rfl
     cok
     (fun C s H ex=>am ay (aF kQ (pv 1) (am cv (am be (pv 2) (pv 0)) ae) (fun _ _=>rfl)) (bj ga ao bu (bt (am cv (am be (pv 2) (am cG ae (pv 0))) ae)))))))))
  ht)))),?_⟩
 refine ⟨_,rfl,tp,3,rfl,hT,by decide,by decide,fun wy t1 hw0 hw1=>?_⟩
 refine ⟨_,rfl,tp,26,rfl,⟨t1,ac⟩,by decide,by decide,fun tu t2 htu0 htu1=>?_⟩
 rw [bK]
 refine ⟨_,rfl,tp,2,rfl,⟨t2,ac⟩,by decide,by decide,fun bk t3 hb0 hb1=>?_⟩
 rw [bK]
 refine ⟨2,_,rfl,rfl,.inl ⟨by decide,by decide⟩,1,_,rfl,rfl,?_⟩
 have hb:(1-2*bk=1\/1-2*bk= -1):=by omega
 have k3:Kp tp H (upd H tp (.lst [.int t3])):=Kp.tape
 have tt3:Tp (upd H tp (.lst [.int t3])) tp:=⟨t3,ac⟩
 generalize upd H tp (.lst [.int t3])=H3 at k3 tt3 ⊢
 have l26:(letters.length:Int)=26:=by rw [fE];rfl
 have lsz:letters.length<=sizeLine:=by rw [fE];exact Nat.le_of_lt (aG (by decide))
 refine ⟨_,rfl,rfl,_,rfl,?_⟩
 refine aZ (fun c=>?_) (fun c=>?_)
 ·-- stems
  obtain ⟨c0,ec0,lc0⟩:=fk htu0 htu1
  refine ⟨_,rfl,_,rfl,letters,tu,c0,rfl,rfl,lsz,ec0,7,rfl,"aneqoubi",rfl,(by decide +kernel),_,_,rfl,rfl,?_,?_⟩
  ·rw [aneq.1]
   show 1+7<=sizeLine
   exact Nat.le_of_lt (aG (by decide))
  have zl:((⟨#[c0]⟩:Str)++Txt.slice "aneqoubi" none (some 7)).length=8:=by rw [aS,aneq.1];rfl
  have za:((⟨#[c0]⟩:Str)++Txt.slice "aneqoubi" none (some 7)).cps.toList.all bP=true:=by rw [iS,iJ lc0,aneq.2];rfl
  generalize (⟨#[c0]⟩:Str)++Txt.slice "aneqoubi" none (some 7)=z at zl za ⊢
  have zsz:z.length<=sizeLine:=by rw [zl];exact Nat.le_of_lt (aG (by decide))
  refine ⟨_,rfl,m,rfl,by omega,by omega,?_⟩
  refine cw ?_ ?_
  ·intro i H4 k hi hk
   refine ⟨_,rfl,_,_,rfl,rfl,_,rfl,?_⟩
   refine aZ (fun ci=>?_) (fun ci=>?_)
   ·have ci':(0+ (i:Int)) <8:=of_decide_eq_true ci
    refine ⟨_,rfl,_,rfl,_,_,rfl,rfl,_,rfl,z,rfl,zsz,hk _ ?_⟩
    have e:=eY z (j:=0+ (i:Int) +1) (by omega) (by rw [zl];omega)
    exact ip (by omega) (by omega) (eZ za _ _)
   ·have ci':8<=(0+ (i:Int)):=by
     rcases Int.lt_or_le (0+ (i:Int)) 8 with y | y
     ·exact absurd (decide_eq_true y) ci
     ·exact y
    obtain ⟨c1,ec1,lc1⟩:=fk (d:=(tu+1) %26) (Int.emod_nonneg _ (by decide)) (Int.emod_lt_of_pos _ (by decide))
    have e:=eY z (j:=0+ (i:Int) -8) (by omega) (by rw [zl];omega)
    refine ⟨_,rfl,_,rfl,_,_,rfl,rfl,_,_,rfl,rfl,(by show (0:Int) <26;decide),letters,_,c1,rfl,rfl,lsz,ec1,_,rfl,_,rfl,_,_,rfl,rfl,_,rfl,z,rfl,zsz,_,_,rfl,rfl,?_,hk _ ?_⟩
    ·show 1+ (Txt.slice z none (some (0+ (i:Int) -8))).length<=sizeLine
     exact Nat.le_of_lt (aG (by omega))
    ·refine ip ?_ ?_ ?_
     ·rw [aS];show 1<=1+_;omega
     ·rw [aS];show 1+_<=8;omega
     ·rw [iS,iJ lc1,eZ za]
      rfl
  ·intro p ws hp hl hw
   exact hread (1-2*bk) p ws _ _ _ _ _ _ hb ac hl hw (k3.new hp) (tt3.new hp)
 ·refine ⟨_,rfl,rfl,_,rfl,?_⟩
  refine aZ (fun c=>?_) (fun c=>?_)
  ·-- written words
   refine ⟨(by show 13<=sizeLine;decide),fun pw hpw=>?_⟩
   refine ⟨_,rfl,m,rfl,by omega,by omega,?_⟩
   have s4:Same H3 (upd H3 pw (.lst (names13.map V.str))):=ai hpw _
   have g4:(upd H3 pw (.lst (names13.map V.str))) pw=some (.lst (names13.map V.str)):=ac
   have k4:Kp tp H (upd H3 pw (.lst (names13.map V.str))):=k3.same s4
   have tt4:Tp (upd H3 pw (.lst (names13.map V.str))) tp:=tt3.new hpw
   generalize upd H3 pw (.lst (names13.map V.str))=H4 at s4 g4 k4 tt4 ⊢
   refine c8 (n:=m.toNat) (R:=fun i v=>v=.int (0+i)) (by omega) kY gz iN
    (fun p i zs H'=>H'=upd H4 p (.lst zs)/\H4 p=none/\ ∃ ws:List Str,zs=ws.map V.str/\ws.length=i/\gK ws) (fun p hp=>⟨rfl,hp,[],rfl,rfl,fun x hx=>by cases hx⟩) ?_ ?_ ?_
   ·rintro p i zs H' ⟨rfl,_,ws,rfl,hl,_⟩
    exact ⟨ac,by rw [List.length_map];exact hl⟩
   ·rintro p i zs H' v k hp hi rfl ⟨rfl,hp4,ws,rfl,hl,hw⟩ hk
    have h1:=Int.emod_nonneg (tu+ (0+ (i:Int))) (show (13:Int)≠0 by decide)
    have h2:=Int.emod_lt_of_pos (tu+ (0+ (i:Int))) (show (0:Int) <13 by decide)
    obtain ⟨xv,ex,ex2⟩:=ll (xs:=names13.map V.str) h1 (by rw [List.length_map];exact h2)
    obtain ⟨x,hx,rfl⟩:=List.mem_map.mp (List.mem_of_getElem? ex2)
    have g5:(upd H4 p (.lst (ws.map V.str))) pw=some (.lst (names13.map V.str)):=by rw [ah (aj g4 hp4)];exact g4
    refine ⟨_,rfl,_,rfl,_,rfl,_,_,rfl,rfl,_,_,rfl,rfl,(by show (0:Int) <13;decide),pw,_,_,_,rfl,rfl,SqL.of g5,ex,?_⟩
    refine hk (.str x) _ ac ⟨bK,hp4,ws++[x],by simp,by simp [hl],fun y hy=>?_⟩
    rcases List.mem_append.mp hy with e | e
    ·exact hw y e
    ·rw [List.mem_singleton.mp e]
     exact gN x hx
   ·rintro p zs H' hp ⟨rfl,hp4,ws,rfl,hl,hw⟩
    exact hread (1-2*bk) p ws _ _ _ _ _ _ hb ac (by omega) hw (k4.new hp4) (tt4.new hp4)
  ·-- a letter and a tail
   refine ⟨_,rfl,m,rfl,by omega,by omega,?_⟩
   refine cw ?_ ?_
   ·intro i H4 k hi hk
    obtain ⟨c1,ec1,lc1⟩:=fk (d:=(tu+ (0+ (i:Int))) %26) (Int.emod_nonneg _ (by decide)) (Int.emod_lt_of_pos _ (by decide))
    have h1:=Int.emod_nonneg (tu+3* (0+ (i:Int))) (show (8:Int)≠0 by decide)
    have h2:=Int.emod_lt_of_pos (tu+3* (0+ (i:Int))) (show (0:Int) <8 by decide)
    have e:=eY "eyzmopq" (j:=(tu+3* (0+ (i:Int))) %8) h1 (by rw [ma];omega)
    refine ⟨_,rfl,_,rfl,_,rfl,_,_,rfl,rfl,_,_,rfl,rfl,(by show (0:Int) <26;decide),letters,_,c1,rfl,rfl,lsz,ec1,_,rfl,_,rfl,3,_,rfl,rfl,.inl ⟨by decide,by decide⟩,_,_,rfl,rfl,_,_,rfl,rfl,(by show (0:Int) <8;decide),_,rfl,"eyzmopq",rfl,(by rw [ma];exact Nat.le_of_lt (aG (by decide))),_,_,rfl,rfl,?_,hk _ ?_⟩
    ·show 1+ (Txt.slice "eyzmopq" none (some ((tu+3* (0+ (i:Int))) %8))).length<=sizeLine
     exact Nat.le_of_lt (aG (by omega))
    ·refine ip ?_ ?_ ?_
     ·rw [aS];show 1<=1+_;omega
     ·rw [aS];show 1+_<=8;omega
     ·rw [iS,iJ lc1,eZ sk]
      rfl
   ·intro p ws hp hl hw
    exact hread (1-2*bk) p ws _ _ _ _ _ _ hb ac hl hw (k3.new hp) (tt3.new hp)
noncomputable def fY:Sp:=fun vs H Q _=> ∃ tp,vs=[.ref tp]/\Tp H tp/\ ∀ rl rs H',H' rl=some (.lst rs)->rs.length<=1000->Lvs H' rs->rl≠tp->Kp tp H H'->Tp H' tp->Q (.ref rl) H'
theorem v8 {α:Type} {x y z u:α} {r:List α}:atI (x::y::z::u::r) 3=some u:=aW (j:=3) rfl
theorem Tp.same {H H':Hp} {tp:Addr} (t:Tp H tp) (s:Same H H'):Tp H' tp:=by
 obtain ⟨t0,e⟩:=t
 exact ⟨t0,s _ _ e⟩
theorem scReadings:au ["tape","words","found"] ["tape"] (ag fe):=fsc
theorem ju (F:Fun K "_law_some_readings" "_law_some_readings" fe f fd) (GN:FnOk P w K mg base CX0 2 g gd ["tape","many"] lE) (bN:Binds K gd ["tape","many"] []) (kN:PySem.W.keepIn K (.ref g)=true) (mN:mg "_law_names"=some (.ref g)):
  FnOk P w K mg base CX0 3 f fd ["tape"] fY:=by
 refine F.ok scReadings (fun vs H Q E h=>?_) (fun cdv A outer s H vs Q E hr h=>?_)
 ·obtain ⟨tp,rfl,_⟩:=h
  rfl
 obtain ⟨tp,rfl,hT,q⟩:=h
 refine ⟨_,af (av (i:=1) scReadings.nd rfl (Or.inl rfl) (aq GN hr rfl mN kN bN .nil aL (aa (pv 0) (aa ae ad))))
  (af (av (i:=2) scReadings.nd rfl (Or.inl rfl) (bq (pac (bp (pac ao (pac (aF aJ (pv 1) ae (fun _ _=>rfl)) ad))) (pac (bp (pac ao (pac (aF aJ (pv 1) ae (fun _ _=>rfl)) ad)))
   (pac (bp (pac ao (pac ae (pac (aF aJ (pv 1) ae (fun _ _=>rfl)) ad)))) (pac (bp (pac ao (pac ae (pac (aF aJ (pv 1) ae (fun _ _=>rfl)) ad)))) ad))))))
  (ak (ar (am gq (pv 2) (bq (pac (bp (pac ao (pac ae (pac (aF aJ (pv 1) ae (fun _ _=>rfl)) ad)))) (pac (bp (pac ao (pac ae (pac (aF aJ (pv 1) ae (fun _ _=>rfl)) ad)))) ad))))))),?_⟩
 refine ⟨_,rfl,tp,4,rfl,hT,by decide,by decide,fun l ws H1 hl hlen hw hne k1 t1=>?_⟩
 obtain ⟨w0,w1,w2,w3,rfl⟩: ∃ w0 w1 w2 w3,ws=[w0,w1,w2,w3]:=by
  match ws,hlen with
  | [w0,w1,w2,w3],_=>exact ⟨w0,w1,w2,w3,rfl⟩
 have e0:aT w0=true:=hw w0 (by simp)
 have e1:aT w1=true:=hw w1 (by simp)
 have e2:aT w2=true:=hw w2 (by simp)
 have e3:aT w3=true:=hw w3 (by simp)
 refine ⟨_,rfl,l,_,0,_,rfl,rfl,SqL.of hl,ce,(by show 2<=sizeLine;decide),fun p1 h1=>?_⟩
 have s1:=ai h1 (.tup [.str "own",.str w0])
 have g1:(upd H1 p1 (.tup [.str "own",.str w0])) p1=some (.tup [.str "own",.str w0]):=ac
 generalize upd H1 p1 (.tup [.str "own",.str w0])=H2 at s1 g1 ⊢
 refine ⟨_,rfl,l,_,1,_,rfl,rfl,SqL.of (s1 _ _ hl),qG,(by show 2<=sizeLine;decide),fun p2 h2=>?_⟩
 have s2:=ai h2 (.tup [.str "own",.str w1])
 have g2:(upd H2 p2 (.tup [.str "own",.str w1])) p2=some (.tup [.str "own",.str w1]):=ac
 generalize upd H2 p2 (.tup [.str "own",.str w1])=H3 at s2 g2 ⊢
 have s12:=s1.trans s2
 refine ⟨_,rfl,l,_,2,_,rfl,rfl,SqL.of (s12 _ _ hl),uy,(by show 3<=sizeLine;decide),fun p3 h3=>?_⟩
 have s3:=ai h3 (.tup [.str "part",.int 0,.str w2])
 have g3:(upd H3 p3 (.tup [.str "part",.int 0,.str w2])) p3=some (.tup [.str "part",.int 0,.str w2]):=ac
 generalize upd H3 p3 (.tup [.str "part",.int 0,.str w2])=H4 at s3 g3 ⊢
 have s13:=s12.trans s3
 refine ⟨_,rfl,l,_,3,_,rfl,rfl,SqL.of (s13 _ _ hl),v8,(by show 3<=sizeLine;decide),fun p4 h4=>?_⟩
 have s4:=ai h4 (.tup [.str "part",.int 1,.str w3])
 have g4:(upd H4 p4 (.tup [.str "part",.int 1,.str w3])) p4=some (.tup [.str "part",.int 1,.str w3]):=ac
 generalize upd H4 p4 (.tup [.str "part",.int 1,.str w3])=H5 at s4 g4 ⊢
 have s14:=s13.trans s4
 refine ⟨(by show 4<=sizeLine;decide),fun p5 h5=>?_⟩
 have s5:=ai h5 (.lst [.ref p1,.ref p2,.ref p3,.ref p4])
 have g5:(upd H5 p5 (.lst [.ref p1,.ref p2,.ref p3,.ref p4])) p5=some (.lst [.ref p1,.ref p2,.ref p3,.ref p4]):=ac
 generalize upd H5 p5 (.lst [.ref p1,.ref p2,.ref p3,.ref p4])=H6 at s5 g5 ⊢
 have s15:=s14.trans s5
 refine ⟨_,rfl,_,rfl,l,_,0,_,rfl,rfl,SqL.of (s15 _ _ hl),ce,(by show 3<=sizeLine;decide),fun p6 h6=>?_⟩
 have s6:=ai h6 (.tup [.str "part",.int 2,.str w0])
 have g6:(upd H6 p6 (.tup [.str "part",.int 2,.str w0])) p6=some (.tup [.str "part",.int 2,.str w0]):=ac
 generalize upd H6 p6 (.tup [.str "part",.int 2,.str w0])=H7 at s6 g6 ⊢
 have s16:=s15.trans s6
 refine ⟨_,rfl,l,_,0,_,rfl,rfl,SqL.of (s16 _ _ hl),ce,(by show 3<=sizeLine;decide),fun p7 h7=>?_⟩
 have s7:=ai h7 (.tup [.str "part",.int 0,.str w0])
 have g7:(upd H7 p7 (.tup [.str "part",.int 0,.str w0])) p7=some (.tup [.str "part",.int 0,.str w0]):=ac
 generalize upd H7 p7 (.tup [.str "part",.int 0,.str w0])=H8 at s7 g7 ⊢
 refine ⟨(by show 2<=sizeLine;decide),fun p8 h8=>?_⟩
 have s8:=ai h8 (.lst [.ref p6,.ref p7])
 have g8:(upd H8 p8 (.lst [.ref p6,.ref p7])) p8=some (.lst [.ref p6,.ref p7]):=ac
 generalize upd H8 p8 (.lst [.ref p6,.ref p7])=H9 at s8 g8 ⊢
 have s59:Same H6 H9:=s6.trans (s7.trans s8)
 refine ⟨p5,p8,_,_,rfl,rfl,s59 _ _ g5,g8,(by show 4+2<=sizeLine;decide),fun p9 h9=>?_⟩
 have s9:=ai h9 (.lst [.ref p1,.ref p2,.ref p3,.ref p4,.ref p6,.ref p7])
 have g9:(upd H9 p9 (.lst [.ref p1,.ref p2,.ref p3,.ref p4,.ref p6,.ref p7])) p9=some (.lst [.ref p1,.ref p2,.ref p3,.ref p4,.ref p6,.ref p7]):=ac
 have t9:Tp H9 tp:=t1.same (s15.trans s59)
 have n9:p9≠tp:=fun e=>by
  obtain ⟨t0,e0⟩:=t9
  subst e
  rw [e0]at h9
  cases h9
 refine q p9 _ _ g9 (by simp) ?_ n9 ((k1.same (s15.trans s59)).same s9) (t9.same s9)
 have f7:=s8.trans s9
 have f6:=s7.trans f7
 have f5:=s6.trans f6
 have f4:=s5.trans f5
 have f3:=s4.trans f4
 have f2:=s3.trans f3
 have f1:=s2.trans f2
 intro v hv
 simp only [List.mem_cons,List.not_mem_nil,or_false]at hv
 rcases hv with rfl | rfl | rfl | rfl | rfl | rfl
 ·exact ⟨.own w0,⟨p1,rfl,f1 _ _ g1⟩,e0,rfl⟩
 ·exact ⟨.own w1,⟨p2,rfl,f2 _ _ g2⟩,e1,rfl⟩
 ·exact ⟨.part 0 w2,⟨p3,rfl,f3 _ _ g3⟩,⟨by decide,e2⟩,rfl⟩
 ·exact ⟨.part 1 w3,⟨p4,rfl,f4 _ _ g4⟩,⟨by decide,e3⟩,rfl⟩
 ·exact ⟨.part 2 w0,⟨p6,rfl,f6 _ _ g6⟩,⟨by decide,e0⟩,rfl⟩
 ·exact ⟨.part 0 w0,⟨p7,rfl,f7 _ _ g7⟩,⟨by decide,e0⟩,rfl⟩
open PySem.NumText (AllDigits digitsVal)
theorem bi {x y:Str} (h:x.cps.toList=y.cps.toList):x=y:=by
 cases x;cases y
 exact congrArg Str.mk (Array.toList_inj.mp h)
noncomputable def dg (m:Nat):List Nat:=(Nat.toDigits 10 m).map Char.toNat
noncomputable def aX (n:Int):Str:=Str.ofString (toString n)
theorem fv (m:Nat):AllDigits (dg m):=fun c hc=>by
 obtain ⟨ch,hch,e⟩:=List.mem_map.mp hc
 have r:=Nat.isDigit_of_mem_toDigits (by decide) (by decide) hch
 rw [<- e]
 simp only [Char.isDigit,Bool.and_eq_true,decide_eq_true_eq]at r
 exact ⟨r.1,r.2⟩
theorem lc {m:Nat} (h:m<=999999):1<=(dg m).length/\(dg m).length<=6:=by
 unfold dg
 rw [List.length_map]
 exact ⟨Nat.length_toDigits_pos,(Nat.length_toDigits_le_iff (by decide) (by decide)).mpr (by omega)⟩
theorem uu (m:Nat):digitsVal (dg m)=m:=PySem.W.KIN.val_back m
theorem dz (n:Int):(aX n).cps.toList=if n<0 then 45::dg n.natAbs else dg n.natAbs:=by
 unfold aX
 rw [PyProof.Rows.signs_ofString]
 cases n with
 | ofNat m=>
  rw [if_neg (show ¬ Int.ofNat m<0 from Int.not_lt.mpr (Int.natCast_nonneg m))]
  show (Nat.repr m).toList.map Char.toNat=_
  rw [Nat.toList_repr]
  rfl
 | negSucc m=>
  rw [if_pos (Int.negSucc_lt_zero m)]
  show (("-":String)++Nat.repr (m+1)).toList.map Char.toNat=_
  rw [String.toList_append,List.map_append,Nat.toList_repr]
  rfl
theorem ox: ∀ (cs:List Nat),AllDigits cs->digitsVal cs<10^cs.length:=by
 have go: ∀ (cs:List Nat) (a:Nat),AllDigits cs->cs.foldl (fun acc c=>acc*10+ (c-48)) a< (a+1) *10^cs.length:=by
  intro cs
  induction cs with
  | nil=>intro a _;show a< (a+1) *1;omega
  | cons c r ih=>
   intro a h
   have hc:=h.head
   have:=ih (a*10+ (c-48)) h.tail
   rw [List.foldl_cons,List.length_cons,Nat.pow_succ]
   refine Nat.lt_of_lt_of_le this ?_
   rw [show (a+1) * (10^r.length*10)=(a*10+10) *10^r.length by rw [Nat.mul_comm (10^r.length) 10,<- Nat.mul_assoc,Nat.add_mul]]
   exact Nat.mul_le_mul_right _ (by omega)
 intro cs h
 have:=go cs 0 h
 rw [Nat.zero_add,Nat.one_mul]at this
 exact this
noncomputable def dB (c:Nat):Bool:=decide (48<=c/\c<=57)
noncomputable def ck (l:List Nat):List Nat:=if l.head?=some 45 then l.drop 1 else l
noncomputable def wwB (x:Str):Bool:=decide (1<=(ck x.cps.toList).length)&&decide ((ck x.cps.toList).length<=6)&&(ck x.cps.toList).all dB&&(match intText? x with | some n=>decide (aX n=x) | none=>false)
theorem eM {l:List Nat} (h:l.all dB=true):AllDigits l:=fun c hc=>of_decide_eq_true (List.all_eq_true.mp h c hc)
theorem qI {l:List Nat} (h:AllDigits l):l.all dB=true:=List.all_eq_true.mpr fun c hc=>decide_eq_true (h c hc)
theorem gB {x:Str} (h1:ck x.cps.toList≠[]) (ha:AllDigits (ck x.cps.toList)) (hl:x.length<=4300):intText? x=some (if x.cps.toList.head?=some 45 then -((digitsVal (ck x.cps.toList):Nat):Int)else ((digitsVal (ck x.cps.toList):Nat):Int)):=by
 unfold ck at *
 by_cases c:x.cps.toList.head?=some 45
 ·rw [if_pos c]at *
  cases hx:x.cps.toList with
  | nil=>rw [hx]at c;cases c
  | cons a r=>
   rw [hx]at c h1 ha
   cases c
   rw [PySem.intText_neg hx ha h1 hl]
   rfl
 ·rw [if_neg c]at h1 ha
  rw [if_neg c,if_neg c]
  exact PySem.intText_digits ha h1 hl
theorem lu {x:Str} (h:wwB x=true): ∃ n,intText? x=some n/\aX n=x/\ -999999<=n/\n<=999999:=by
 unfold wwB at h
 simp only [Bool.and_eq_true,decide_eq_true_eq]at h
 obtain ⟨⟨⟨h1,h2⟩,h3⟩,h4⟩:=h
 have hl:x.length<=4300:=by
  rw [Str.length,<- Array.length_toList]
  unfold ck at h2
  by_cases c:x.cps.toList.head?=some 45
  ·rw [if_pos c,List.length_drop]at h2;omega
  ·rw [if_neg c]at h2;omega
 have e:=gB (List.ne_nil_of_length_pos h1) (eM h3) hl
 rw [e]at h4
 have hv:=ox _ (eM h3)
 have hp:10^ (ck x.cps.toList).length<=10^6:=Nat.pow_le_pow_right (by decide) h2
 refine ⟨_,e,of_decide_eq_true h4,?_,?_⟩ <;> split <;> omega
theorem jM (n:Int):ck (aX n).cps.toList=dg n.natAbs:=by
 rw [dz]
 unfold ck
 by_cases c:n<0
 ·rw [if_pos c];rfl
 ·rw [if_neg c,if_neg]
  intro e
  have:=fv n.natAbs 45 (by
   cases hd:dg n.natAbs with
   | nil=>rw [hd]at e;cases e
   | cons a r=>rw [hd]at e;cases e;exact List.mem_cons_self)
  omega
theorem l7 {n:Int} (h0: -999999<=n) (h1:n<=999999):intText? (aX n)=some n:=by
 have hd:=lc (m:=n.natAbs) (by omega)
 have hn:=jM n
 have hl:(aX n).length<=4300:=by
  rw [Str.length,<- Array.length_toList,dz]
  split
  ·rw [List.length_cons];omega
  ·omega
 rw [gB (by rw [hn];exact List.ne_nil_of_length_pos hd.1) (by rw [hn];exact fv _) hl,hn,uu,dz]
 by_cases c:n<0
 ·rw [if_pos c,if_pos (show (45::dg n.natAbs).head?=some 45 from rfl)]
  congr 1
  omega
 ·rw [if_neg c,if_neg]
  ·congr 1;omega
  ·intro e
   have:=fv n.natAbs 45 (by
    cases hd:dg n.natAbs with
    | nil=>rw [hd]at e;cases e
    | cons a r=>rw [hd]at e;cases e;exact List.mem_cons_self)
   omega
theorem sK {n:Int} (h0: -999999<=n) (h1:n<=999999):wwB (aX n)=true:=by
 have hd:=lc (m:=n.natAbs) (by omega)
 unfold wwB
 rw [jM,l7 h0 h1,decide_eq_true hd.1,decide_eq_true hd.2,qI (fv _)]
 exact decide_eq_true rfl
theorem gY {x:Str} (h:46∉x.cps.toList):Txt.partition x "."=(x,Str.empty,Str.empty):=by
 unfold Txt.partition
 rcases StrLaws.occ_head x ⟨#[46]⟩ 1 (Nat.le_refl 1)with ⟨h0,_⟩ | ⟨i,r,h0,hi,hn⟩
 ·rw [show (".":Str)=⟨#[46]⟩from rfl,h0]
 ·exact absurd (List.mem_of_getElem? ((StrLaws.subAt_one x 46 i).mp hi)) h
theorem gm {a s:List Nat} (h:46∉a) {x:Str} (hx:x.cps.toList=a++46::s):(Txt.partition x ".").1.cps.toList=a/\(Txt.partition x ".").2.2.cps.toList=s:=by
 unfold Txt.partition
 have hat:x.cps.toList[a.length]? =some 46:=by rw [hx];simp
 rcases StrLaws.occ_head x ⟨#[46]⟩ 1 (Nat.le_refl 1)with ⟨_,hn⟩ | ⟨i,r,h0,hi,hn⟩
 ·exact absurd ((StrLaws.subAt_one x 46 a.length).mpr hat) (hn _)
 ·have hm:=(StrLaws.subAt_one x 46 i).mp hi
  have ei:i=a.length:=by
   rcases Nat.lt_trichotomy i a.length with z | z | z
   ·rw [hx,List.getElem?_append_left z]at hm
    exact absurd (List.mem_of_getElem? hm) h
   ·exact z
   ·exact absurd ((StrLaws.subAt_one x 46 _).mpr hat) (hn _ z)
  subst ei
  rw [show (".":Str)=⟨#[46]⟩from rfl,h0]
  have hl:x.length=a.length+ (s.length+1):=by rw [Str.length,<- Array.length_toList,hx,List.length_append,List.length_cons]
  refine ⟨?_,?_⟩
  ·show (Builtin.Str.strSub x 0 a.length).cps.toList=a
   rw [StrLaws.strSub_toList,hx]
   simp
  ·show (Builtin.Str.strSub x (a.length+1) x.length).cps.toList=s
   rw [StrLaws.strSub_toList,hx,show a++46::s=(a++[46])++s by simp,List.drop_left' (by simp)]
   exact List.take_of_length_le (by omega)
theorem kz (x:Str):(∃ a s,46∉a/\x.cps.toList=a++46::s/\(Txt.partition x ".").1.cps.toList=a/\(Txt.partition x ".").2.2.cps.toList=s)\/(46∉x.cps.toList/\Txt.partition x "."=(x,Str.empty,Str.empty)):=by
 by_cases h:46∈x.cps.toList
 ·left
  obtain ⟨a,s,e,ha⟩: ∃ a s,x.cps.toList=a++46::s/\46∉a:=by
   have go: ∀ l:List Nat,46∈l-> ∃ a s,l=a++46::s/\46∉a:=by
    intro l
    induction l with
    | nil=>intro z;cases z
    | cons c r ih=>
     intro z
     by_cases ec:c=46
     ·exact ⟨[],r,by rw [ec];rfl,by simp⟩
     ·obtain ⟨a,s,e1,e2⟩:=ih ((List.mem_cons.mp z).resolve_left (fun y=>ec y.symm))
      exact ⟨c::a,s,by rw [e1];rfl,fun y=>(List.mem_cons.mp y).elim (fun y=>ec y.symm) e2⟩
   exact go _ h
  obtain ⟨e1,e2⟩:=gm ha e
  exact ⟨a,s,ha,e,e1,e2⟩
 ·exact .inr ⟨h,gY h⟩
inductive Pt where
 | w (s:Str)
 | num (n:Int)
 | own (s:Str)
 | part (k:Int) (s:Str)
 | node (kind:Str) (items:List Pt)
noncomputable def a7 (x:Str):Pt:=if wwB x=true then .num ((intText? x).getD 0)else
 if (Txt.partition x ".").1="own" then .own (Txt.partition x ".").2.2 else
 if (Txt.partition x ".").1="0"\/(Txt.partition x ".").1="1"\/(Txt.partition x ".").1="2" then .part ((intText? (Txt.partition x ".").1).getD 0) (Txt.partition x ".").2.2 else .w x
noncomputable def isOpen:Pt->Bool
 | .w s=>decide (s="(")
 | _=>false
noncomputable def gu:List Pt->List Pt
 | _::b::r=>b::gu r
 | _=>[]
noncomputable def eN:List Pt->List Pt
 | a::_::r=>a::eN r
 | [a]=>[a]
 | []=>[]
noncomputable def MK:List (Str×List Str):=[("plus",["+"]),("less",["-"]),("times",["*"]),("least",["min"]),("most",["max"]),("when",["?",":"])]
noncomputable def cA:List Pt->List Str->Bool
 | [],[]=>true
 | .w s::r,m::ms=>decide (s=m)&&cA r ms
 | _,_=>false
noncomputable def cC (inside:List Pt):List (Str×List Str)->Option Pt
 | []=>none
 | (k,ms)::r=>if cA (gu inside) ms=true then some (.node k (eN inside))else cC inside r
noncomputable def cr (pile:List Pt):Option (List Pt):=match pile.dropWhile (fun p=> !isOpen p)with
 | []=>none
 | _::r=>(cC (pile.takeWhile fun p=> !isOpen p).reverse MK).map (· ::r)
noncomputable def cy:List Str->List Pt->Option (List Pt)
 | [],pile=>some pile
 | x::r,pile=>if x=")" then (cr pile).bind (cy r)else cy r (a7 x::pile)
noncomputable def pt:Fm->Pt
 | .num n=>.num n
 | .own x=>.own x
 | .part k x=>.part k x
 | .bin op a b=>.node op [pt a,pt b]
 | .whn a b c=>.node "when" [pt a,pt b,pt c]
mutual
inductive Spl:Pt->List Str->Prop where
 | w (s:Str):Spl (.w s) [s]
 | num (n:Int):Spl (.num n) [aX n]
 | own (s:Str):Spl (.own s) ["own."++s]
 | own0:Spl (.own "") ["own"]
 | part (k:Int) (s:Str):Spl (.part k s) [aX k++"."++s]
 | part0 (k:Int):Spl (.part k "") [aX k]
 | node {k:Str} {ms:List Str} {inside:List Pt} {l:List Str}:(k,ms)∈MK->cA (gu inside) ms=true->SplL inside l->Spl (.node k (eN inside)) ("("::(l++[(")":Str)]))
inductive SplL:List Pt->List Str->Prop where
 | nil:SplL [] []
 | cons {p:Pt} {r:List Pt} {a b:List Str}:Spl p a->SplL r b->SplL (p::r) (a++b)
end
theorem SplL.app {p q:List Pt} {a b:List Str} (h:SplL p a) (k:SplL q b):SplL (p++q) (a++b):=by
 induction p generalizing a with
 | nil=>cases h;exact k
 | cons x r ih=>
  cases h with
  | cons h1 h2=>rw [List.append_assoc];exact .cons h1 (ih h2)
theorem SplL.split {p q:List Pt} {l:List Str} (h:SplL (p++q) l): ∃ a b,l=a++b/\SplL p a/\SplL q b:=by
 induction p generalizing l with
 | nil=>exact ⟨[],l,rfl,.nil,h⟩
 | cons x r ih=>
  cases h with
  | cons h1 h2=>
   obtain ⟨a,b,rfl,h3,h4⟩:=ih h2
   exact ⟨_,b,(List.append_assoc ..).symm,.cons h1 h3,h4⟩
theorem mG (x:Str):Spl (a7 x) [x]:=by
 unfold a7
 by_cases c:wwB x=true
 ·obtain ⟨n,e1,e2,_⟩:=lu c
  rw [if_pos c,e1]
  show Spl (.num n) [x]
  rw [<- e2]
  exact .num n
 ·rw [if_neg c]
  have i0:(intText? "0").getD 0=0:=by decide +kernel
  have i1:(intText? "1").getD 0=1:=by decide +kernel
  have i2:(intText? "2").getD 0=2:=by decide +kernel
  have n0:aX 0="0":=by decide +kernel
  have n1:aX 1="1":=by decide +kernel
  have n2:aX 2="2":=by decide +kernel
  rcases kz x with ⟨a,s,ha,e,e1,e2⟩ | ⟨hn,e⟩
  ·have ex:x=(Txt.partition x ".").1++"."++(Txt.partition x ".").2.2:=bi (by
    rw [e]
    show _=(((Txt.partition x ".").1.cps++(".":Str).cps)++(Txt.partition x ".").2.2.cps).toList
    rw [Array.toList_append,Array.toList_append,e1,e2,List.append_assoc]
    rfl)
   generalize Txt.partition x "."=p at *
   by_cases c1:p.1="own"
   ·rw [if_pos c1]
    rw [c1]at ex
    rw [ex]
    exact .own _
   ·rw [if_neg c1]
    by_cases c2:p.1="0"\/p.1="1"\/p.1="2"
    ·rw [if_pos c2]
     rcases c2 with z | z | z
     ·rw [z]at ex ⊢;rw [ex,i0,<- n0];exact .part 0 _
     ·rw [z]at ex ⊢;rw [ex,i1,<- n1];exact .part 1 _
     ·rw [z]at ex ⊢;rw [ex,i2,<- n2];exact .part 2 _
    ·rw [if_neg c2];exact .w x
  ·rw [e]
   by_cases c1:x="own"
   ·rw [if_pos c1,c1];exact .own0
   ·rw [if_neg c1]
    by_cases c2:x="0"\/x="1"\/x="2"
    ·rw [if_pos c2]
     rcases c2 with z | z | z
     ·rw [z,i0,<- n0];exact .part0 0
     ·rw [z,i1,<- n1];exact .part0 1
     ·rw [z,i2,<- n2];exact .part0 2
    ·rw [if_neg c2];exact .w x
theorem gR {inside:List Pt} {l:List Str} (h:SplL inside l): ∀ (mk:List (Str×List Str)) {p:Pt},(∀ q∈mk,q∈MK)->cC inside mk=some p->Spl p ("("::(l++[(")":Str)]))
 | [],_,_,e=>by cases e
 | (k,ms)::r,p,hm,e=>by
  unfold cC at e
  by_cases c:cA (gu inside) ms=true
  ·rw [if_pos c]at e
   cases e
   exact .node (hm _ List.mem_cons_self) c h
  ·rw [if_neg c]at e
   exact gR h r (fun q hq=>hm q (List.mem_cons_of_mem _ hq)) e
theorem sv {α:Type} (f:α->Bool): ∀ l:List α,l.takeWhile f++l.dropWhile f=l:=fun _=>List.takeWhile_append_dropWhile
theorem md {α:Type} {f:α->Bool}: ∀ {l:List α} {x:α} {r:List α},l.dropWhile f=x::r->f x=false
 | [],_,_,h=>by cases h
 | a::l,x,r,h=>by
  rw [List.dropWhile_cons]at h
  cases c:f a with
  | true=>rw [c]at h;exact md h
  | false=>rw [c]at h;cases h;exact c
theorem nX {pile pile':List Pt} {l:List Str} (h:SplL pile.reverse l) (e:cr pile=some pile'):SplL pile'.reverse (l++[(")":Str)]):=by
 unfold cr at e
 have hs:=sv (fun p=> !isOpen p) pile
 cases hd:pile.dropWhile (fun p=> !isOpen p)with
 | nil=>rw [hd]at e;cases e
 | cons o r=>
  rw [hd]at e hs
  have ho:=md hd
  have hO:isOpen o=true:=by simpa using ho
  obtain ⟨s,rfl⟩: ∃ s,o=.w s:=by
   cases o with
   | w s=>exact ⟨s,rfl⟩
   | _=>cases hO
  have hs2:s="(":=of_decide_eq_true hO
  subst hs2
  cases hu:cC (pile.takeWhile fun p=> !isOpen p).reverse MK with
  | none=>rw [hu]at e;cases e
  | some p=>
   rw [hu]at e
   cases e
   rw [<- hs,List.reverse_append,List.reverse_cons,List.append_assoc]at h
   obtain ⟨a,b,rfl,h1,h2⟩:=h.split
   obtain ⟨b1,b2,rfl,h3,h4⟩:=SplL.split (p:=[.w "("]) h2
   cases h3 with
   | cons h5 h6=>
    cases h5
    cases h6
    rw [List.reverse_cons]
    have:=h1.app (SplL.cons (gR h4 MK (fun q hq=>hq) hu) .nil)
    rw [List.append_nil]at this
    simpa using this
theorem gy: ∀ (ws:List Str) {pile pile':List Pt} {l:List Str},SplL pile.reverse l->cy ws pile=some pile'->SplL pile'.reverse (l++ws)
 | [],pile,pile',l,h,e=>by cases e;rw [List.append_nil];exact h
 | x::r,pile,pile',l,h,e=>by
  unfold cy at e
  by_cases c:x=")"
  ·rw [if_pos c]at e
   subst c
   cases hc:cr pile with
   | none=>rw [hc]at e;cases e
   | some p2=>
    rw [hc]at e
    have:=gy r (nX h hc) e
    rw [List.append_assoc]at this
    exact this
  ·rw [if_neg c]at e
   have h2:SplL (a7 x::pile).reverse (l++[x]):=by
    rw [List.reverse_cons]
    have:=h.app (SplL.cons (mG x) .nil)
    rw [List.append_nil]at this
    exact this
   have:=gy r h2 e
   rw [List.append_assoc]at this
   exact this
noncomputable def mkT (op:Str):Str:=if op="plus" then "+" else if op="less" then "-" else if op="times" then "*" else if op="least" then "min" else "max"
noncomputable def Fm.wr:Fm->Str
 | .num n=>aX n
 | .own x=>"own."++x
 | .part k x=>aX k++"."++x
 | .bin op a b=>"("++a.wr++(" "++mkT op++" ")++b.wr++")"
 | .whn a b c=>"("++a.wr++" ? "++b.wr++" : "++c.wr++")"
noncomputable def Fm.toks:Fm->List Str
 | .num n=>[aX n]
 | .own x=>["own."++x]
 | .part k x=>[aX k++"."++x]
 | .bin op a b=>("(":Str)::(a.toks++(mkT op::(b.toks++[(")":Str)])))
 | .whn a b c=>("(":Str)::(a.toks++(("?":Str)::(b.toks++((":":Str)::(c.toks++[(")":Str)])))))
theorem jT {l:List Pt} {m:Str} (h:cA l [m]=true):l=[.w m]:=by
 match l,h with
 | [],h=>cases h
 | .w s::r,h=>
  unfold cA at h
  simp only [Bool.and_eq_true,decide_eq_true_eq]at h
  match r,h with
  | [],h=>rw [h.1]
  | .w _::_,h=>exact absurd h.2 (by simp [cA])
  | .num _::_,h=>exact absurd h.2 (by simp [cA])
  | .own _::_,h=>exact absurd h.2 (by simp [cA])
  | .part _ _::_,h=>exact absurd h.2 (by simp [cA])
  | .node _ _::_,h=>exact absurd h.2 (by simp [cA])
 | .num _::_,h=>exact absurd h (by simp [cA])
 | .own _::_,h=>exact absurd h (by simp [cA])
 | .part _ _::_,h=>exact absurd h (by simp [cA])
 | .node _ _::_,h=>exact absurd h (by simp [cA])
open PySem.NumText (AllDigits digitsVal)
theorem qH {l:List Pt} {m n:Str} (h:cA l [m,n]=true):l=[.w m,.w n]:=by
 match l,h with
 | [],h=>cases h
 | .w s::r,h=>
  unfold cA at h
  simp only [Bool.and_eq_true,decide_eq_true_eq]at h
  rw [h.1,jT h.2]
 | .num _::_,h=>exact absurd h (by simp [cA])
 | .own _::_,h=>exact absurd h (by simp [cA])
 | .part _ _::_,h=>exact absurd h (by simp [cA])
 | .node _ _::_,h=>exact absurd h (by simp [cA])
theorem qL {l:List Pt} {a b m:Pt} (h1:eN l=[a,b]) (h2:gu l=[m]):l=[a,m,b]:=by
 match l,h1,h2 with
 | [],h1,_=>cases h1
 | [_],h1,_=>cases h1
 | [_,_],h1,_=>cases h1
 | [_,_,_],h1,h2=>cases h1;cases h2;rfl
 | _::_::_::_::_,_,h2=>simp [gu]at h2
theorem mq {l:List Pt} {a b c m n:Pt} (h1:eN l=[a,b,c]) (h2:gu l=[m,n]):l=[a,m,b,n,c]:=by
 match l,h1,h2 with
 | [],h1,_=>cases h1
 | [_],h1,_=>cases h1
 | [_,_],h1,_=>cases h1
 | [_,_,_],h1,h2=>cases h1
 | [_,_,_,_],h1,h2=>cases h1
 | [_,_,_,_,_],h1,h2=>cases h1;cases h2;rfl
 | _::_::_::_::_::_::_,_,h2=>simp [gu]at h2
theorem lx {x:Str} (h:aT x=true):x≠"":=fun e=>by rw [e]at h;exact absurd h (by decide +kernel)
theorem tY {op:Str} (h:op∈ops) {ms:List Str} (hm:(op,ms)∈MK):ms=[mkT op]:=by
 unfold ops at h
 simp only [List.mem_cons,List.not_mem_nil,or_false]at h
 unfold MK at hm
 simp only [List.mem_cons,List.not_mem_nil,or_false,Prod.mk.injEq]at hm
 rcases h with rfl | rfl | rfl | rfl | rfl <;> rcases hm with ⟨e,rfl⟩ | ⟨e,rfl⟩ | ⟨e,rfl⟩ | ⟨e,rfl⟩ | ⟨e,rfl⟩ | ⟨e,rfl⟩ <;> first | exact absurd e (by decide +kernel) | decide +kernel
theorem rV {ms:List Str} (hm:(("when":Str),ms)∈MK):ms=[("?":Str),(":":Str)]:=by
 unfold MK at hm
 simp only [List.mem_cons,List.not_mem_nil,or_false,Prod.mk.injEq]at hm
 rcases hm with ⟨e,rfl⟩ | ⟨e,rfl⟩ | ⟨e,rfl⟩ | ⟨e,rfl⟩ | ⟨e,rfl⟩ | ⟨e,rfl⟩ <;> first | exact absurd e (by decide +kernel) | rfl
theorem SplL.cons_inv {p:Pt} {r:List Pt} {l:List Str} (h:SplL (p::r) l): ∃ a b,l=a++b/\Spl p a/\SplL r b:=by
 cases h with
 | cons h1 h2=>exact ⟨_,_,rfl,h1,h2⟩
theorem Spl.w_inv {s:Str} {l:List Str} (h:Spl (.w s) l):l=[s]:=by cases h;rfl
theorem Spl.node_inv {k:Str} {items:List Pt} {l:List Str} (h:Spl (.node k items) l): ∃ ms inside l',(k,ms)∈MK/\cA (gu inside) ms=true/\eN inside=items/\SplL inside l'/\l=("(":Str)::(l'++[(")":Str)]):=by
 cases h with
 | node h1 h2 h3=>exact ⟨_,_,_,h1,h2,rfl,h3,rfl⟩
theorem cU: ∀ (f:Fm),f.wf-> ∀ {l:List Str},Spl (pt f) l->l=f.toks
 | .num n,_,l,h=>by cases h;rfl
 | .own x,hw,l,h=>by
  have hw:aT x=true:=hw
  cases h with
  | own _=>rfl
  | own0=>exact absurd rfl (lx hw)
 | .part k x,hw,l,h=>by
  have hw:(0<=k/\k<=2)/\aT x=true:=hw
  cases h with
  | part _ _=>rfl
  | part0 _=>exact absurd rfl (lx hw.2)
 | .bin op a b,hw,l,h=>by
  obtain ⟨ho,h1,h2⟩:op∈ops/\a.wf/\b.wf:=hw
  obtain ⟨ms,inside,l',e1,e2,e3,e4,rfl⟩:=Spl.node_inv h
  rw [tY ho e1]at e2
  have:=qL e3 (jT e2)
  subst this
  obtain ⟨x1,y1,rfl,s1,t1⟩:=e4.cons_inv
  obtain ⟨x2,y2,rfl,s2,t2⟩:=t1.cons_inv
  obtain ⟨x3,y3,rfl,s3,t3⟩:=t2.cons_inv
  cases t3
  rw [s2.w_inv,cU a h1 s1,cU b h2 s3]
  show _=(("(":Str)::(a.toks++(mkT op::(b.toks++[(")":Str)]))))
  simp
 | .whn a b c,hw,l,h=>by
  obtain ⟨h1,h2,h3⟩:a.wf/\b.wf/\c.wf:=hw
  obtain ⟨ms,inside,l',e1,e2,e3,e4,rfl⟩:=Spl.node_inv h
  rw [rV e1]at e2
  have:=mq e3 (qH e2)
  subst this
  obtain ⟨x1,y1,rfl,s1,t1⟩:=e4.cons_inv
  obtain ⟨x2,y2,rfl,s2,t2⟩:=t1.cons_inv
  obtain ⟨x3,y3,rfl,s3,t3⟩:=t2.cons_inv
  obtain ⟨x4,y4,rfl,s4,t4⟩:=t3.cons_inv
  obtain ⟨x5,y5,rfl,s5,t5⟩:=t4.cons_inv
  cases t5
  rw [s2.w_inv,s4.w_inv,cU a h1 s1,cU b h2 s3,cU c h3 s5]
  show _=(("(":Str)::(a.toks++(("?":Str)::(b.toks++((":":Str)::(c.toks++[(")":Str)]))))))
  simp
theorem mO {n:Int} (h0: -999999<=n) (h1:n<=999999):a7 (aX n)=.num n:=by
 unfold a7
 rw [if_pos (sK h0 h1),l7 h0 h1]
 rfl
theorem kK {x:Str} {c:Nat} (h:c∈x.cps.toList) (h1: ¬ (48<=c/\c<=57)) (h2:c≠45):wwB x=false:=by
 cases e:wwB x with
 | false=>rfl
 | true=>
  unfold wwB at e
  simp only [Bool.and_eq_true,decide_eq_true_eq]at e
  have ha:=eM e.1.2
  exfalso
  unfold ck at ha
  by_cases c1:x.cps.toList.head?=some 45
  ·rw [if_pos c1]at ha
   cases hx:x.cps.toList with
   | nil=>rw [hx]at h;cases h
   | cons a r=>
    rw [hx]at c1 h ha
    cases c1
    rcases List.mem_cons.mp h with z | z
    ·exact h2 z
    ·exact h1 (ha c z)
  ·rw [if_neg c1]at ha
   exact h1 (ha c h)
theorem aN (x y:Str):(x++y).cps.toList=x.cps.toList++y.cps.toList:=by
 show (x.cps++y.cps).toList=_
 rw [Array.toList_append]
theorem mJ (x:Str):a7 ("own."++x)=.own x:=by
 have hx:("own."++x:Str).cps.toList=[111,119,110]++46::x.cps.toList:=by rw [aN];rfl
 obtain ⟨e1,e2⟩:=gm (by decide) hx
 unfold a7
 have e3:(Txt.partition ("own."++x) ".").1="own":=bi e1
 have e4:(Txt.partition ("own."++x) ".").2.2=x:=bi e2
 rw [if_neg (by rw [kK (c:=111) (by rw [hx];simp) (by decide) (by decide)];decide),if_pos e3,e4]
theorem kn {k:Int} (h:0<=k/\k<=2) (x:Str):a7 (aX k++"."++x)=.part k x:=by
 have hk:k=0\/k=1\/k=2:=by omega
 have go: ∀ (k:Int) (d:Nat),(aX k).cps.toList=[d]->d≠46->aX k≠"own"->(aX k="0"\/aX k="1"\/aX k="2")->(intText? (aX k)).getD 0=k->a7 (aX k++"."++x)=.part k x:=by
  intro k d h1 h2 h3 h4 h5
  have hx:(aX k++"."++x:Str).cps.toList=[d]++46::x.cps.toList:=by rw [aN,aN,h1];rfl
  obtain ⟨e1,e2⟩:=gm (by simpa using fun e=>h2 e.symm) hx
  have e3:(Txt.partition (aX k++"."++x) ".").1=aX k:=bi (by rw [e1,h1])
  have e4:(Txt.partition (aX k++"."++x) ".").2.2=x:=bi e2
  unfold a7
  rw [if_neg (by rw [kK (c:=46) (by rw [hx];simp) (by decide) (by decide)];decide),if_neg (by rw [e3];exact h3),if_pos (by rw [e3];exact h4),e3,e4,h5]
 rcases hk with rfl | rfl | rfl
 ·exact go 0 48 (by decide +kernel) (by decide) (by decide +kernel) (by decide +kernel) (by decide +kernel)
 ·exact go 1 49 (by decide +kernel) (by decide) (by decide +kernel) (by decide +kernel) (by decide +kernel)
 ·exact go 2 50 (by decide +kernel) (by decide) (by decide +kernel) (by decide +kernel) (by decide +kernel)
theorem ni {x:Str} (h:x.cps.toList.all (fun c=>decide (c≠46))=true):Txt.partition x "."=(x,Str.empty,Str.empty):=gY fun hm=>by
 have:=List.all_eq_true.mp h 46 hm
 exact absurd this (by decide)
theorem lJ {x:Str} (h1:wwB x=false) (h:x.cps.toList.all (fun c=>decide (c≠46))=true) (h2:x≠"own") (h3: ¬ (x="0"\/x="1"\/x="2")):a7 x=.w x:=by
 unfold a7
 rw [if_neg (by rw [h1];decide),ni h,if_neg h2,if_neg h3]
theorem wm {x:Str} {c:Nat} (h:c∈x.cps.toList) (h1: ¬ (48<=c/\c<=57)) (h2:c≠45) (h3:x.cps.toList.all (fun c=>decide (c≠46))=true) (h4:x≠"own") (h5: ¬ (x="0"\/x="1"\/x="2")):a7 x=.w x:=lJ (kK h h1 h2) h3 h4 h5
theorem gc:a7 "("=.w "(":=wm (c:=40) (by decide +kernel) (by decide) (by decide) (by decide +kernel) (by decide +kernel) (by decide +kernel)
theorem qY:a7 "?"=.w "?":=wm (c:=63) (by decide +kernel) (by decide) (by decide) (by decide +kernel) (by decide +kernel) (by decide +kernel)
theorem qZ:a7 ":"=.w ":":=wm (c:=58) (by decide +kernel) (by decide) (by decide) (by decide +kernel) (by decide +kernel) (by decide +kernel)
theorem on:wwB "-"=false:=by
 have:ck ("-":Str).cps.toList=[]:=by decide +kernel
 unfold wwB
 rw [this]
 rfl
theorem ph {op:Str} (h:op∈ops):a7 (mkT op)=.w (mkT op):=by
 unfold ops at h
 simp only [List.mem_cons,List.not_mem_nil,or_false]at h
 rcases h with rfl | rfl | rfl | rfl | rfl
 ·exact wm (c:=43) (by decide +kernel) (by decide) (by decide) (by decide +kernel) (by decide +kernel) (by decide +kernel)
 ·exact lJ on (by decide +kernel) (by decide +kernel) (by decide +kernel)
 ·exact wm (c:=42) (by decide +kernel) (by decide) (by decide) (by decide +kernel) (by decide +kernel) (by decide +kernel)
 ·exact wm (c:=109) (by decide +kernel) (by decide) (by decide) (by decide +kernel) (by decide +kernel) (by decide +kernel)
 ·exact wm (c:=109) (by decide +kernel) (by decide) (by decide) (by decide +kernel) (by decide +kernel) (by decide +kernel)
theorem jx {op:Str} (h:op∈ops):mkT op≠")"/\mkT op≠"("/\32∉(mkT op).cps.toList/\40∉(mkT op).cps.toList/\41∉(mkT op).cps.toList/\(mkT op).length<=3:=by
 unfold ops at h
 simp only [List.mem_cons,List.not_mem_nil,or_false]at h
 rcases h with rfl | rfl | rfl | rfl | rfl <;> decide +kernel
theorem lL (f:Fm):isOpen (pt f)=false:=by cases f <;> rfl
theorem kJ (n:Int): ∀ c∈(aX n).cps.toList,c=45\/(48<=c/\c<=57):=by
 rw [dz]
 intro c hc
 split at hc
 ·rcases List.mem_cons.mp hc with z | z
  ·exact .inl z
  ·exact .inr (fv _ c z)
 ·exact .inr (fv _ c hc)
theorem gv {x:Str} (h:41∉x.cps.toList):x≠")":=fun e=>by rw [e]at h;exact h (by decide +kernel)
theorem eD (n:Int) {c:Nat} (h:c≠45) (h2: ¬ (48<=c/\c<=57)):c∉(aX n).cps.toList:=fun hm=>by
 rcases kJ n c hm with z | z
 ·exact h z
 ·exact h2 z
theorem lw {x:Str} (h:aT x=true) {c:Nat} (hc:bP c=false):c∉x.cps.toList:=fun hm=>by
 unfold aT at h
 simp only [Bool.and_eq_true,decide_eq_true_eq]at h
 have:=List.all_eq_true.mp h.2 c hm
 rw [hc]at this
 cases this
theorem iI {x:Str} (h:aT x=true) {c:Nat} (hc:bP c=false) (h2:c≠46):c∉("own."++x:Str).cps.toList:=fun hm=>by
 rw [aN]at hm
 rcases List.mem_append.mp hm with z | z
 ·have z:c∈[111,119,110,46]:=z
  simp only [List.mem_cons,List.not_mem_nil,or_false]at z
  rcases z with rfl | rfl | rfl | rfl
  ·cases hc
  ·cases hc
  ·cases hc
  ·exact h2 rfl
 ·exact lw h hc z
theorem fN {k:Int} {x:Str} (h:aT x=true) {c:Nat} (hc:bP c=false) (h2:c≠46) (h3:c≠45) (h4: ¬ (48<=c/\c<=57)):c∉(aX k++"."++x:Str).cps.toList:=fun hm=>by
 rw [aN,aN]at hm
 rcases List.mem_append.mp hm with z | z
 ·rcases List.mem_append.mp z with z | z
  ·exact eD k h3 h4 z
  ·have z:c∈[46]:=z
   exact h2 (List.mem_singleton.mp z)
 ·exact lw h hc z
theorem oA {op:Str} (h:op∈ops) (p q:Pt):cC [p,.w (mkT op),q] MK=some (.node op [p,q]):=by
 unfold ops at h
 simp only [List.mem_cons,List.not_mem_nil,or_false]at h
 rcases h with rfl | rfl | rfl | rfl | rfl <;> rfl
theorem cB: ∀ (f:Fm),f.wf-> ∀ r pile,cy (f.toks++r) pile=cy r (pt f::pile)
 | .num n,hw,r,pile=>by
  obtain ⟨h0,h1⟩: -999999<=n/\n<=999999:=hw
  show (if aX n=")" then _ else cy r (a7 (aX n)::pile))=_
  rw [if_neg (gv (eD n (by decide) (by decide))),mO h0 h1]
  rfl
 | .own x,hw,r,pile=>by
  have hw:aT x=true:=hw
  show (if ("own."++x:Str)=")" then _ else cy r (a7 ("own."++x)::pile))=_
  rw [if_neg (gv (iI hw (by decide) (by decide))),mJ]
  rfl
 | .part k x,hw,r,pile=>by
  obtain ⟨hk,hw⟩:(0<=k/\k<=2)/\aT x=true:=hw
  show (if (aX k++"."++x:Str)=")" then _ else cy r (a7 (aX k++"."++x)::pile))=_
  rw [if_neg (gv (fN hw (by decide) (by decide) (by decide) (by decide))),kn hk]
  rfl
 | .bin op a b,hw,r,pile=>by
  obtain ⟨ho,h1,h2⟩:op∈ops/\a.wf/\b.wf:=hw
  obtain ⟨m1,m2,_⟩:=jx ho
  have e:(Fm.bin op a b).toks++r=("(":Str)::(a.toks++(mkT op::(b.toks++((")":Str)::r)))):=by
   show ((("(":Str)::(a.toks++(mkT op::(b.toks++[(")":Str)]))))++r)=_
   simp
  rw [e]
  show (if ("(":Str)=")" then _ else cy (a.toks++(mkT op::(b.toks++((")":Str)::r)))) (a7 "("::pile))=_
  rw [if_neg (by decide +kernel),gc,cB a h1]
  show (if mkT op=")" then _ else cy (b.toks++((")":Str)::r)) (a7 (mkT op)::pt a:: .w "("::pile))=_
  rw [if_neg m1,ph ho,cB b h2]
  show (if (")":Str)=")" then (cr (pt b:: .w (mkT op)::pt a:: .w "("::pile)).bind (cy r)else _)=_
  rw [if_pos rfl]
  have hm:isOpen (.w (mkT op))=false:=decide_eq_false m2
  have hc:cr (pt b:: .w (mkT op)::pt a:: .w "("::pile)=some (.node op [pt a,pt b]::pile):=by
   unfold cr
   simp only [List.dropWhile_cons,List.takeWhile_cons,lL,hm,Bool.not_false,if_true,show isOpen (.w "(")=true from by decide +kernel,Bool.not_true,Bool.false_eq_true,if_false]
   show (cC [pt a,.w (mkT op),pt b] MK).map (· ::pile)=_
   rw [oA ho]
   rfl
  rw [hc]
  rfl
 | .whn a b c,hw,r,pile=>by
  obtain ⟨h1,h2,h3⟩:a.wf/\b.wf/\c.wf:=hw
  have e:(Fm.whn a b c).toks++r=("(":Str)::(a.toks++(("?":Str)::(b.toks++((":":Str)::(c.toks++((")":Str)::r)))))):=by
   show ((("(":Str)::(a.toks++(("?":Str)::(b.toks++((":":Str)::(c.toks++[(")":Str)]))))))++r)=_
   simp
  rw [e]
  show (if ("(":Str)=")" then _ else cy (a.toks++(("?":Str)::(b.toks++((":":Str)::(c.toks++((")":Str)::r)))))) (a7 "("::pile))=_
  rw [if_neg (by decide +kernel),gc,cB a h1]
  show (if ("?":Str)=")" then _ else cy (b.toks++((":":Str)::(c.toks++((")":Str)::r)))) (a7 "?"::pt a:: .w "("::pile))=_
  rw [if_neg (by decide +kernel),qY,cB b h2]
  show (if (":":Str)=")" then _ else cy (c.toks++((")":Str)::r)) (a7 ":"::pt b:: .w "?"::pt a:: .w "("::pile))=_
  rw [if_neg (by decide +kernel),qZ,cB c h3]
  show (if (")":Str)=")" then (cr (pt c:: .w ":"::pt b:: .w "?"::pt a:: .w "("::pile)).bind (cy r)else _)=_
  rw [if_pos rfl]
  have hc:cr (pt c:: .w ":"::pt b:: .w "?"::pt a:: .w "("::pile)=some (.node "when" [pt a,pt b,pt c]::pile):=by
   unfold cr
   simp only [List.dropWhile_cons,List.takeWhile_cons,lL,show isOpen (.w ":")=false from by decide +kernel,show isOpen (.w "?")=false from by decide +kernel,Bool.not_false,if_true,show isOpen (.w "(")=true from by decide +kernel,Bool.not_true,Bool.false_eq_true,if_false]
   rfl
  rw [hc]
  rfl
noncomputable def fF:Pt->Bool
 | .num n=>decide (-999999<=n)&&decide (n<=999999)
 | .own x=>aT x
 | .part k x=>decide (0<=k)&&decide (k<=2)&&aT x
 | .node k items=>decide (a8 k=some items.length)
 | .w _=>false
noncomputable def nO:Pt->List Pt
 | .node _ items=>items
 | _=>[]
noncomputable def isF:Nat->List Pt->Bool
 | _,[]=>true
 | 0,_::_=>false
 | n+1,p::r=>fF p&&isF n ((nO p).reverse++r)
theorem nN {k:Str} (h:a8 k=some 2):k∈ops:=by
 unfold a8 at h
 by_cases c:k∈ops
 ·exact c
 ·rw [if_neg c]at h
  split at h <;> cases h
theorem jH {k:Str} (h:a8 k=some 3):k="when":=by
 unfold a8 at h
 by_cases c:k∈ops
 ·rw [if_pos c]at h;cases h
 ·rw [if_neg c]at h
  split at h
  ·assumption
  ·cases h
theorem qo {k:Str} {n:Nat} (h:a8 k=some n):n=2\/n=3:=by
 unfold a8 at h
 split at h
 ·cases h;exact .inl rfl
 ·split at h
  ·cases h;exact .inr rfl
  ·cases h
inductive AreF:List Pt->Nat->Prop where
 | nil:AreF [] 0
 | cons {f:Fm} {r:List Pt} {n:Nat}:f.wf->AreF r n->AreF (pt f::r) (f.size+n)
theorem AreF.app {a b:List Pt} {m n:Nat} (h:AreF a m) (k:AreF b n):AreF (a++b) (m+n):=by
 induction h with
 | nil=>rw [Nat.zero_add];exact k
 | cons w _ ih=>rw [Nat.add_assoc];exact .cons w ih
theorem AreF.split: ∀ {a b:List Pt} {n:Nat},AreF (a++b) n-> ∃ x y,AreF a x/\AreF b y/\n=x+y
 | [],b,n,h=>⟨0,n,.nil,h,(Nat.zero_add _).symm⟩
 | p::a,b,n,h=>by
  cases h with
  | cons w h=>
   obtain ⟨x,y,h1,h2,e⟩:=AreF.split h
   exact ⟨_,y,.cons w h1,h2,by omega⟩
theorem AreF.rev {a:List Pt} {n:Nat} (h:AreF a n):AreF a.reverse n:=by
 induction h with
 | nil=>exact .nil
 | @cons f r n w _ ih=>
  rw [List.reverse_cons,Nat.add_comm]
  exact ih.app (.cons (n:=0) w .nil)
theorem ib: ∀ (n:Nat) (l:List Pt),isF n l=true-> ∃ m,AreF l m/\m<=n
 | _,[],_=>⟨0,.nil,Nat.zero_le _⟩
 | 0,_::_,h=>by cases h
 | n+1,p::r,h=>by
  obtain ⟨h1,h2⟩:=Bool.and_eq_true_iff.mp (show (fF p&&isF n ((nO p).reverse++r))=true from h)
  obtain ⟨m,hm,hn⟩:=ib n _ h2
  obtain ⟨x,y,hx,hy,e⟩:=hm.split
  have hx:=hx.rev
  rw [List.reverse_reverse]at hx
  cases p with
  | w s=>cases h1
  | num k=>
   cases hx
   have h1:(decide (-999999<=k)&&decide (k<=999999))=true:=h1
   simp only [Bool.and_eq_true,decide_eq_true_eq]at h1
   exact ⟨1+y,AreF.cons (f:=.num k) h1 hy,by omega⟩
  | own s=>
   cases hx
   exact ⟨1+y,AreF.cons (f:=.own s) h1 hy,by omega⟩
  | part k s=>
   cases hx
   have h1:(decide (0<=k)&&decide (k<=2)&&aT s)=true:=h1
   simp only [Bool.and_eq_true,decide_eq_true_eq]at h1
   exact ⟨1+y,AreF.cons (f:=.part k s) h1 hy,by omega⟩
  | node k items=>
   have hk:a8 k=some items.length:=of_decide_eq_true h1
   have hx:AreF items x:=hx
   rcases qo hk with e2 | e2
   ·match items,hx,e2,hk with
    | [_,_],.cons (f:=f1) w1 (.cons (f:=f2) w2 .nil),_,hk=>
     have hs:(Fm.bin k f1 f2).size=f1.size+f2.size+1:=rfl
     exact ⟨(Fm.bin k f1 f2).size+y,AreF.cons (f:=.bin k f1 f2) ⟨nN hk,w1,w2⟩ hy,by omega⟩
   ·match items,hx,e2,hk with
    | [_,_,_],.cons (f:=f1) w1 (.cons (f:=f2) w2 (.cons (f:=f3) w3 .nil)),_,hk=>
     have hs:(Fm.whn f1 f2 f3).size=f1.size+f2.size+f3.size+1:=rfl
     have hk:k="when":=jH hk
     subst hk
     exact ⟨(Fm.whn f1 f2 f3).size+y,AreF.cons (f:=.whn f1 f2 f3) ⟨w1,w2,w3⟩ hy,by omega⟩
theorem bx: ∀ (n:Nat) {l:List Pt} {m:Nat},AreF l m->m<=n->isF n l=true
 | n,[],_,_,_=>by cases n <;> rfl
 | 0,_::_,_,h,hm=>by
  cases h with
  | @cons f _ _ _ _=>have:=Fm.size_pos f;omega
 | n+1,_::r,_,.cons (f:=f) (n:=y) w h,hm=>by
  show (fF (pt f)&&isF n ((nO (pt f)).reverse++r))=true
  rw [Bool.and_eq_true]
  cases f with
  | num k=>
   obtain ⟨a,b⟩: -999999<=k/\k<=999999:=w
   have hs:(Fm.num k).size=1:=rfl
   refine ⟨?_,bx n h (by omega)⟩
   show (decide (-999999<=k)&&decide (k<=999999))=true
   rw [decide_eq_true a,decide_eq_true b];rfl
  | own s=>
   have hs:(Fm.own s).size=1:=rfl
   exact ⟨w,bx n h (by omega)⟩
  | part k s=>
   obtain ⟨⟨a,b⟩,c⟩:(0<=k/\k<=2)/\aT s=true:=w
   have hs:(Fm.part k s).size=1:=rfl
   refine ⟨?_,bx n h (by omega)⟩
   show (decide (0<=k)&&decide (k<=2)&&aT s)=true
   rw [decide_eq_true a,decide_eq_true b,c];rfl
  | bin op a b=>
   obtain ⟨ho,h1,h2⟩:op∈ops/\a.wf/\b.wf:=w
   have hs:(Fm.bin op a b).size=a.size+b.size+1:=rfl
   refine ⟨decide_eq_true (ic ho),bx n ((AreF.rev (.cons (f:=a) h1 (.cons (f:=b) (n:=0) h2 .nil))).app h) (by omega)⟩
  | whn a b c=>
   obtain ⟨h1,h2,h3⟩:a.wf/\b.wf/\c.wf:=w
   have hs:(Fm.whn a b c).size=a.size+b.size+c.size+1:=rfl
   refine ⟨decide_eq_true k7,bx n ((AreF.rev (.cons (f:=a) h1 (.cons (f:=b) h2 (.cons (f:=c) (n:=0) h3 .nil)))).app h) (by omega)⟩
theorem l6 (p:Pt):isF 15 [p]=true↔ ∃ f:Fm,f.wf/\f.size<=15/\p=pt f:=by
 constructor
 ·intro h
  obtain ⟨m,hm,hn⟩:=ib 15 _ h
  match hm with
  | .cons (f:=f) w .nil=>exact ⟨f,w,by omega,rfl⟩
 ·rintro ⟨f,w,hs,rfl⟩
  exact bx 15 (.cons (f:=f) (n:=0) w .nil) (by omega)
noncomputable def spl:List Nat->List (List Nat)
 | []=>[[]]
 | c::r=>if c=32 then []::spl r else match spl r with
  | p::ps=>(c::p)::ps
  | []=>[[c]]
theorem iu: ∀ l,spl l≠[]
 | []=>by intro h;cases h
 | c::r=>by
  unfold spl
  split
  ·intro h;cases h
  ·split <;> (intro h;cases h)
theorem bM (b:List Nat): ∀ a:List Nat,spl (a++32::b)=spl a++spl b
 | []=>by
  show (if 32=32 then []::spl b else _)=[[]]++spl b
  rw [if_pos rfl];rfl
 | c::r=>by
  have ih:=bM b r
  show (if c=32 then []::spl (r++32::b)else match spl (r++32::b)with | p::ps=>(c::p)::ps | []=>[[c]])=(if c=32 then []::spl r else match spl r with | p::ps=>(c::p)::ps | []=>[[c]])++spl b
  by_cases h:c=32
  ·rw [if_pos h,if_pos h,ih];rfl
  ·rw [if_neg h,if_neg h,ih]
   cases hs:spl r with
   | nil=>exact absurd hs (iu r)
   | cons p ps=>rfl
theorem cD: ∀ a:List Nat,32∉a->spl a=[a]
 | [],_=>rfl
 | c::r,h=>by
  have h1: ¬ c=32:=fun e=>h (e▸List.mem_cons_self)
  unfold spl
  rw [if_neg h1,cD r fun m=>h (List.mem_cons_of_mem _ m)]
noncomputable def phi:List Nat->List Nat
 | []=>[]
 | c::r=>(if c=40 then [40,32]else if c=41 then [32,41]else [c])++phi r
theorem bv: ∀ a b:List Nat,phi (a++b)=phi a++phi b
 | [],b=>rfl
 | c::a,b=>by
  show _++phi (a++b)=(_++phi a)++phi b
  rw [bv a b,List.append_assoc]
theorem dy: ∀ {a:List Nat},40∉a->41∉a->phi a=a
 | [],_,_=>rfl
 | c::a,h1,h2=>by
  show (if c=40 then [40,32]else if c=41 then [32,41]else [c])++phi a=c::a
  have n1: ¬ c=40:=fun e=>h1 (by rw [e];exact List.mem_cons_self)
  have n2: ¬ c=41:=fun e=>h2 (by rw [e];exact List.mem_cons_self)
  rw [if_neg n1,if_neg n2,dy (fun h=>h1 (List.mem_cons_of_mem _ h)) fun h=>h2 (List.mem_cons_of_mem _ h)]
  rfl
noncomputable def cT:List Nat->List Nat
 | []=>[]
 | [c]=>[c]
 | c::d::r=>if c=40 then 40::cT r else if c=32/\d=41 then 41::cT r else c::cT (d::r)
theorem pA {l:List Nat}:(phi l).head?≠some 41:=by
 cases l with
 | nil=>intro h;cases h
 | cons c r=>
  show ((if c=40 then [40,32]else if c=41 then [32,41]else [c])++phi r).head?≠some 41
  by_cases h1:c=40
  ·rw [if_pos h1];intro h;cases h
  ·rw [if_neg h1]
   by_cases h2:c=41
   ·rw [if_pos h2];intro h;cases h
   ·rw [if_neg h2];intro h;exact h2 (Option.some.inj h)
theorem eV: ∀ l:List Nat,cT (phi l)=l
 | []=>rfl
 | c::r=>by
  have ih:=eV r
  show cT ((if c=40 then [40,32]else if c=41 then [32,41]else [c])++phi r)=c::r
  by_cases h1:c=40
  ·rw [if_pos h1]
   show cT (40::32::phi r)=_
   unfold cT
   rw [if_pos rfl,ih,h1]
  ·rw [if_neg h1]
   by_cases h2:c=41
   ·rw [if_pos h2]
    show cT (32::41::phi r)=_
    unfold cT
    rw [if_neg (by decide),if_pos ⟨rfl,rfl⟩,ih,h2]
   ·rw [if_neg h2]
    show cT (c::phi r)=_
    have hh:=pA (l:=r)
    generalize phi r=q at ih hh
    cases q with
    | nil=>rw [<- ih];rfl
    | cons d s=>
     show (if c=40 then 40::cT s else if c=32/\d=41 then 41::cT s else c::cT (d::s))=_
     rw [if_neg h1,if_neg (fun z=>hh (by rw [z.2];rfl)),ih]
theorem rD {a b:List Nat} (h:phi a=phi b):a=b:=by rw [<- eV a,h,eV]
noncomputable def jn:List (List Nat)->List Nat
 | []=>[]
 | [a]=>a
 | a::b::r=>a++32::jn (b::r)
theorem kP: ∀ l:List Nat,jn (spl l)=l
 | []=>rfl
 | c::r=>by
  have ih:=kP r
  unfold spl
  by_cases h:c=32
  ·rw [if_pos h]
   cases hs:spl r with
   | nil=>exact absurd hs (iu r)
   | cons p ps=>
    rw [hs]at ih
    show []++32::jn (p::ps)=_
    rw [ih,h]
    rfl
  ·rw [if_neg h]
   cases hs:spl r with
   | nil=>exact absurd hs (iu r)
   | cons p ps=>
    rw [hs]at ih
    cases ps with
    | nil=>show c::p=_;rw [<- ih];rfl
    | cons q qs=>show (c::p)++32::jn (q::qs)=_;rw [<- ih];rfl
theorem qS {a b:List Nat} (h:spl a=spl b):a=b:=by rw [<- kP a,h,kP]
theorem de: ∀ (f:Fm),f.wf->spl (phi f.wr.cps.toList)=f.toks.map fun s=>s.cps.toList
 | .num n,hw=>by
  show spl (phi (aX n).cps.toList)=[(aX n).cps.toList]
  rw [dy (eD n (by decide) (by decide)) (eD n (by decide) (by decide)),cD _ (eD n (by decide) (by decide))]
 | .own x,hw=>by
  have hw:aT x=true:=hw
  show spl (phi ("own."++x:Str).cps.toList)=[("own."++x:Str).cps.toList]
  rw [dy (iI hw (by decide) (by decide)) (iI hw (by decide) (by decide)),cD _ (iI hw (by decide) (by decide))]
 | .part k x,hw=>by
  obtain ⟨_,hw⟩:(0<=k/\k<=2)/\aT x=true:=hw
  show spl (phi (aX k++"."++x:Str).cps.toList)=[(aX k++"."++x:Str).cps.toList]
  rw [dy (fN hw (by decide) (by decide) (by decide) (by decide)) (fN hw (by decide) (by decide) (by decide) (by decide)),cD _ (fN hw (by decide) (by decide) (by decide) (by decide))]
 | .bin op a b,hw=>by
  obtain ⟨ho,h1,h2⟩:op∈ops/\a.wf/\b.wf:=hw
  obtain ⟨_,_,m1,m2,m3,_⟩:=jx ho
  have e:phi (Fm.bin op a b).wr.cps.toList=[40]++32::(phi a.wr.cps.toList++32::((mkT op).cps.toList++32::(phi b.wr.cps.toList++32::[41]))):=by
   show phi ("("++a.wr++(" "++mkT op++" ")++b.wr++")":Str).cps.toList=_
   rw [aN,aN,aN,aN,aN,aN,bv,bv,bv,bv,bv,bv,dy m2 m3]
   show (((([40,32]++phi a.wr.cps.toList)++(([32]++(mkT op).cps.toList)++[32]))++phi b.wr.cps.toList)++[32,41])=_
   simp
  rw [e,bM,bM,bM,bM,de a h1,de b h2,cD _ m1]
  show [[40]]++(_++([(mkT op).cps.toList]++(_++[[41]])))=(("(":Str)::(a.toks++(mkT op::(b.toks++[(")":Str)])))).map _
  simp
  exact ⟨rfl,rfl⟩
 | .whn a b c,hw=>by
  obtain ⟨h1,h2,h3⟩:a.wf/\b.wf/\c.wf:=hw
  have e:phi (Fm.whn a b c).wr.cps.toList=[40]++32::(phi a.wr.cps.toList++32::([63]++32::(phi b.wr.cps.toList++32::([58]++32::(phi c.wr.cps.toList++32::[41]))))):=by
   show phi ("("++a.wr++" ? "++b.wr++" : "++c.wr++")":Str).cps.toList=_
   rw [aN,aN,aN,aN,aN,aN,bv,bv,bv,bv,bv,bv]
   show (((((([40,32]++phi a.wr.cps.toList)++[32,63,32])++phi b.wr.cps.toList)++[32,58,32])++phi c.wr.cps.toList)++[32,41])=_
   simp
  rw [e,bM,bM,bM,bM,bM,bM,de a h1,de b h2,de c h3]
  show [[40]]++(_++([[63]]++(_++([[58]]++(_++[[41]])))))=(("(":Str)::(a.toks++(("?":Str)::(b.toks++((":":Str)::(c.toks++[(")":Str)])))))).map _
  simp
  exact ⟨rfl,rfl,rfl,rfl⟩
theorem mQ (c:Nat) (z:Str): ∀ parts:List Str,(∀ p∈parts,c∉p.cps.toList)->((Str.join ⟨#[c]⟩ parts).cps.toList).flatMap (fun k=>if k=c then z.cps.toList else [k])=(Str.join z parts).cps.toList:=by
 have free: ∀ l:List Nat,c∉l->l.flatMap (fun k=>if k=c then z.cps.toList else [k])=l:=by
  intro l
  induction l with
  | nil=>intro _;rfl
  | cons k r ih=>
   intro h
   rw [List.flatMap_cons,ih fun m=>h (List.mem_cons_of_mem _ m),if_neg (fun e=>h (by rw [e];exact List.mem_cons_self))]
   rfl
 intro parts
 induction parts with
 | nil=>intro _;rfl
 | cons p r ih=>
  intro h
  cases r with
  | nil=>exact free _ (h p List.mem_cons_self)
  | cons q r=>
   have ih:=ih fun a ha=>h a (List.mem_cons_of_mem _ ha)
   show ((p++⟨#[c]⟩++Str.join ⟨#[c]⟩ (q::r)).cps.toList).flatMap _=(p++z++Str.join z (q::r)).cps.toList
   rw [aN,aN,aN,aN,List.flatMap_append,List.flatMap_append,ih,free _ (h p List.mem_cons_self)]
   show p.cps.toList++((if c=c then z.cps.toList else [c])++[])++_=_
   rw [if_pos rfl,List.append_nil]
theorem gf (x z:Str) (c:Nat):(Txt.replace x ⟨#[c]⟩ z).cps.toList=x.cps.toList.flatMap fun k=>if k=c then z.cps.toList else [k]:=by
 rw [StrLaws.replace_one,<- mQ c z _ (StrLaws.split_free x c),StrLaws.join_split]
noncomputable def dn (x:Str):Str:=Txt.replace (Txt.replace x "(" "( ") ")" " )"
theorem dD (x:Str):(dn x).cps.toList=phi x.cps.toList:=by
 unfold dn
 rw [show (Txt.replace (Txt.replace x "(" "( ") ")" " )")=Txt.replace (Txt.replace x ⟨#[40]⟩ "( ") ⟨#[41]⟩ " )" from rfl,gf,gf]
 have go: ∀ l:List Nat,(l.flatMap fun k=>if k=40 then ("( ":Str).cps.toList else [k]).flatMap (fun k=>if k=41 then (" )":Str).cps.toList else [k])=phi l:=by
  intro l
  induction l with
  | nil=>rfl
  | cons c r ih=>
   rw [List.flatMap_cons,List.flatMap_append,ih]
   show _=(if c=40 then [40,32]else if c=41 then [32,41]else [c])++phi r
   by_cases h1:c=40
   ·rw [if_pos h1,if_pos h1];rfl
   ·rw [if_neg h1,if_neg h1]
    show ((if c=41 then (" )":Str).cps.toList else [c])++[])++phi r=_
    rw [List.append_nil]
    by_cases h2:c=41
    ·rw [if_pos h2,if_pos h2];rfl
    ·rw [if_neg h2,if_neg h2]
 exact go _
theorem i9: ∀ parts:List Str,parts≠[]->(∀ p∈parts,32∉p.cps.toList)->spl (Str.join ⟨#[32]⟩ parts).cps.toList=parts.map fun p=>p.cps.toList
 | [],h,_=>absurd rfl h
 | [p],_,h=>cD _ (h p List.mem_cons_self)
 | p::q::r,_,h=>by
  have ih:=i9 (q::r) (by simp) fun a ha=>h a (List.mem_cons_of_mem _ ha)
  show spl (p++⟨#[32]⟩++Str.join ⟨#[32]⟩ (q::r)).cps.toList=_
  rw [aN,aN,List.append_assoc]
  show spl (p.cps.toList++32::(Str.join ⟨#[32]⟩ (q::r)).cps.toList)=_
  rw [bM,ih,cD _ (h p List.mem_cons_self)]
  rfl
theorem oN (x:Str):Txt.split x ⟨#[32]⟩≠[]:=by
 intro h
 have e:=StrLaws.join_split x ⟨#[32]⟩
 rw [h]at e
 have hx:x=Str.join ⟨#[32]⟩ []:=e.symm
 rw [hx]at h
 exact absurd h (by decide +kernel)
theorem eW (x:Str):(Txt.split x " ").map (fun p=>p.cps.toList)=spl x.cps.toList:=by
 have h:=i9 _ (oN x) (StrLaws.split_free x 32)
 rw [StrLaws.join_split]at h
 exact h.symm
noncomputable def aH (x:Str):List Str:=Txt.split (dn x) " "
theorem fD: ∀ {a b:List Str},a.map (fun s=>s.cps.toList)=b.map (fun s=>s.cps.toList)->a=b
 | [],[],_=>rfl
 | [],_::_,h=>by cases h
 | _::_,[],h=>by cases h
 | x::a,y::b,h=>by
  rw [List.map_cons,List.map_cons]at h
  injection h with h1 h2
  rw [bi h1,fD h2]
theorem ot {f:Fm} (h:f.wf):aH f.wr=f.toks:=fD (by
 unfold aH
 rw [eW,dD,de f h])
theorem oq {f:Fm} (h:f.wf) {x:Str} (e:aH x=f.toks):x=f.wr:=by
 have e2:spl (phi x.cps.toList)=spl (phi f.wr.cps.toList):=by
  rw [de f h,<- e,<- dD,<- eW]
  rfl
 exact bi (rD (qS e2))
theorem cX {x:Str} {f:Fm} (hw:f.wf) (hs:f.size<=15) (hx:f.wr=x):cy (aH x) []=some [pt f]/\isF 15 [pt f]=true:=by
 refine ⟨?_,(l6 _).mpr ⟨f,hw,hs,rfl⟩⟩
 rw [<- hx,ot hw]
 have:=cB f hw [] []
 rw [List.append_nil]at this
 exact this
theorem mV {x:Str} {p:Pt} (h:cy (aH x) []=some [p]) (hf:isF 15 [p]=true): ∃ f:Fm,f.wf/\f.size<=15/\p=pt f/\f.wr=x:=by
 obtain ⟨f,hw,hs,rfl⟩:=(l6 p).mp hf
 have h1:SplL [pt f] ([]++aH x):=gy _ (pile:=[]) .nil h
 obtain ⟨a,b,e,h2,h3⟩:=h1.cons_inv
 cases h3
 rw [List.nil_append,List.append_nil]at e
 exact ⟨f,hw,hs,rfl,(oq hw (e.trans (cU f hw h2))).symm⟩
open PySem.NumText (AllDigits digitsVal)
theorem aU {n:Nat} (h:n<=100000):n<sizeLine:=Nat.lt_of_le_of_lt h (by decide)
theorem mj (a b n:Nat):Builtin.Str.strSliceIndices (some (a:Int)) (some (b:Int)) 1 n=Builtin.Str.strSliceIndices (some ((min a n:Nat):Int)) (some ((min b n:Nat):Int)) 1 n:=by
 have h1: ¬ ((a:Int) <0):=by omega
 have h2: ¬ ((b:Int) <0):=by omega
 have h3: ¬ (((min a n:Nat):Int) <0):=by omega
 have h4: ¬ (((min b n:Nat):Int) <0):=by omega
 have e1:max (0:Int) (min (a:Int) (n:Int))=max (0:Int) (min ((min a n:Nat):Int) (n:Int)):=by omega
 have e2:max (0:Int) (min (b:Int) (n:Int))=max (0:Int) (min ((min b n:Nat):Int) (n:Int)):=by omega
 simp only [Builtin.Str.strSliceIndices,h1,h2,h3,h4,if_false,show ((1:Int) >0)=True from by simp,if_true]
 rw [e1,e2]
theorem mz (z:Str) {a b:Nat} (hab:a<=b):(Txt.slice z (some (a:Int)) (some (b:Int))).cps.toList=(z.cps.toList.drop a).take (b-a):=by
 have hl:z.cps.toList.length=z.length:=by simp [Str.length]
 have hm:min a z.length<=min b z.length:=by omega
 unfold Txt.slice
 rw [mj]
 split
 ·rename_i h
  rw [StrLaws.strSliceIndices_plain hm (Nat.min_le_right _ _),List.length_map,List.length_range]at h
  have h:min b z.length-min a z.length=z.length:=by simpa using h
  rcases Nat.eq_zero_or_pos z.length with e | e
  ·rw [e]at hl
   rw [List.length_eq_zero_iff.mp hl,List.drop_nil,List.take_nil]
  ·have ea:a=0:=by omega
   subst ea
   rw [List.drop_zero,List.take_of_length_le (by omega)]
 ·rw [StrLaws.sliced_plain z hm (Nat.min_le_right _ _)]
  rcases Nat.lt_or_ge z.length a with e | e
  ·rw [List.drop_eq_nil_of_le (by omega),List.drop_eq_nil_of_le (by omega),List.take_nil,List.take_nil]
  ·rw [Nat.min_eq_left e]
   rcases Nat.le_total b z.length with e2 | e2
   ·rw [Nat.min_eq_left e2]
   ·rw [Nat.min_eq_right e2,List.take_of_length_le (by rw [List.length_drop];omega),List.take_of_length_le (by rw [List.length_drop];omega)]
theorem vv {c:TT} {Z:St} {H:Hp} {Q:Bool->Hp->Prop} (b:Bool) (h: ∀ Q:Bool->Hp->Prop,Q b H->c Z H Q) (hq:Q b H):c Z H Q:=h Q hq
theorem lj (z:Str) {a:Nat} (h:z.length<a):(Txt.slice z (some (a:Int)) (some ((z.length:Nat):Int))).cps.toList=[]:=by
 unfold Txt.slice
 have hm:min a z.length=min z.length z.length:=by omega
 rw [mj,hm]
 split
 ·rename_i h2
  rw [StrLaws.strSliceIndices_plain (Nat.le_refl _) (Nat.min_le_right _ _),List.length_map,List.length_range,Nat.sub_self]at h2
  rw [Bool.and_eq_true,beq_iff_eq,beq_iff_eq]at h2
  have h2:z.length=0:=h2.2.symm
  exact List.length_eq_zero_iff.mp (by rw [Array.length_toList];exact h2)
 ·rw [StrLaws.sliced_plain z (Nat.le_refl _) (Nat.min_le_right _ _),Nat.sub_self,List.take_zero]
theorem kf (z:Str) (a:Nat):(Txt.slice z (some (a:Int)) none).cps.toList=z.cps.toList.drop a:=by
 have e:Txt.slice z (some (a:Int)) none=Txt.slice z (some (a:Int)) (some ((z.length:Nat):Int)):=by
  unfold Txt.slice
  rw [StrLaws.sliceIdx_none_hi]
 have hl:z.cps.toList.length=z.length:=by rw [Str.length,Array.length_toList]
 rw [e]
 rcases Nat.lt_or_ge z.length a with h | h
 ·rw [lj z h,List.drop_eq_nil_of_le (by omega)]
 ·rw [mz z h]
  exact List.take_of_length_le (by rw [List.length_drop];omega)
theorem kb (z:Str) (c:Nat):Txt.startswith z ⟨#[c]⟩=decide (z.cps.toList.head?=some c):=by
 unfold Txt.startswith
 have hl:z.cps.toList.length=z.length:=by rw [Str.length,Array.length_toList]
 have h1:(⟨#[c]⟩:Str).length=1:=rfl
 rw [Bool.eq_iff_iff,Bool.and_eq_true,decide_eq_true_eq,decide_eq_true_eq,StrLaws.subAt_one]
 cases z.cps.toList with
 | nil=>simp
 | cons a r=>simp
noncomputable def RepP (H:Hp):Nat->Pt->V->Prop
 | 0,_,_=>False
 | n+1,p,v=>match p with
  | .w s=>v=.str s/\s.length<=2000
  | .num k=> ∃ a,v=.ref a/\H a=some (.tup [.str "num",.int k])
  | .own s=> ∃ a,v=.ref a/\H a=some (.tup [.str "own",.str s])/\s.length<=2000
  | .part k s=> ∃ a,v=.ref a/\H a=some (.tup [.str "part",.int k,.str s])/\s.length<=2000
  | .node k items=> ∃ a vs,v=.ref a/\H a=some (.tup (.str k::vs))/\k.length<=1000/\(a8 k).isSome=true/\vs.length<=900/\Paired (RepP H n) items vs
theorem RepP.mono {H H':Hp} (t:TK H H'): ∀ {n:Nat} {p:Pt} {v:V},RepP H n p v->RepP H' n p v
 | 0,_,_,h=>h
 | n+1,.w _,_,h=>h
 | n+1,.num _,_,⟨a,e,h⟩=>⟨a,e,t _ _ h⟩
 | n+1,.own _,_,⟨a,e,h,l⟩=>⟨a,e,t _ _ h,l⟩
 | n+1,.part _ _,_,⟨a,e,h,l⟩=>⟨a,e,t _ _ h,l⟩
 | n+1,.node _ _,_,⟨a,vs,e,h,l1,l3,l2,k⟩=>⟨a,vs,e,t _ _ h,l1,l3,l2,Paired.mapP k fun _ _ r=>RepP.mono t r⟩
theorem RepP.up {H:Hp}: ∀ {n:Nat} {p:Pt} {v:V},RepP H n p v->RepP H (n+1) p v
 | 0,_,_,h=>h.elim
 | n+1,.w _,_,h=>h
 | n+1,.num _,_,h=>h
 | n+1,.own _,_,h=>h
 | n+1,.part _ _,_,h=>h
 | n+1,.node _ _,_,⟨a,vs,e,h,l1,l3,l2,k⟩=>⟨a,vs,e,h,l1,l3,l2,Paired.mapP k fun _ _ r=>RepP.up r⟩
theorem RepP.le {H:Hp} {n m:Nat} {p:Pt} {v:V} (h:RepP H n p v) (l:n<=m):RepP H m p v:=by
 induction l with
 | refl=>exact h
 | step _ ih=>exact ih.up
noncomputable def RepX (H:Hp) (p:Pt) (v:V):Prop:= ∃ n,RepP H n p v
theorem RepX.mono {H H':Hp} (t:TK H H') {p:Pt} {v:V}:RepX H p v->RepX H' p v:=fun ⟨n,h⟩=>⟨n,h.mono t⟩
theorem jg {H:Hp}: ∀ {ps:List Pt} {vs:List V},Paired (RepX H) ps vs-> ∃ n,Paired (RepP H n) ps vs
 | _,_,.nil=>⟨0,.nil⟩
 | _,_,.cons ⟨n,h⟩ t=>by
  obtain ⟨m,k⟩:=jg t
  exact ⟨max n m,.cons (h.le (Nat.le_max_left _ _)) (Paired.mapP k fun _ _ r=>RepP.le r (Nat.le_max_right _ _))⟩
theorem RepX.txtTup {H:Hp} {p:Pt} {v:V}:RepX H p v->lr H v
 | ⟨0,h⟩=>h.elim
 | ⟨n+1,h⟩=>by
  cases p with
  | w s=>exact .inl ⟨s,h.1⟩
  | num k=>obtain ⟨a,e,h⟩:=h;exact .inr ⟨a,_,e,h⟩
  | own s=>obtain ⟨a,e,h,_⟩:=h;exact .inr ⟨a,_,e,h⟩
  | part k s=>obtain ⟨a,e,h,_⟩:=h;exact .inr ⟨a,_,e,h⟩
  | node k items=>obtain ⟨a,vs,e,h,_⟩:=h;exact .inr ⟨a,_,e,h⟩
theorem RepX.isOpen {H:Hp} {p:Pt} {v:V}:RepX H p v->isT "(" v=isOpen p
 | ⟨0,h⟩=>h.elim
 | ⟨n+1,h⟩=>by
  cases p with
  | w s=>rw [h.1];rfl
  | num k=>obtain ⟨a,e,h⟩:=h;rw [e];rfl
  | own s=>obtain ⟨a,e,h,_⟩:=h;rw [e];rfl
  | part k s=>obtain ⟨a,e,h,_⟩:=h;rw [e];rfl
  | node k items=>obtain ⟨a,vs,e,h,_⟩:=h;rw [e];rfl
noncomputable def ja:Sp:=fun vs H Q _=> ∃ z,vs=[.str z,.int 6]/\z.length<=2000/\ ∀ H',Same H H'->Q (.bl (wwB z)) H'
noncomputable def fZ:Sp:=fun vs H Q _=> ∃ z,vs=[.str z]/\z.length<=2000/\ ∀ v H',Same H H'->RepX H' (a7 z) v->Q v H'
theorem uC (c:Nat):(!decide ((⟨#[c]⟩:Str).cps.toList< ("0":Str).cps.toList))=decide (48<=c):=by
 have e:("0":Str).cps.toList=[48]:=by decide +kernel
 rw [e]
 show (!decide ([c] <[48]))=_
 rw [iM]
 by_cases h:c<48
 ·rw [decide_eq_true h,decide_eq_false (by omega)]
  rfl
 ·rw [decide_eq_false h,decide_eq_true (by omega)]
  rfl
theorem vN (c:Nat):(!decide (("9":Str).cps.toList< (⟨#[c]⟩:Str).cps.toList))=decide (c<=57):=by
 have e:("9":Str).cps.toList=[57]:=by decide +kernel
 rw [e]
 show (!decide ([57] <[c]))=_
 rw [iM]
 by_cases h:57<c
 ·rw [decide_eq_true h,decide_eq_false (by omega)]
  rfl
 ·rw [decide_eq_false h,decide_eq_true (by omega)]
  rfl
theorem ul (c:Nat):dB c=(decide (48<=c)&&decide (c<=57)):=by
 unfold dB
 by_cases h1:48<=c <;> by_cases h2:c<=57 <;> simp [h1,h2]
theorem scWrites:au ["text","most_figures","figures"] ["text","most_figures"] (ag dF):=fsc
theorem nn (F:Fun K "writes_whole" "writes_whole" dF f fd) (G:Gb mg):FnOk P w K mg base CX0 1 f fd ["text","most_figures"] ja:=by
 refine F.ok scWrites (fun vs H Q E h=>?_) (fun cdv A outer s H vs Q E hr h=>?_)
 ·obtain ⟨z,rfl,_⟩:=h
  rfl
 obtain ⟨z,rfl,hz,q⟩:=h
 have hzs:z.length<=sizeLine:=Nat.le_of_lt (aU (by omega))
 obtain ⟨t,ht,hread⟩: ∃ t,PSs (cz CX0 P w K mg base ["text","most_figures","figures"] "writes_whole" (ag dF) f cdv A outer s H E).nox ((bd dF).drop 1) t/\
   ∀ y:Str,y.cps.toList=ck z.cps.toList->t {nx:=fun _ H'=>Q .non H',rt:=Q} [some (.str z),some (.int 6),some (.str y)] H:=by
  refine ⟨_,af (aV (dw (jl hV hV ae (al eQ rfl G.len PySem.boot_len (aa (pv 2) ad)) (pv 1))) (ak (ar dL)) aE)
   (ak (ar (cu (al (gI rfl) rfl G.all (by decide +kernel) (aa (lO (sc0:=ag dF) (N0:=["text","most_figures","figures"]) (ys:=[]) (fr:=[]) rfl (pq (pv 2)) rfl rfl
     cok (fun C s H ex=>gj dI dI ao (pv 0) ao)) ad))
    (cF (cp bh (bo cc rfl G.str (by decide +kernel) (aa (bo cQ rfl G.int (by decide +kernel) (aa (pv 0) ad)) ad)) (pv 0) (aB _)))))),fun y hy=>?_⟩
  have hyl:y.length=(ck z.cps.toList).length:=by rw [Str.length,<- Array.length_toList,hy]
  have hfl:(ck z.cps.toList).length<=z.length:=by
   unfold ck
   rw [Str.length,<- Array.length_toList]
   split
   ·rw [List.length_drop];omega
   ·exact Nat.le_refl _
  have hys:y.length<=sizeLine:=Nat.le_of_lt (aU (by omega))
  have ew:wwB z=(decide (1<=y.length)&&decide (y.length<=6)&&y.cps.toList.all dB&&(match intText? z with | some n=>decide (aX n=z) | none=>false)):=by
   unfold wwB
   rw [hyl,hy]
   try rfl
  refine ⟨_,rfl,y,rfl,hys,1,_,rfl,rfl,_,rfl,?_⟩
  refine aZ (fun c1=>?_) (fun c1=>?_)
  ·have c1':1<=y.length:=by have:=of_decide_eq_true c1;omega
   refine ⟨_,rfl,_,6,rfl,rfl,_,rfl,?_⟩
   refine aZ (fun c2=>?_) (fun c2=>?_)
   ·have c2': ¬ y.length<=6:=fun z8=>by
     have:((y.length:Int)<=6):=by omega
     rw [decide_eq_true this]at c2
     exact absurd c2 (by decide)
    have e:wwB z=false:=by rw [ew,decide_eq_false c2',Bool.and_false,Bool.false_and,Bool.false_and]
    exact qb (q H (Same.refl H)) e
   ·have c2':y.length<=6:=by
     by_cases h:((y.length:Int)<=6)
     ·omega
     ·rw [decide_eq_false h]at c2
      exact absurd rfl c2
    refine ⟨_,rfl,y,rfl,?_⟩
    refine c8 (n:=y.length) (R:=fun i v=> ∃ c,y.cps[i]? =some c/\v=.str ⟨#[c]⟩) (by omega) qk jG lX
     (fun p i zs H'=>H'=upd H p (.lst zs)/\i<=y.length/\zs=((y.cps.toList.take i).map dB).map V.bl) (fun p hp=>⟨rfl,Nat.zero_le _,rfl⟩) ?_ ?_ ?_
    ·rintro p i zs H' ⟨rfl,hi,rfl⟩
     refine ⟨ac,?_⟩
     rw [List.length_map,List.length_map,List.length_take]
     exact Nat.min_eq_left hi
    ·rintro p i zs H' v k hp hi ⟨ch,hc,rfl⟩ ⟨rfl,_,rfl⟩ hk
     have hc':y.cps.toList[i]? =some ch:=by rw [Array.getElem?_toList];exact hc
     have nxt:((y.cps.toList.take i).map dB).map V.bl++[V.bl (dB ch)]=((y.cps.toList.take (i+1)).map dB).map V.bl:=by
      rw [List.take_add_one,hc']
      simp
     have fin:k (.bl (dB ch)) (upd H p (.lst (((y.cps.toList.take i).map dB).map V.bl))):=hk _ _ ac ⟨by rw [bK],hi,nxt⟩
     rw [ul]at fin
     refine ⟨_,rfl,_,_,rfl,rfl,_,rfl,?_⟩
     refine aZ (fun c3=>?_) (fun c3=>?_)
     ·refine ⟨_,_,rfl,rfl,?_⟩
      rw [uC]at c3
      rw [c3,Bool.true_and]at fin
      exact qb fin (vN ch).symm
     ·rw [uC]at c3
      rw [Bool.eq_false_iff.mpr c3,Bool.false_and]at fin
      exact fin
    ·rintro p zs H' hp ⟨rfl,_,rfl⟩
     refine ⟨p,(y.cps.toList.take y.length).map dB,rfl,SqL.of ac,_,rfl,?_⟩
     have e0:((y.cps.toList.take y.length).map dB).all id=y.cps.toList.all dB:=by
      rw [List.take_of_length_le (show y.cps.toList.length<=y.length from Nat.le_refl _),List.all_map]
      rfl
     rw [e0]
     have s1:=ai hp (.lst (((y.cps.toList.take y.length).map dB).map V.bl))
     generalize upd H p (.lst (((y.cps.toList.take y.length).map dB).map V.bl))=H1 at s1 ⊢
     refine aZ (fun ca=>?_) (fun ca=>?_)
     ·have hall:AllDigits (ck z.cps.toList):=by rw [<- hy];exact eM ca
      have hz7:z.length<=7:=by
       rw [Str.length,<- Array.length_toList]
       rw [hyl]at c2'
       unfold ck at c2'
       split at c2'
       ·rw [List.length_drop]at c2';omega
       ·omega
      have hne:ck z.cps.toList≠[]:=List.ne_nil_of_length_pos (by omega)
      have ei:=gB hne hall (by omega)
      have hv:=ox _ hall
      have hp10:10^ (ck z.cps.toList).length<=10^6:=Nat.pow_le_pow_right (by decide) (by omega)
      rw [ei,ca,decide_eq_true c1',decide_eq_true c2']at ew
      generalize hN:(if z.cps.toList.head?=some 45 then -((digitsVal (ck z.cps.toList):Nat):Int)else ((digitsVal (ck z.cps.toList):Nat):Int))=N at *
      have hN6:N.natAbs<10^6:=by rw [<- hN];split <;> omega
      have hlog:N.natAbs.log2<1920:=by
       by_cases h0:N.natAbs=0
       ·rw [h0];decide
       ·exact Nat.lt_of_lt_of_le ((Nat.log2_lt h0).mpr (Nat.lt_of_lt_of_le hN6 (by decide:10^6<=2^20))) (by decide)
      refine ⟨_,rfl,z,N,rfl,ei,by omega,N,rfl,hlog,_,rfl,rfl,?_⟩
      refine qb (q H1 s1) ?_
      rw [ew]
      show decide (aX N=z)=decide (V.str (aX N)=V.str z)
      exact decide_eq_decide.mpr ⟨fun e=>by rw [e],fun e=>V.str.inj e⟩
     ·have e:wwB z=false:=by rw [ew,Bool.eq_false_iff.mpr ca,Bool.and_false,Bool.false_and]
      exact qb (q H1 s1) e
  ·have c1': ¬ 1<=y.length:=fun z1=>by
    have:((1:Int)<=(y.length:Int)):=by omega
    rw [decide_eq_true this]at c1
    exact c1 rfl
   refine ⟨_,rfl,?_⟩
   refine cL ?_
   have e:wwB z=false:=by rw [ew,decide_eq_false c1',Bool.false_and,Bool.false_and,Bool.false_and]
   exact qb (q H (Same.refl H)) e
 refine ⟨_,af (av (i:=2) scWrites.nd rfl (Or.inl rfl) (eC (cO (dk PySem.F.plainAttrs_str PySem.F.slot_str_startswith PySem.F.type_str_startswith nF (pv 0) (aa ao ad))) (bj ga (pv 0) (bt ae) bu) (pv 0))) ht,?_⟩
 refine ⟨_,rfl,rfl,z,_,rfl,rfl,_,rfl,?_⟩
 rw [show Txt.startswith z "-"=decide (z.cps.toList.head?=some 45)from kb z 45]
 refine aZ (fun c=>?_) (fun c=>?_)
 ·refine ⟨_,rfl,1,rfl,z,rfl,hzs,hread _ ?_⟩
  unfold ck
  rw [if_pos (of_decide_eq_true c)]
  exact kf z 1
 ·refine ⟨_,rfl,hread _ ?_⟩
  unfold ck
  rw [if_neg (fun e=>c (decide_eq_true e))]
theorem scReadLeaf:au ["word","cut"] ["word"] (ag ff):=fsc
theorem jv (F:Fun K "read_leaf" "read_leaf" ff f fd) (G:Gb mg) {tM:Tok} (mM:mg "MOST_FIGURES"=some (.int 6 tM)) (mR:mg "PART_FIGURES"=some (.ref aR)) (hR: ∀ H,SqT K H aR [.str "0",.str "1",.str "2"])
  (GW:FnOk P w K mg base CX0 1 g gd ["text","most_figures"] ja) (bW:Binds K gd ["text","most_figures"] []) (kW:PySem.W.keepIn K (.ref g)=true) (mW:mg "writes_whole"=some (.ref g)):
  FnOk P w K mg base CX0 2 f fd ["word"] fZ:=by
 refine F.ok scReadLeaf (fun vs H Q E h=>?_) (fun cdv A outer s H vs Q E hr h=>?_)
 ·obtain ⟨z,rfl,_⟩:=h
  rfl
 obtain ⟨z,rfl,hz,q⟩:=h
 have hzs:z.length<=sizeLine:=Nat.le_of_lt (aU (by omega))
 refine ⟨_,af (aV (cO (aq GW hr rfl mW kW bW .nil aL (aa (pv 0) (aa (bO (v:=.int 6) rfl mM ⟨_,rfl⟩) ad))))
   (ak (ar (bp (aa ao (aa (bo cQ rfl G.int (by decide +kernel) (aa (pv 0) ad)) ad))))) aE)
  (af (av (i:=1) scReadLeaf.nd rfl (Or.inl rfl) (dk PySem.F.plainAttrs_str PySem.F.slot_str_partition PySem.F.type_str_partition rS (pv 0) (aa ao ad)))
  (af (aV (aA bh (aF a9 (pv 1) ae (fun _ _=>rfl)) ao (aB _)) (ak (ar (bp (aa ao (aa (aF a9 (pv 1) ae (fun _ _=>rfl)) ad))))) aE)
  (af (aV (aA nj (aF a9 (pv 1) ae (fun _ _=>rfl)) (bO (v:=.ref aR) rfl mR rfl) (by with_unfolding_all rfl))
   (ak (ar (bp (aa ao (aa (bo cQ rfl G.int (by decide +kernel) (aa (aF a9 (pv 1) ae (fun _ _=>rfl)) ad)) (aa (aF a9 (pv 1) ae (fun _ _=>rfl)) ad)))))) aE)
  (ak (ar (pv 0)))))),?_⟩
 refine ⟨_,rfl,z,rfl,hz,fun H1 s1=>⟨_,rfl,?_⟩⟩
 refine aZ (fun c=>?_) (fun c=>?_)
 ·obtain ⟨n,e1,e2,_⟩:=lu c
  have hz7:z.length<=640:=by
   unfold wwB at c
   simp only [Bool.and_eq_true,decide_eq_true_eq]at c
   have c2:=c.1.1.2
   unfold ck at c2
   rw [Str.length,<- Array.length_toList]
   split at c2
   ·rw [List.length_drop]at c2;omega
   ·omega
  refine ⟨_,rfl,z,n,rfl,e1,hz7,(by show 2<=sizeLine;decide),fun p hp=>?_⟩
  refine q _ _ (s1.trans (ai hp _)) ⟨1,?_⟩
  unfold a7
  rw [if_pos c,e1]
  exact ⟨p,rfl,ac⟩
 ·refine ⟨_,rfl,rfl,z,_,rfl,rfl,by decide +kernel,hzs,fun p hp=>?_⟩
  have hsum:=StrLaws.partition_sum z "."
  have er:a7 z=if (Txt.partition z ".").1="own" then .own (Txt.partition z ".").2.2 else
   if (Txt.partition z ".").1="0"\/(Txt.partition z ".").1="1"\/(Txt.partition z ".").1="2" then .part ((intText? (Txt.partition z ".").1).getD 0) (Txt.partition z ".").2.2 else .w z:=by
   unfold a7
   rw [if_neg c]
  have hl2:(Txt.partition z ".").2.2.length<=2000:=by
   have:=congrArg Str.length hsum
   rw [aS,aS]at this
   omega
  generalize Txt.partition z "."=pp at *
  have s2:=ai hp (.tup [.str pp.1,.str pp.2.1,.str pp.2.2])
  have g2:(upd H1 p (.tup [.str pp.1,.str pp.2.1,.str pp.2.2])) p=some (.tup [.str pp.1,.str pp.2.1,.str pp.2.2]):=ac
  generalize upd H1 p (.tup [.str pp.1,.str pp.2.1,.str pp.2.2])=H2 at s2 g2 ⊢
  have S2:=s1.trans s2
  refine ⟨_,rfl,p,_,0,.str pp.1,rfl,rfl,SqT.of g2,ce,rfl,_,rfl,?_⟩
  refine aZ (fun c1=>?_) (fun c1=>?_)
  ·have c1:pp.1="own":=V.str.inj (of_decide_eq_true c1)
   rw [if_pos c1]at er
   refine ⟨_,rfl,p,_,2,.str pp.2.2,rfl,rfl,SqT.of g2,aW (j:=2) rfl,(by show 2<=sizeLine;decide),fun p3 hp3=>?_⟩
   refine q _ _ (S2.trans (ai hp3 _)) ⟨1,?_⟩
   rw [er]
   exact ⟨p3,rfl,ac,hl2⟩
  have c1: ¬ pp.1="own":=fun e=>c1 (decide_eq_true (by rw [e]))
  rw [if_neg c1]at er
  refine ⟨_,rfl,p,_,0,.str pp.1,rfl,rfl,SqT.of g2,ce,aR,_,rfl,.inr (hR H2),rfl,rfl,_,rfl,?_⟩
  have ein:inV (.str pp.1) [.str "0",.str "1",.str "2"]=decide (pp.1="0"\/pp.1="1"\/pp.1="2"):=by
   show (eqV (.str "0") (.str pp.1)||(eqV (.str "1") (.str pp.1)||(eqV (.str "2") (.str pp.1)||false)))=_
   show (("0":Str)==pp.1||(("1":Str)==pp.1||(("2":Str)==pp.1||false)))=_
   rw [Bool.eq_iff_iff]
   simp only [Bool.or_eq_true,beq_iff_eq,decide_eq_true_eq,Bool.or_false]
   exact ⟨fun h=>h.imp Eq.symm (fun h=>h.imp Eq.symm Eq.symm),fun h=>h.imp Eq.symm (fun h=>h.imp Eq.symm Eq.symm)⟩
  show if (if false=true then _ else inV (.str pp.1) [.str "0",.str "1",.str "2"])=true then _ else _
  rw [if_neg Bool.false_ne_true,ein]
  refine aZ (fun c2=>?_) (fun c2=>?_)
  ·have c2:=of_decide_eq_true c2
   rw [if_pos c2]at er
   obtain ⟨n,en⟩: ∃ n,intText? pp.1=some n:=by
    rcases c2 with e | e | e <;> rw [e]
    ·exact ⟨0,by decide +kernel⟩
    ·exact ⟨1,by decide +kernel⟩
    ·exact ⟨2,by decide +kernel⟩
   have hl1:pp.1.length<=640:=by rcases c2 with e | e | e <;> rw [e] <;> decide +kernel
   refine ⟨_,rfl,p,_,0,.str pp.1,rfl,rfl,SqT.of g2,ce,pp.1,n,rfl,en,hl1,_,rfl,p,_,2,.str pp.2.2,rfl,rfl,SqT.of g2,aW (j:=2) rfl,(by show 3<=sizeLine;decide),fun p3 hp3=>?_⟩
   refine q _ _ (S2.trans (ai hp3 _)) ⟨1,?_⟩
   rw [er,en]
   exact ⟨p3,rfl,ac,hl2⟩
  ·have c2: ¬ (pp.1="0"\/pp.1="1"\/pp.1="2"):=fun e=>c2 (decide_eq_true e)
   rw [if_neg c2]at er
   refine ⟨_,rfl,q _ _ S2 ⟨1,?_⟩⟩
   rw [er]
   exact ⟨rfl,hz⟩
theorem bV {H H':Hp} (s:Same H H'):TK H H':=fun a xs h=>s _ _ h
theorem gZ {R:Pt->V->Prop}: ∀ {ps:List Pt} {vs:List V},Paired R ps vs->Paired R (gu ps) (odL vs)
 | _,_,.nil=>.nil
 | _,_,.cons _ .nil=>.nil
 | _,_,.cons _ (.cons h t)=>.cons h (gZ t)
theorem hG {R:Pt->V->Prop}: ∀ {ps:List Pt} {vs:List V},Paired R ps vs->Paired R (eN ps) (evL vs)
 | _,_,.nil=>.nil
 | _,_,.cons h .nil=>.cons h .nil
 | _,_,.cons h (.cons _ t)=>.cons h (hG t)
theorem qy {α:Type}: ∀ (l:List α),2* (evL l).length<=l.length+1
 | []=>by show 0<=1;omega
 | [a]=>by show 2<=2;omega
 | a::b::r=>by
  have:=qy r
  show 2* ((evL r).length+1)<=r.length+1+1+1
  omega
theorem pZ {α:Type} {x:α}: ∀ {l:List α},x∈odL l->x∈l
 | [],h=>h
 | [_],h=>by cases h
 | a::b::r,h=>by
  rcases List.mem_cons.mp (show x∈b::odL r from h)with z | z
  ·rw [z];simp
  ·exact List.mem_cons_of_mem _ (List.mem_cons_of_mem _ (pZ z))
theorem RepX.isT {H:Hp} {p:Pt} {v:V} (m:Str):RepX H p v->isT m v=(match p with | .w s=>decide (s=m) | _=>false)
 | ⟨0,h⟩=>h.elim
 | ⟨n+1,h⟩=>by
  cases p with
  | w s=>rw [h.1];rfl
  | num k=>obtain ⟨a,e,h⟩:=h;rw [e];rfl
  | own s=>obtain ⟨a,e,h,_⟩:=h;rw [e];rfl
  | part k s=>obtain ⟨a,e,h,_⟩:=h;rw [e];rfl
  | node k items=>obtain ⟨a,vs,e,h,_⟩:=h;rw [e];rfl
theorem io {H:Hp}: ∀ {ps:List Pt} {vs:List V} (ms:List Str),Paired (RepX H) ps vs->ln vs ms=cA ps ms
 | _,_,[],.nil=>rfl
 | _,_,_::_,.nil=>rfl
 | p::_,_,[],.cons _ _=>by cases p <;> rfl
 | p::_,_,m::ms,.cons h t=>by
  show (isT m _&&ln _ ms)=_
  rw [RepX.isT m h,io ms t]
  cases p <;> first | rfl | (show (false&&_)=_;rw [Bool.false_and];rfl)
structure iW (K:PySem.W.Frag) (aM:Addr) (ks:List (Str×Addr)):Prop where
 it:KItm K aM ks
 pr:Paired (fun (q:Str×List Str) (r:Str×Addr)=>q.1=r.1/\ ∀ H,SqT K H r.2 (q.2.map V.str)) MK ks
theorem dH {α β:Type} {F:α->β->Prop}: ∀ {l:List α} {r:List β} {i:Nat} {b:β},Paired F l r->r[i]? =some b-> ∃ a,l[i]? =some a/\F a b
 | _,_,i,b,.nil,e=>by cases i <;> cases e
 | _,_,0,b,.cons h _,e=>⟨_,rfl,by cases e;exact h⟩
 | _,_,i+1,b,.cons _ t,e=>dH (i:=i) t (by simpa using e)
theorem iP {α:Type}: ∀ {l:List α} {i:Nat} {x:α},l[i]? =some x->l.drop i=x::l.drop (i+1)
 | [],_,_,h=>by cases h
 | y::l,0,x,h=>by cases h;rfl
 | y::l,i+1,x,h=>by
  rw [List.drop_succ_cons,List.drop_succ_cons]
  exact iP (by simpa using h)
theorem va {k:Str} {ms:List Str} (h:(k,ms)∈MK):(a8 k).isSome=true/\k.length<=1000:=by
 unfold MK at h
 simp only [List.mem_cons,List.not_mem_nil,or_false,Prod.mk.injEq]at h
 rcases h with ⟨rfl,_⟩ | ⟨rfl,_⟩ | ⟨rfl,_⟩ | ⟨rfl,_⟩ | ⟨rfl,_⟩ | ⟨rfl,_⟩ <;> decide +kernel
noncomputable def oP (C:Addr):Sp:=fun vs H Q E=> ∃ l ws ps,vs=[.ref l]/\H l=some (.lst ws)/\Paired (RepX H) ps ws/\ws.length<=1500/\
 (∀ p v H',cC ps MK=some p->Same H H'->RepX H' p v->Q v H')/\(cC ps MK=none-> ∀ H',Same H H'->E (.ref C) none H')
theorem scUnbr:au ["inside","kind","marks"] ["inside"] (ag o7):=fsc
theorem rM {B newId initId:String} {bmB:List Value} (F:Fun K "unbracketed" "unbracketed" o7 f fd) (G:Gb mg) (mM:mg "MARKS"=some (.ref aM)) (M:iW K aM ks) (hC:mg "NoText"=some (.ref C)) (ex:PySem.W.excIn K C bmB newId=true) (FB:ExcBaseFacts B newId initId bmB):
  FnOk P w K mg base (CX1 P w C) 1 f fd ["inside"] (oP C):=by
 refine F.ok1 scUnbr (fun vs H Q E h=>?_) (fun cdv A outer s H vs Q E hr h=>?_)
 ·obtain ⟨l,ws,ps,rfl,_⟩:=h
  rfl
 obtain ⟨l,ws,ps,rfl,hl,hP,hlen,q,qe⟩:=h
 have hu:=sF hr
 refine ⟨_,af (kr PassesOwn.leaving rfl (nh (bO (v:=.ref aM) rfl mM rfl)) (kw rfl (cZ (bZ (i:=1) scUnbr.nd rfl (Or.inl rfl)) (cZ (bZ (i:=2) scUnbr.nd rfl (Or.inl rfl)) iH)))
   (ak (aV (aA (rJ hu) (bo dP rfl G.tuple (by decide +kernel) (aa (jp (pv 0) (bt ae) ae) ad)) (pv 2) (aB _))
    (ak (ar (am pO (bp (aa (pv 1) ad)) (bo dP rfl G.tuple (by decide +kernel) (aa (jp (pv 0) bu ae) ad))))) aE)))
  (ak (fh (E:=E) rfl rfl hC ex FB (fun pins Z H s h' y vs I m q=>fu I m q) (aa ao ad))),?_⟩
 refine ⟨aM,ks,rfl,M.it,?_⟩
 refine k8 (fun i Z H'=> ∃ o1 o2,Z=[some (.ref l),o1,o2]/\Same H H'/\cC ps MK=cC ps (MK.drop i)) ⟨none,none,rfl,Same.refl H,rfl⟩ ?_ ?_
 ·rintro i k a T Z H1 hk hT ⟨o1,o2,rfl,s1,he⟩
  obtain ⟨⟨k',ms⟩,hm,ek,hms⟩:=dH M.pr hk
  have ek:k'=k:=ek
  subst ek
  have hmem:=List.mem_of_getElem? hm
  obtain ⟨mk1,mk2⟩:=va hmem
  rw [iP hm]at he
  have he:cC ps MK=if cA (gu ps) ms=true then some (.node k' (eN ps))else cC ps (MK.drop (i+1)):=he
  have s2:=ai hT (.tup [.str k',.ref a])
  have g2:(upd H1 T (.tup [.str k',.ref a])) T=some (.tup [.str k',.ref a]):=ac
  generalize upd H1 T (.tup [.str k',.ref a])=H2 at s2 g2 ⊢
  have S2:=s1.trans s2
  refine ⟨T,_,rfl,SqT.of g2,rfl,_,_,rfl,_,_,rfl,rfl,?_⟩
  refine ⟨_,rfl,_,rfl,l,ws,2,rfl,rfl,SqL.of (S2 _ _ hl),by decide,fun p3 hp3=>?_⟩
  rw [oJ]
  have s3:=ai hp3 (.lst (odL ws))
  have g3:(upd H2 p3 (.lst (odL ws))) p3=some (.lst (odL ws)):=ac
  generalize upd H2 p3 (.lst (odL ws))=H3 at s3 g3 ⊢
  refine ⟨p3,odL ws,rfl,.inl ⟨SqL.of g3,fun p4 hp4=>?_⟩⟩
  have s4:=ai hp4 (.tup (odL ws))
  have g4:(upd H3 p4 (.tup (odL ws))) p4=some (.tup (odL ws)):=ac
  generalize upd H3 p4 (.tup (odL ws))=H4 at s4 g4 ⊢
  have S4:=S2.trans (s3.trans s4)
  have hP4:Paired (RepX H4) ps ws:=Paired.mapP hP fun _ _ r=>RepX.mono (bV S4) r
  refine ⟨_,rfl,p4,a,odL ws,ms,rfl,rfl,SqT.of g4,fun x hx=>?_,hms H4,_,rfl,?_⟩
  ·obtain ⟨j,hj⟩:=List.getElem?_of_mem (pZ hx)
   obtain ⟨p,_,hr⟩:=dH hP4 hj
   exact hr.txtTup
  rw [io ms (gZ hP4)]
  refine aZ (fun c=>?_) (fun c=>?_)
  ·rw [if_pos c]at he
   refine ⟨_,rfl,(by show 1<=sizeLine;decide),fun p5 hp5=>?_⟩
   have s5:=ai hp5 (.tup [.str k'])
   have g5:(upd H4 p5 (.tup [.str k'])) p5=some (.tup [.str k']):=ac
   generalize upd H4 p5 (.tup [.str k'])=H5 at s5 g5 ⊢
   have S5:=S4.trans s5
   refine ⟨_,rfl,l,ws,2,rfl,rfl,SqL.of (S5 _ _ hl),by decide,fun p6 hp6=>?_⟩
   rw [oK]
   have s6:=ai hp6 (.lst (evL ws))
   have g6:(upd H5 p6 (.lst (evL ws))) p6=some (.lst (evL ws)):=ac
   generalize upd H5 p6 (.lst (evL ws))=H6 at s6 g6 ⊢
   refine ⟨p6,evL ws,rfl,.inl ⟨SqL.of g6,fun p7 hp7=>?_⟩⟩
   have s7:=ai hp7 (.tup (evL ws))
   have g7:(upd H6 p7 (.tup (evL ws))) p7=some (.tup (evL ws)):=ac
   generalize upd H6 p7 (.tup (evL ws))=H7 at s7 g7 ⊢
   have S7:=S5.trans (s6.trans s7)
   have g57:=s7 _ _ (s6 _ _ g5)
   have hel:=qy ws
   have fin: ∀ (r:Addr) (H':Hp),Same H7 H'->H' r=some (.tup (.str k'::evL ws))->Q (.ref r) H':=fun r H' s' hr'=>by
    have S':=S7.trans s'
    have hev:Paired (RepX H') (eN ps) (evL ws):=hG (Paired.mapP hP fun _ _ r=>RepX.mono (bV S') r)
    obtain ⟨n,hn⟩:=jg hev
    exact q _ _ H' he S' ⟨n+1,r,evL ws,rfl,hr',mk2,mk1,by omega,hn⟩
   refine ⟨p5,p7,_,_,rfl,rfl,SqT.of g57,SqT.of g7,?_,fun e=>(by cases e),fun _ e=>?_,fun _ _ p8 hp8=>?_⟩
   ·show 1+ (evL ws).length<=sizeLine
    exact Nat.le_of_lt (aU (by omega))
   ·exact fin p5 H7 (Same.refl H7) (by rw [g57,e])
   ·exact fin p8 _ (ai hp8 _) ac
  ·rw [if_neg c]at he
   exact ⟨_,_,rfl,S4,he⟩
 ·rintro Z H1 ⟨o1,o2,rfl,s1,he⟩
  have hl2:ks.length=MK.length:=(Paired.length M.pr).symm
  rw [hl2,List.drop_length]at he
  exact ⟨(by show 1<=sizeLine;decide),qe he H1 s1⟩
theorem scCloseB:au ["pile","inside"] ["pile"] (ag iE):=fsc
noncomputable def lH (C:Addr):Sp:=fun vs H Q E=> ∃ l ws ps,vs=[.ref l]/\H l=some (.lst ws)/\Paired (RepX H) ps ws/\ws.length<=1500/\
 (∀ pile ws' H',cr ps.reverse=some pile->Kp l H H'->H' l=some (.lst ws')->Paired (RepX H') pile.reverse ws'->Q .non H')/\(cr ps.reverse=none-> ∀ H',Kp l H H'->E (.ref C) none H')
theorem jZ {α:Type} {f:α->Bool}: ∀ {a b:List α},(∀ x∈a,f x=true)->(b=[]\/ ∃ x r,b=x::r/\f x=false)->(a++b).takeWhile f=a/\(a++b).dropWhile f=b
 | [],_,_,.inl e=>by rw [e];exact ⟨rfl,rfl⟩
 | [],_,_,.inr ⟨x,r,e,h⟩=>by
  rw [e,List.nil_append,List.takeWhile_cons,List.dropWhile_cons,h]
  exact ⟨rfl,rfl⟩
 | x::a,b,h,hb=>by
  obtain ⟨h1,h2⟩:=jZ (fun y hy=>h y (List.mem_cons_of_mem _ hy)) hb
  rw [List.cons_append,List.takeWhile_cons,List.dropWhile_cons,h x List.mem_cons_self]
  exact ⟨congrArg (x:: ·) h1,h2⟩
theorem dl {α β:Type} {F:α->β->Prop} {l:List α} {r:List β} {b:β} (h:Paired F l (r++[b])): ∃ l' a,l=l'++[a]/\Paired F l' r/\F a b:=by
 induction r generalizing l with
 | nil=>
  cases h with
  | cons h t=>cases t;exact ⟨[],_,rfl,.nil,h⟩
 | cons x r ih=>
  cases h with
  | cons h t=>
   obtain ⟨l',a,rfl,h1,h2⟩:=ih t
   exact ⟨_::l',a,rfl,.cons h h1,h2⟩
theorem kA {α β:Type} {F:α->β->Prop} {l:List α} {r:List β} (h:Paired F l r):Paired F l.reverse r.reverse:=by
 induction h with
 | nil=>exact .nil
 | cons h _ ih=>rw [List.reverse_cons,List.reverse_cons];exact Paired.snoc ih h
theorem nB {B newId initId:String} {bmB:List Value} (F:Fun K "close_bracket" "close_bracket" iE f fd) (hC:mg "NoText"=some (.ref C)) (ex:PySem.W.excIn K C bmB newId=true) (FB:ExcBaseFacts B newId initId bmB)
  (GU:FnOk P w K mg base (CX1 P w C) 1 g gd ["inside"] (oP C)) (bU:Binds K gd ["inside"] []) (kU:PySem.W.keepIn K (.ref g)=true) (mU:mg "unbracketed"=some (.ref g)):
  FnOk P w K mg base (CX1 P w C) 2 f fd ["pile"] (lH C):=by
 refine F.ok1 scCloseB (fun vs H Q E h=>?_) (fun cdv A outer s H vs Q E hr h=>?_)
 ·obtain ⟨l,ws,ps,rfl,_⟩:=h
  rfl
 obtain ⟨l,ws,ps,rfl,hl,hP,hlen,q,qe⟩:=h
 refine ⟨_,af (av (i:=1) scCloseB.nd rfl (Or.inl rfl) (bq ad))
  (af (eB PassesOwn.leaving (PW.pt (kq (dv (pv 0) (fun _=>rfl)) (iF (aA (tV hr.units0) (aF aJ (pv 0) (jo fU ae) (fun _ _=>rfl)) ao (aB _)))))
   (ak (bY (dk PySem.F.plainAttrs_list PySem.F.slot_list_append PySem.F.type_list_append bw (pv 1) (aa (fi PySem.F.plainAttrs_list PySem.F.slot_list_pop PySem.F.type_list_pop fj (pv 0)) ad)))))
  (af (aV (dw (dv (pv 0) (fun _=>rfl))) (ak (fh (E:=E) rfl rfl hC ex FB (fun pins Z H s h' y vs I m q=>fu I m q) (aa ao ad))) aE)
  (af (bY (fi PySem.F.plainAttrs_list PySem.F.slot_list_pop PySem.F.type_list_pop fj (pv 0)))
  (ak (bY (dk PySem.F.plainAttrs_list PySem.F.slot_list_append PySem.F.type_list_append bw (pv 0) (aa (aq GU hr rfl mU kU bU .nil sC (aa (lM (pv 1) (jo fU ae)) ad)) ad))))))),?_⟩
 refine ⟨(by show 0<=sizeLine;decide),fun il hil=>?_⟩
 have nil0:il≠l:=fun e=>by rw [e,hl]at hil;cases hil
 have s1:=ai hil (.lst [])
 have g1:(upd H il (.lst [])) il=some (.lst []):=ac
 have hl1:=s1 _ _ hl
 generalize upd H il (.lst [])=H1 at s1 g1 hl1 ⊢
 have kp1:Kp l H H1:=fun b o h _=>s1 b o h
 refine ee (fun Z H'=> ∃ ws1 ws2 taken rest,Z=[some (.ref l),some (.ref il)]/\Kp l H H'/\H' l=some (.lst ws1)/\H' il=some (.lst ws2)/\ps.reverse=taken++rest/\(∀ p∈taken,(!isOpen p)=true)/\Paired (RepX H') rest.reverse ws1/\Paired (RepX H') taken ws2/\ws1.length+ws2.length<=1500)
  (fun _ H'=>match H' l with | some (.lst ws1)=>ws1.length | _=>0) ⟨ws,[],[],ps.reverse,rfl,kp1,hl1,g1,rfl,(fun _ z=>by cases z),(by rw [List.reverse_reverse];exact Paired.mapP hP fun _ _ r=>RepX.mono (bV s1) r),Paired.nil,by simpa using hlen⟩ ?_ ?_
 ·rintro Z H2 ⟨ws1,ws2,taken,rest,rfl,kp2,hl2,gi2,hsp,htk,hP1,hP2,hln⟩
  have htkH:TK H H2:=fun b xs e=>kp2 b _ e (fun z=>by rw [z,hl]at e;cases e)
  rcases List.eq_nil_or_concat ws1 with hz | ⟨ws1',x,hz⟩
  ·subst hz
   refine vv false (fun Q' hQ=>⟨_,rfl,_,.inl ⟨[],SqL.of hl2,rfl⟩,bJ hQ⟩) (bJ ?_)
   have hrest:rest=[]:=by
    have:=Paired.length hP1
    rw [List.length_reverse]at this
    exact List.length_eq_zero_iff.mp this
   refine ⟨_,rfl,_,.inl ⟨[],SqL.of hl2,rfl⟩,cL ?_⟩
   refine ⟨(by show 1<=sizeLine;decide),qe ?_ H2 kp2⟩
   unfold cr
   rw [hsp,hrest,(jZ htk (.inl rfl)).2]
  ·rw [List.concat_eq_append]at hz
   subst hz
   obtain ⟨lp,p,e1,hP3,hpx⟩:=dl hP1
   have e1':rest=p::lp.reverse:=by
    have:=congrArg List.reverse e1
    rw [List.reverse_reverse,List.reverse_append]at this
    exact this
   have hne:(ws1'++[x])≠[]:=by simp
   have htru:(!(ws1'++[x]).isEmpty)=true:=by simp
   refine vv (!isOpen p) (fun Q' hQ=>?_) ?_
   ·refine ⟨_,rfl,_,.inl ⟨_,SqL.of hl2,rfl⟩,?_⟩
    refine aZ (fun _=>?_) (fun c=>absurd (by simp) c)
    refine ⟨_,rfl,_,rfl,l,_,_,x,rfl,rfl,SqL.of hl2,qF _ _,_,rfl,hpx.txtTup,_,rfl,?_⟩
    rw [hpx.isOpen]
    exact hQ
   refine aZ (fun c=>?_) (fun c=>?_)
   ·refine ⟨_,rfl,.inl ⟨rfl,_,SqL.of gi2⟩,_,rfl,.inl ⟨rfl,_,SqL.of hl2⟩,l,_,x,rfl,rfl,hl2,by simp,?_⟩
    rw [List.dropLast_concat]
    have tk3:TK H2 (upd H2 l (.lst ws1')):=TK.lst hl2
    have gl3:(upd H2 l (.lst ws1')) l=some (.lst ws1'):=ac
    have gi3:(upd H2 l (.lst ws1')) il=some (.lst ws2):=by rw [ah nil0];exact gi2
    have kp3:Kp l H (upd H2 l (.lst ws1')):=fun b o h n=>by rw [ah n];exact kp2 b o h n
    generalize upd H2 l (.lst ws1')=H3 at tk3 gl3 gi3 kp3 ⊢
    have tk4:TK H3 (upd H3 il (.lst (ws2++[x]))):=TK.lst gi3
    have hl':ws1'.length+1+ws2.length<=1500:=by simpa using hln
    refine ⟨il,ws2,x,rfl,rfl,gi3,aU (by omega),⟨ws1',ws2++[x],taken++[p],lp.reverse,rfl,fun b o h n=>?_,?_,ac,?_,fun y hy=>?_,?_,?_,?_⟩,?_⟩
    ·rw [ah (aj h hil)];exact kp3 b o h n
    ·rw [ah (Ne.symm nil0)];exact gl3
    ·rw [hsp,e1',List.append_assoc];rfl
    ·rcases List.mem_append.mp hy with z | z
     ·exact htk y z
     ·rw [List.mem_singleton.mp z];exact c
    ·rw [List.reverse_reverse];exact Paired.mapP hP3 fun _ _ r=>RepX.mono (tk3.trans tk4) r
    ·exact Paired.snoc (Paired.mapP hP2 fun _ _ r=>RepX.mono (tk3.trans tk4) r) (hpx.mono (tk3.trans tk4))
    ·rw [List.length_append];show ws1'.length+ (ws2.length+1)<=1500;omega
    ·show (match (upd H3 il (.lst (ws2++[x]))) l with | some (.lst ws1)=>ws1.length | _=>0) < (match H2 l with | some (.lst ws1)=>ws1.length | _=>0)
     rw [ah (Ne.symm nil0),gl3,hl2]
     show ws1'.length< (ws1'++[x]).length
     rw [List.length_append];exact Nat.lt_succ_self _
   ·have hop:isOpen p=true:=by
     cases hh:isOpen p with
     | true=>rfl
     | false=>rw [hh]at c;exact absurd rfl c
    have hdw:=jZ (f:=fun p=> !isOpen p) htk (b:=rest) (.inr ⟨p,lp.reverse,e1',by rw [hop];rfl⟩)
    have hcl:cr ps.reverse=(cC taken.reverse MK).map (· ::lp.reverse):=by
     unfold cr
     rw [hsp,hdw.1,hdw.2,e1']
    refine ⟨_,rfl,_,.inl ⟨_,SqL.of hl2,rfl⟩,?_⟩
    refine aZ (fun c=>absurd c (by simp)) (fun _=>?_)
    refine ⟨_,rfl,.inl ⟨rfl,_,SqL.of hl2⟩,l,_,x,rfl,rfl,hl2,by simp,?_⟩
    rw [List.dropLast_concat]
    have tk3:TK H2 (upd H2 l (.lst ws1')):=TK.lst hl2
    have gl3:(upd H2 l (.lst ws1')) l=some (.lst ws1'):=ac
    have gi3:(upd H2 l (.lst ws1')) il=some (.lst ws2):=by rw [ah nil0];exact gi2
    have kp3:Kp l H (upd H2 l (.lst ws1')):=fun b o h n=>by rw [ah n];exact kp2 b o h n
    generalize upd H2 l (.lst ws1')=H3 at tk3 gl3 gi3 kp3 ⊢
    have hl':ws1'.length+1+ws2.length<=1500:=by simpa using hln
    refine ⟨_,rfl,.inl ⟨rfl,_,SqL.of gl3⟩,_,rfl,_,rfl,il,ws2,-1,rfl,rfl,SqL.of gi3,by decide,fun p4 hp4=>?_⟩
    rw [gU]
    have s4:=ai hp4 (.lst ws2.reverse)
    have g4:(upd H3 p4 (.lst ws2.reverse)) p4=some (.lst ws2.reverse):=ac
    generalize upd H3 p4 (.lst ws2.reverse)=H4 at s4 g4 ⊢
    refine ⟨p4,ws2.reverse,taken.reverse,rfl,g4,kA (Paired.mapP hP2 fun _ _ r=>RepX.mono (tk3.trans (bV s4)) r),by rw [List.length_reverse];omega,fun pn v H5 hu s5 hv=>?_,fun hu H5 s5=>?_⟩
    ·have S5:=s4.trans s5
     have gl5:=S5 _ _ gl3
     have tk6:TK H5 (upd H5 l (.lst (ws1'++[v]))):=TK.lst gl5
     refine ⟨l,ws1',v,rfl,rfl,gl5,aU (by omega),?_⟩
     refine q (pn::lp.reverse) (ws1'++[v]) _ (by rw [hcl,hu];rfl) (fun b o h n=>?_) ac ?_
     ·rw [ah n];exact S5 _ _ (kp3 b o h n)
     ·rw [List.reverse_cons,List.reverse_reverse]
      exact Paired.snoc (Paired.mapP hP3 fun _ _ r=>RepX.mono ((tk3.trans (bV S5)).trans tk6) r) (hv.mono tk6)
    ·exact qe (by rw [hcl,hu];rfl) H5 (fun b o h n=>s5 _ _ (s4 _ _ (kp3 b o h n)))
 ·rintro Z H' Q1 Q2 hq ⟨v1,e1,k,e2,h⟩
  refine ⟨v1,e1,k,e2,?_⟩
  by_cases c:k=true
  ·rw [if_pos c]at h ⊢
   obtain ⟨v3,e7,i0,e8,a,xs,i3,y,e9,e10,e11,e12,z,e13,e14,k2,e15,h⟩:=h
   exact ⟨v3,e7,i0,e8,a,xs,i3,y,e9,e10,e11,e12,z,e13,e14,k2,e15,hq _ _ h⟩
  ·rw [if_neg c]at h ⊢
   exact hq _ _ h
end My
namespace L2
open PySem PySem.Spec PyProof.Rows
section
variable {X:Cx}
noncomputable def PIt (X:Cx) (tg iter:Expr) (wi:TI):Prop:=
 ∀ (pins:List (Addr×Obj)) (s:Shared) (Z:St) (H:Hp) (R:It->Hp->Prop),0<s.toks->Inv X pins Z H s->wi Z H R->
  wpAny (model X.prog X.w) X.A (eval iter X.env) (fun v s1=>wpAny (model X.prog X.w) X.A (pyIter v) (PIE X pins Z tg R) X.xe s1) X.xe s
theorem pz {tg l:Expr} {tl:TE} (hl:PEt X l tl):PIt X tg l (sE X.K tl):=by
 intro pins s Z H R hk I h
 refine thn (hl pins s Z H _ hk I h) fun v s1 ⟨x,H1,I1,r1,q1⟩=>?_
 obtain ⟨a,e,⟨xs,hq⟩,q⟩:=q1
 subst e
 cases r1
 obtain ⟨its,rv,p,hz⟩:=I1.list hq
 refine wpAny_pyIter_list p.isList ?_
 refine ⟨s1.heap.objs.size,[s1.heap.objs.size],_,_,H1,rfl,I1.kept (t':=s1.toks) fun b o e=>Heap.get?_push_of_some _ e,gS a _,⟨_,Heap.get?_push_size _ rfl,rfl,rfl⟩,fun b hb=>?_,q⟩
 have e:b=s1.heap.objs.size:=by simpa using hb
 subst e
 exact I1.fpOk (Nat.le_refl _) (I1.hok.fresh (Nat.le_refl _))
theorem rj {tg iter:Expr} {body:List Stmt} {wi:TI} {g:TG} {tb:TS} {pos:Pos} (hp:PassesOwn (model X.prog X.w) X.A X.env X.xe) (hc:X.calm=true) (hi:PIt X tg iter wi) (hg:PG X tg g) (hb:PSs X body tb)
  (hs: ∀ x,foldedSetIterable iter X.env x=pure x:=by intro _;rfl):PSt X (.For tg iter body [] pos) (qQ wi g tb):=by
 intro pins s Z H D hk I h
 refine wpAny_For (thn (hi pins s Z H _ hk I h) fun v s1 h1=>thn h1 fun itv s2 h2=>?_) hs
 obtain ⟨it,fp,tn,J,H2,e,I2,T,st2,f2,W,⟨m0,w0⟩,turn⟩:=h2
 subst e
 have stat: ∀ {H':Hp},(∀ b∈fp,H' b=none)-> ∀ b∈fp,eS X pins H' b:=fun hn b hb=>⟨hn b hb,(f2 b hb).2⟩
 refine codeAny_forLoop_any (fun n s'=> ∃ i Z' H',Inv X pins Z' H' s'/\tn i s'.heap/\(∀ b∈fp,H' b=none)/\W i n Z' H') ?_ m0 ⟨0,Z,H2,I2,st2,fun b hb=>(f2 b hb).1,w0⟩
 rintro n s3 ⟨i,Z3,H3,I3,st3,fr3,w3⟩
 rcases turn i n Z3 H3 w3 with ⟨stop,qn⟩ | ⟨go,N,hN,step⟩
 ·refine wpAny_passesOwn hp (thn (T.done X rfl rfl rfl hc i pins s3 Z3 H3 X.xe I3 (stat fr3) st3 stop) fun r s4 ⟨hr,I4⟩=>?_)
  subst hr
  exact wpAny_execs_nil ⟨Z3,H3,I4,qn⟩
 ·refine wpAny_passesOwn hp (thn (T.item X rfl rfl rfl hc i pins s3 Z3 H3 X.xe I3 (stat fr3) st3 go) fun r s4 ⟨u,hr,h4⟩=>?_)
  subst hr
  refine wpAny_passesOwn hp (thn h4 fun _ s5 ⟨x,H5,I5,r5,y5,st5,fr5⟩=>?_)
  have I5':=I5.pinned (stat fr5) (T.obj _ _ st5)
  refine wpAny_passesOwn hp (thn (hg _ s5 Z3 H5 x u _ I5' r5 (step x H5 y5)) fun _ s6 ⟨Z6,H6,I6,q6⟩=>?_)
  refine wpAny_passesOwn hp (thn (hb _ s6 Z6 H6 _ I6 q6) fun f s7 q7=>?_)
  have again: ∀ {Z7:St} {H7:Hp},Inv X (pins++dU fp s5.heap) Z7 H7 s7->N Z7 H7-> ∃ m,m<n/\ ∃ i Z' H',Inv X pins Z' H' s7/\tn i s7.heap/\(∀ b∈fp,H' b=none)/\W i m Z' H':=fun {Z7 H7} I7 n7=>by
   obtain ⟨m',hm,w7⟩:=hN Z7 H7 n7
   refine ⟨m',hm,i+1,Z7,H7,I7.unpinned,T.keep _ _ _ st5 fun b hb o e=>(I7.pin (b,o) (List.mem_append_right _ (List.mem_append_right _ (aY hb e)))).1,fun b hb=>?_,w7⟩
   obtain ⟨o,e,d⟩:=T.obj _ _ st5 b hb
   exact (I7.pin (b,o) (List.mem_append_right _ (List.mem_append_right _ (aY hb e)))).2.1
  cases f with
  | next=>obtain ⟨Z7,H7,I7,n7⟩:=q7;exact again I7 n7
  | cont=>obtain ⟨Z7,H7,I7,n7⟩:=q7;exact again I7 n7
  | brk=>obtain ⟨Z7,H7,I7,q7⟩:=q7;exact ⟨Z7,H7,I7.unpinned,q7⟩
  | ret v=>obtain ⟨x7,Z7,H7,I7,r7,q7⟩:=q7;exact ⟨x7,Z7,H7,I7.unpinned,r7,q7⟩
end
end L2
namespace My
open PySem L2
theorem sA {H:Hp} {p:Pt} {v:V}:RepX H p v->Sh H v
 | ⟨0,h⟩=>h.elim
 | ⟨n+1,h⟩=>by
  cases p with
  | w s=>rw [h.1];exact h.2
  | num k=>obtain ⟨a,e,h⟩:=h;rw [e];exact .inr (.inl ⟨_,h⟩)
  | own s=>obtain ⟨a,e,h,_⟩:=h;rw [e];exact .inr (.inl ⟨_,h⟩)
  | part k s=>obtain ⟨a,e,h,_⟩:=h;rw [e];exact .inr (.inl ⟨_,h⟩)
  | node k items=>obtain ⟨a,vs,e,h,_⟩:=h;rw [e];exact .inr (.inl ⟨_,h⟩)
theorem kE {α β:Type} {F:α->β->Prop} {l:List α} {r:List β} (h:Paired F l r): ∀ y∈r,∃ x,x∈l/\F x y:=by
 intro y hy
 obtain ⟨i,hi⟩:=List.getElem?_of_mem hy
 obtain ⟨x,hx,hF⟩:=dH h hi
 exact ⟨x,List.mem_of_getElem? hx,hF⟩
theorem num_len:("num":Str).length<=2000/\("own":Str).length<=2000/\("part":Str).length<=2000:=by decide +kernel
theorem uz {H:Hp} {p:Pt} {v:V} (hR:RepX H p v):Ask H v:=by
 refine ⟨sA hR,fun b ys eb h'=>?_⟩
 obtain ⟨n,h⟩:=hR
 cases n with
 | zero=>exact h.elim
 | succ n=>
  cases p with
  | w s=>rw [h.1]at eb;cases eb
  | num k=>
   obtain ⟨a,e,h⟩:=h
   rw [e]at eb;cases eb
   rw [h]at h';cases h'
   refine ⟨by simp,fun x hx=>?_⟩
   simp only [List.mem_cons,List.not_mem_nil,or_false]at hx
   rcases hx with rfl | rfl
   ·exact num_len.1
   ·trivial
  | own s=>
   obtain ⟨a,e,h,hl⟩:=h
   rw [e]at eb;cases eb
   rw [h]at h';cases h'
   refine ⟨by simp,fun x hx=>?_⟩
   simp only [List.mem_cons,List.not_mem_nil,or_false]at hx
   rcases hx with rfl | rfl
   ·exact num_len.2.1
   ·exact hl
  | part k s=>
   obtain ⟨a,e,h,hl⟩:=h
   rw [e]at eb;cases eb
   rw [h]at h';cases h'
   refine ⟨by simp,fun x hx=>?_⟩
   simp only [List.mem_cons,List.not_mem_nil,or_false]at hx
   rcases hx with rfl | rfl | rfl
   ·exact num_len.2.2
   ·trivial
   ·exact hl
  | node k items=>
   obtain ⟨a,vs,e,h,l1,l2,l3,hp⟩:=h
   rw [e]at eb;cases eb
   rw [h]at h';cases h'
   refine ⟨by rw [List.length_cons];omega,fun x hx=>?_⟩
   rcases List.mem_cons.mp hx with rfl | hx
   ·exact Nat.le_trans l1 (by decide:1000<=2000)
   ·obtain ⟨q,_,hq⟩:=kE hp x hx
    exact sA ⟨_,hq⟩
theorem si {H:Hp} {p:Pt} {v:V} (hR:RepX H p v):dm H v=fF p:=by
 obtain ⟨n,h⟩:=hR
 cases n with
 | zero=>exact h.elim
 | succ n=>
  cases p with
  | w s=>rw [h.1];rfl
  | num k=>
   obtain ⟨a,rfl,h⟩:=h
   rw [c6 h]
   simp only [cI,ft,if_true]
   rfl
  | own s=>
   obtain ⟨a,rfl,h,_⟩:=h
   rw [c6 h]
   simp only [cI,fq]
   rw [if_neg (by decide +kernel),if_pos True.intro]
   rfl
  | part k s=>
   obtain ⟨a,rfl,h,_⟩:=h
   rw [c6 h]
   simp only [cI,dY]
   rw [if_neg (by decide +kernel),if_neg (by decide +kernel),if_pos True.intro]
   rfl
  | node k items=>
   obtain ⟨a,vs,rfl,h,_,l2,_,hp⟩:=h
   rw [c6 h]
   obtain ⟨m,hm⟩:=Option.isSome_iff_exists.mp l2
   simp only [cI,hm,fF]
   rw [<- Paired.length hp]
   exact decide_eq_decide.mpr ⟨fun e=>by rw [e],fun e=>(Option.some.inj e).symm⟩
theorem uh {H:Hp} {p:Pt} {v:V} (hR:RepX H p v) (hh:fF p=true): ∃ a k r,v=.ref a/\H a=some (.tup (.str k::r))/\r.length<=1000/\Paired (RepX H) (nO p) (bz (.str k::r))/\(bz (.str k::r)).length<=900:=by
 obtain ⟨n,h⟩:=hR
 cases n with
 | zero=>exact h.elim
 | succ n=>
  cases p with
  | w s=>cases hh
  | num k=>
   obtain ⟨a,rfl,h⟩:=h
   refine ⟨a,_,_,rfl,h,by simp,?_⟩
   simp only [bz,ft]
   exact ⟨.nil,by simp⟩
  | own s=>
   obtain ⟨a,rfl,h,_⟩:=h
   refine ⟨a,_,_,rfl,h,by simp,?_⟩
   simp only [bz,fq]
   exact ⟨.nil,by simp⟩
  | part k s=>
   obtain ⟨a,rfl,h,_⟩:=h
   refine ⟨a,_,_,rfl,h,by simp,?_⟩
   simp only [bz,dY]
   exact ⟨.nil,by simp⟩
  | node k items=>
   obtain ⟨a,vs,rfl,h,_,l2,l3,hp⟩:=h
   refine ⟨a,_,_,rfl,h,by omega,?_⟩
   simp only [bz,l2,if_true]
   exact ⟨Paired.mapP hp fun _ _ r=>⟨n,r⟩,l3⟩
theorem jr {α β:Type} {F:α->β->Prop} {a c:List α} {b d:List β} (h:Paired F a b) (k:Paired F c d):Paired F (a++c) (b++d):=by
 induction h with
 | nil=>exact k
 | cons h _ ih=>exact .cons h ih
theorem cW {H:Hp}: ∀ (f:Fm) {v:V},RepX H (pt f) v->Rep H f v
 | .num _,_,⟨0,h⟩=>h.elim
 | .own _,_,⟨0,h⟩=>h.elim
 | .part _ _,_,⟨0,h⟩=>h.elim
 | .bin _ _ _,_,⟨0,h⟩=>h.elim
 | .whn _ _ _,_,⟨0,h⟩=>h.elim
 | .num _,_,⟨_+1,h⟩=>h
 | .own _,_,⟨_+1,a,e,h,_⟩=>⟨a,e,h⟩
 | .part _ _,_,⟨_+1,a,e,h,_⟩=>⟨a,e,h⟩
 | .bin op A B,_,⟨n+1,a,vs,e,h,_,_,_,hp⟩=>by
  match vs,hp with
  | [u,w],.cons h1 (.cons h2 .nil)=>exact ⟨a,u,w,e,h,cW A ⟨n,h1⟩,cW B ⟨n,h2⟩⟩
 | .whn A B C,_,⟨n+1,a,vs,e,h,_,_,_,hp⟩=>by
  match vs,hp with
  | [u,w,z],.cons h1 (.cons h2 (.cons h3 .nil))=>exact ⟨a,u,w,z,e,h,cW A ⟨n,h1⟩,cW B ⟨n,h2⟩,cW C ⟨n,h3⟩⟩
noncomputable def lG:Sp:=fun vs H Q _=> ∃ v p,vs=[v]/\RepX H p v/\ ∀ H',Same H H'->Q (.bl (isF 15 [p])) H'
theorem scFormP:au ["thing","waiting","seen","one"] ["thing"] (ag pe):=fsc
theorem pX (F:Fun K "is_formula" "is_formula" pe f fd) {tT:Tok} (mT:mg "MOST_TUPLES"=some (.int 15 tT))
  (GH:FnOk P w K mg base CX0 3 g gd ["thing"] oU) (bH:Binds K gd ["thing"] []) (kH:PySem.W.keepIn K (.ref g)=true) (mH:mg "is_head"=some (.ref g))
  (GI:FnOk P w K mg base CX0 1 f2 fd2 ["formula"] fL) (bI:Binds K fd2 ["formula"] []) (kI:PySem.W.keepIn K (.ref f2)=true) (mI:mg "inner_of"=some (.ref f2)):
  FnOk P w K mg base CX0 4 f fd ["thing"] lG:=by
 refine F.ok scFormP (fun vs H Q E h=>?_) (fun cdv A outer s H vs Q E hr h=>?_)
 ·obtain ⟨v,p,rfl,_⟩:=h
  rfl
 obtain ⟨v,p,rfl,hR,q⟩:=h
 have hr1:=hr.mono (show 1<=3 by decide)
 refine ⟨_,af (av (i:=1) scFormP.nd rfl (Or.inl rfl) (bq (aa (pv 0) ad)))
  (af (av (i:=2) scFormP.nd rfl (Or.inl rfl) ae)
  (af (eB PassesOwn.never (dv (pv 1) (fun _=>rfl))
   (af (av (i:=3) scFormP.nd rfl (Or.inl rfl) (fi PySem.F.plainAttrs_list PySem.F.slot_list_pop PySem.F.type_list_pop fj (pv 1)))
   (af (aV (PW.pt (ji (aA bh (pv 2) (bO (v:=.int 15) rfl mT ⟨_,rfl⟩) (aB _)) (gh (dw (cO (aq GH hr rfl mH kH bH .nil aL (aa (pv 3) ad))))))) (ak (ar dL)) aE)
   (af (tI (i:=2) scFormP.nd rfl (Or.inl rfl) ae ug)
   (ak (bY (dk PySem.F.plainAttrs_list PySem.F.slot_list_extend PySem.F.type_list_extend lV (pv 1) (aa (aq GI hr1 rfl mI kI bI .nil aL (aa (pv 3) ad)) ad))))))))
  (ak (ar dL)))),?_⟩
 refine ⟨_,rfl,(by show 1<=sizeLine;decide),fun l hl=>?_⟩
 dsimp only [oE,mw,eK,tC]
 refine ee (fun Z H'=> ∃ (ws:List V) (n:Nat) (o:Option V) (its:List Pt),Z=[some v,some (.ref l),some (.int n),o]/\H' l=some (.lst ws)/\Same H H'/\n<=15/\ws.length<=1+900*n/\Paired (RepX H) its ws/\isF 15 [p]=isF (15-n) its.reverse)
  (fun Z _=>match Z with | [_,_,some (.int n),_]=>15-n.toNat | _=>0) ⟨[v],0,none,[p],rfl,ac,ai hl _,Nat.zero_le _,by simp,.cons hR .nil,rfl⟩ ?_ ?_
 ·rintro Z H' ⟨ws,n,o,its,rfl,hw,sm,hn,hlen,hP,heq⟩
  refine ⟨_,rfl,_,.inl ⟨ws,SqL.of hw,rfl⟩,?_⟩
  rcases List.eq_nil_or_concat ws with hz | ⟨ws',x,hz⟩
  ·subst hz
   refine bJ ?_
   cases hP
   have eb:isF 15 [p]=true:=by rw [heq];cases 15-n <;> rfl
   rw [eb]at q
   exact q H' sm
  ·rw [List.concat_eq_append]at hz
   subst hz
   have ne:(!(ws'++[x]).isEmpty)=true:=by cases ws' <;> rfl
   refine aZ (fun _=>?_) (fun c=>absurd ne c)
   obtain ⟨its',p1,rfl,hP',hx⟩:=dl hP
   rw [List.reverse_append]at heq
   have heq:isF 15 [p]=isF (15-n) (p1::its'.reverse):=heq
   refine ⟨_,rfl,.inl ⟨rfl,_,SqL.of hw⟩,l,_,x,rfl,rfl,hw,by simp,?_⟩
   rw [List.dropLast_concat]
   have lne: ∀ {c:Addr} {oo:HO},H c=some oo->c≠l:=fun h=>aj h hl
   have sm1:Same H (upd H' l (.lst ws')):=fun c oo h=>by rw [ah (lne h)];exact sm c oo h
   refine ⟨_,rfl,rfl,_,rfl,?_⟩
   refine aZ (fun c=>?_) (fun c=>?_)
   ·refine cL ?_
    have e15:n=15:=by have:=of_decide_eq_true c;injection this with this;omega
    subst e15
    have eb:isF 15 [p]=false:=heq
    rw [eb]at q
    exact q _ sm1
   ·have hn':n<15:=by
     rcases Nat.lt_or_ge n 15 with z | z
     ·exact z
     ·have:n=15:=by omega
      subst this
      exact absurd (decide_eq_true rfl) c
    obtain ⟨m,hm⟩: ∃ m,15-n=m+1:=⟨14-n,by omega⟩
    rw [hm]at heq
    have heq:isF 15 [p]=(fF p1&&isF m ((nO p1).reverse++its'.reverse)):=heq
    have hx1:=hx.mono (bV sm1)
    refine ⟨_,rfl,x,rfl,uz hx1,fun H2 sm2=>⟨_,rfl,?_⟩⟩
    rw [si hx1]
    cases hh:fF p1 with
    | false=>
     refine cL ?_
     rw [hh,Bool.false_and]at heq
     rw [heq]at q
     exact q _ (sm1.trans sm2)
    | true=>
     refine bJ ?_
     rw [hh,Bool.true_and]at heq
     have sm3:=sm1.trans sm2
     obtain ⟨a,k,r,ex,ha,hl3,hin,hil⟩:=uh hx hh
     subst ex
     refine ⟨_,rfl,_,1,rfl,rfl,?_⟩
     have hl2:H2 l=some (.lst ws'):=sm2 _ _ ac
     refine ⟨_,rfl,.inl ⟨rfl,_,SqL.of hl2⟩,_,rfl,a,k,r,rfl,sm3 _ _ ha,hl3,fun p3 H3 sm4 hp=>?_⟩
     have hl3':H3 l=some (.lst ws'):=sm4 _ _ hl2
     rw [List.length_append]at hlen
     have hlen:ws'.length+1<=1+900*n:=hlen
     refine ⟨l,p3,_,_,rfl,rfl,hl3',SqT.of hp,?_,?_⟩
     ·exact Nat.le_of_lt (aU (by omega))
     ·refine ⟨⟨ws'++bz (.str k::r),n+1,_,its'++nO p1,rfl,ac,fun c oo h=>?_,by omega,?_,jr hP' hin,?_⟩,?_⟩
      ·rw [ah (lne h)]
       exact sm4 _ _ (sm3 c oo h)
      ·rw [List.length_append]
       omega
      ·rw [heq,List.reverse_append]
       congr 1
       omega
      ·show 15- ((n:Int) +1).toNat<15- ((n:Int)).toNat
       omega
 ·rintro Z H' Q1 Q2 hq ⟨y,e1,k,t,h⟩
  exact ⟨y,e1,k,t,hq _ _ h⟩
noncomputable def lC (C:Addr):Sp:=fun vs H Q E=> ∃ x,vs=[.str x]/\x.length<=1000/\(∀ f v H',Fm.wf f->f.size<=15->f.wr=x->Same H H'->Rep H' f v->Q v H')/\
 ((∀ f:Fm,f.wf->f.size<=15->f.wr≠x)-> ∀ H',Same H H'->E (.ref C) none H')
theorem lA: ∀ l:List Nat,(spl l).length=l.count 32+1
 | []=>rfl
 | c::r=>by
  have ih:=lA r
  unfold spl
  by_cases h:c=32
  ·rw [if_pos h,List.length_cons,ih,h,List.count_cons_self]
  ·rw [if_neg h,List.count_cons_of_ne h]
   cases hs:spl r with
   | nil=>exact absurd hs (iu r)
   | cons p ps=>rw [hs]at ih;exact ih
theorem iG: ∀ l:List Nat,(phi l).count 32<=l.length/\(phi l).length<=2*l.length
 | []=>⟨Nat.le_refl _,Nat.le_refl _⟩
 | c::r=>by
  obtain ⟨h1,h2⟩:=iG r
  show ((if c=40 then [40,32]else if c=41 then [32,41]else [c])++phi r).count 32<=r.length+1/\((if c=40 then [40,32]else if c=41 then [32,41]else [c])++phi r).length<=2* (r.length+1)
  rw [List.count_append,List.length_append]
  by_cases e1:c=40
  ·rw [if_pos e1]
   have:([40,32]:List Nat).count 32=1:=by decide
   have e2:([40,32]:List Nat).length=2:=rfl
   omega
  ·rw [if_neg e1]
   by_cases e2:c=41
   ·rw [if_pos e2]
    have:([32,41]:List Nat).count 32=1:=by decide
    have e2:([32,41]:List Nat).length=2:=rfl
    omega
   ·rw [if_neg e2]
    have:([c]:List Nat).count 32<=1:=List.count_le_length
    have e3:([c]:List Nat).length=1:=rfl
    omega
theorem mr (x:Str):(aH x).length<=x.length+1/\(dn x).length<=2*x.length/\ ∀ y∈aH x,y.length<=2*x.length:=by
 have hl:x.cps.toList.length=x.length:=by rw [Str.length,Array.length_toList]
 obtain ⟨h1,h2⟩:=iG x.cps.toList
 have e1:(aH x).length=(spl (phi x.cps.toList)).length:=by
  unfold aH
  rw [<- dD,<- eW,List.length_map]
 have e2:(dn x).length=(phi x.cps.toList).length:=by rw [Str.length,<- Array.length_toList,dD]
 refine ⟨by rw [e1,lA];omega,by omega,fun y hy=>?_⟩
 have hw:=PyProof.Rows.split_weight (dn x) " " (by decide +kernel)
 have go: ∀ (l:List Str),y∈l->y.length<=(l.map (·.length)).sum:=by
  intro l
  induction l with
  | nil=>intro z;cases z
  | cons a l ih=>
   intro z
   rw [List.map_cons,List.sum_cons]
   rcases List.mem_cons.mp z with z | z
   ·rw [z];omega
   ·have:=ih z;omega
 have:=go _ hy
 have hc:=List.length_pos_of_mem hy
 have hw:((aH x).map (·.length)).sum+ (aH x).length<=(dn x).length+1:=hw
 omega
theorem scReadF:au ["text","pile","word"] ["text"] (ag ki):=fsc
theorem pV {B newId initId:String} {bmB:List Value} (F:Fun K "read_formula" "read_formula" ki f fd) (G:Gb mg) (hC:mg "NoText"=some (.ref C)) (ex:PySem.W.excIn K C bmB newId=true) (FB:ExcBaseFacts B newId initId bmB)
  (GC:FnOk P w K mg base (CX1 P w C) 2 f2 fd2 ["pile"] (lH C)) (bC:Binds K fd2 ["pile"] []) (kC:PySem.W.keepIn K (.ref f2)=true) (mC:mg "close_bracket"=some (.ref f2))
  (GL:FnOk P w K mg base CX0 2 f3 fd3 ["word"] fZ) (bL:Binds K fd3 ["word"] []) (kL:PySem.W.keepIn K (.ref f3)=true) (mL:mg "read_leaf"=some (.ref f3))
  (GF:FnOk P w K mg base CX0 4 f4 fd4 ["thing"] lG) (bF:Binds K fd4 ["thing"] []) (kF:PySem.W.keepIn K (.ref f4)=true) (mF:mg "is_formula"=some (.ref f4)):
  eU P w K mg base (CX1 P w C) 5 f fd ["text"] (lC C):=by
 refine F.okTG scReadF (fun vs H Q E h=>?_) (fun cdv A outer s H vs Q E hr h=>?_)
 ·obtain ⟨x,rfl,_⟩:=h
  rfl
 obtain ⟨x,rfl,hx,q,qe⟩:=h
 have hr2:=hr.mono (show 2<=4 by omega)
 refine ⟨_,cj (PS.tk (av (i:=1) scReadF.nd rfl (Or.inl rfl) (bq ad)))
  (cj (rj PassesOwn.leaving rfl (pz (tR PySem.F.plainAttrs_str PySem.F.slot_str_split PySem.F.type_str_split qc
    (jq (by decide +kernel) (by decide +kernel) (jq (by decide +kernel) (by decide +kernel) (PE.tk (pv 0)))) (aa ao ad))) (bZ (i:=2) scReadF.nd rfl (Or.inl rfl))
   (ak (aV (aA bh (pv 2) ao (aB _)) (ak (bY (aq GC hr2 rfl mC kC bC .nil sC (aa (pv 1) ad))))
    (ak (bY (dk PySem.F.plainAttrs_list PySem.F.slot_list_append PySem.F.type_list_append bw (pv 1) (aa (aq GL hr2 rfl mL kL bL .nil aL (aa (pv 2) ad)) ad)))))))
  (PSs.tk (af (aV (PW.pt (ji (aA pK (al ax rfl G.len PySem.boot_len (aa (pv 1) ad)) ae (aB _)) (gh (dw (cO (aq GF hr rfl mF kF bF .nil aL (aa (aF aJ (pv 1) ae (fun _ _=>rfl)) ad)))))))
    (ak (fh (E:=E) rfl rfl hC ex FB (fun pins Z H s h' y vs I m q=>fu I m q) (aa ao ad))) aE)
   (ak (ar (aF aJ (pv 1) ae (fun _ _=>rfl))))))),?_⟩
 obtain ⟨w1,w2,w3⟩:=mr x
 refine ⟨(by show 0<=sizeLine;decide),fun pl hpl=>?_⟩
 have s1:=ai hpl (.lst [])
 have g1:(upd H pl (.lst [])) pl=some (.lst []):=ac
 generalize upd H pl (.lst [])=H1 at s1 g1 ⊢
 refine ⟨_,rfl,x,rfl,by omega,_,rfl,?_,rfl,_,_,rfl,rfl,by decide +kernel,?_,?_,fun nl hnl=>?_⟩
 ·have:=iG x.cps.toList
  have e:(Txt.replace x "(" "( ").length<=2*x.length:=by
   rw [show Txt.replace x "(" "( "=Txt.replace x ⟨#[40]⟩ "( " from rfl,Str.length,<- Array.length_toList,gf,Str.length,<- Array.length_toList]
   have go: ∀ l:List Nat,(l.flatMap fun k=>if k=40 then ("( ":Str).cps.toList else [k]).length<=2*l.length:=by
    intro l
    induction l with
    | nil=>exact Nat.le_refl _
    | cons c r ih=>
     rw [List.flatMap_cons,List.length_append,List.length_cons]
     have:(if c=40 then ("( ":Str).cps.toList else [c]).length<=2:=by split <;> simp <;> decide
     omega
   exact go _
  omega
 ·show (dn x).length+2<=sizeLine
  exact Nat.le_of_lt (aU (by omega))
 ·show (aH x).length<=sizeLine
  exact Nat.le_of_lt (aU (by omega))
 have s2:=ai hnl (.lst ((aH x).map V.str))
 have g2:(upd H1 nl (.lst ((aH x).map V.str))) nl=some (.lst ((aH x).map V.str)):=ac
 have gp2:=s2 _ _ g1
 have npl:nl≠pl:=fun e=>by rw [e,g1]at hnl;cases hnl
 have hn0:H nl=none:=s1.free hnl
 generalize hH2:upd H1 nl (.lst ((aH x).map V.str))=H2 at s2 g2 gp2
 refine ⟨nl,rfl,⟨_,SqL.of (show (upd H1 nl (.lst ((Txt.split (Txt.replace (Txt.replace x "(" "( ") ")" " )") " ").map V.str))) nl=some (.lst ((aH x).map V.str))from ac)⟩,?_⟩
 refine jK (xs:=(aH x).map V.str) (fun i Z H'=>i<=(aH x).length/\ ∃ ws ps o2,Z=[some (.str x),some (.ref pl),o2]/\Same H H'/\H' nl=some (.lst ((aH x).map V.str))/\H' pl=some (.lst ws)/\Paired (RepX H') ps ws/\ws.length<=i/\cy (aH x) []=cy ((aH x).drop i) ps.reverse)
  ⟨Nat.zero_le _,[],[],none,rfl,s1.trans (ai hnl _),ac,ai hnl _ _ _ g1,.nil,Nat.le_refl _,rfl⟩ (fun i Z H' _ h=>by obtain ⟨_,_,_,_,_,_,g,_⟩:=h;exact SqL.of g) ?_ ?_
 ·clear hH2 s2 g2 gp2
  rintro i v Z H3 hv ⟨hi,ws,ps,o2,rfl,S3,gn3,gp3,hP,hwl,hm⟩
  rw [List.getElem?_map]at hv
  obtain ⟨y,hy,rfl⟩: ∃ y,(aH x)[i]? =some y/\v=V.str y:=by
   cases hh:(aH x)[i]? with
   | none=>rw [hh]at hv;cases hv
   | some y=>rw [hh]at hv;exact ⟨y,rfl,(Option.some.inj hv).symm⟩
  have hi':i< (aH x).length:=(List.getElem?_eq_some_iff.mp hy).1
  rw [iP hy]at hm
  have hm:cy (aH x) []=if y=")" then (cr ps.reverse).bind (cy ((aH x).drop (i+1)))else cy ((aH x).drop (i+1)) (a7 y::ps.reverse):=hm
  refine ⟨_,rfl,rfl,_,rfl,?_⟩
  refine aZ (fun c=>?_) (fun c=>?_)
  ·have c:y=")":=V.str.inj (of_decide_eq_true c)
   rw [if_pos c]at hm
   refine ⟨_,rfl,pl,ws,ps,rfl,gp3,hP,by omega,fun pile ws' H4 hc kp gl hP'=>?_,fun hn H4 kp=>?_⟩
   ·have hlp:pile.length<=ps.length:=by
     unfold cr at hc
     have hs:=sv (fun p=> !isOpen p) ps.reverse
     cases hd:ps.reverse.dropWhile (fun p=> !isOpen p)with
     | nil=>rw [hd]at hc;cases hc
     | cons o r=>
      rw [hd]at hc hs
      have hll:=congrArg List.length hs
      rw [List.length_append,List.length_cons,List.length_reverse]at hll
      cases hu:cC (ps.reverse.takeWhile fun p=> !isOpen p).reverse MK with
      | none=>rw [hu]at hc;cases hc
      | some p2=>
       rw [hu]at hc
       cases hc
       show r.length+1<=ps.length
       omega
    have e1:=Paired.length hP'
    have e2:=Paired.length hP
    rw [List.length_reverse]at e1
    refine ⟨hi',ws',pile.reverse,_,rfl,fun b o h=>kp b o (S3 _ _ h) (aj h hpl),kp _ _ gn3 npl,gl,hP',by omega,?_⟩
    rw [hm,hc,List.reverse_reverse]
    rfl
   ·refine qe (fun f hw hs hfx=>?_) H4 (fun b o h=>kp b o (S3 _ _ h) (aj h hpl))
    have:=(cX hw hs hfx).1
    rw [hm,hn]at this
    cases this
  ·have c: ¬ y=")":=fun e=>c (decide_eq_true (by rw [e]))
   rw [if_neg c]at hm
   have hyl:=w3 y (List.mem_of_getElem? hy)
   refine ⟨_,rfl,.inl ⟨rfl,_,SqL.of gp3⟩,_,rfl,y,rfl,by omega,fun v H4 s4 hv=>?_⟩
   have gp4:=s4 _ _ gp3
   have tk5:TK H4 (upd H4 pl (.lst (ws++[v]))):=TK.lst gp4
   refine ⟨pl,ws,v,rfl,rfl,gp4,aU (by omega),hi',ws++[v],ps++[a7 y],_,rfl,fun b o h=>?_,?_,ac,Paired.snoc (Paired.mapP hP fun _ _ r=>RepX.mono ((bV s4).trans tk5) r) (hv.mono tk5),?_,?_⟩
   ·rw [ah (aj h hpl)];exact s4 _ _ (S3 _ _ h)
   ·rw [ah npl];exact s4 _ _ gn3
   ·rw [List.length_append];show ws.length+1<=i+1;omega
   ·rw [hm,List.reverse_append];rfl
 ·clear hH2 s2 g2 gp2
  rintro Z H3 ⟨_,ws,ps,o2,rfl,S3,gn3,gp3,hP,hwl,hm⟩
  rw [List.length_map,List.drop_length]at hm
  have hm:cy (aH x) []=some ps.reverse:=hm
  have hll:=Paired.length hP
  refine ⟨_,rfl,pl,ws,rfl,.inl (SqL.of gp3),rfl,_,rfl,?_⟩
  refine aZ (fun c=>?_) (fun c=>?_)
  ·refine cL ⟨(by show 1<=sizeLine;decide),qe (fun f hw hs hfx=>?_) H3 S3⟩
   have:=(cX hw hs hfx).1
   rw [hm]at this
   have e:=congrArg List.length (Option.some.inj this)
   rw [List.length_reverse]at e
   have e:ps.length=1:=e
   have e1:(V.int ((ws.length:Nat):Int))=V.int 1:=by rw [<- hll,e];rfl
   rw [decide_eq_true e1]at c
   cases c
  ·have c1:ws.length=1:=by
    by_cases h:V.int ((ws.length:Nat):Int)=V.int 1
    ·have:=V.int.inj h;omega
    ·rw [decide_eq_false h]at c;exact absurd rfl c
   match ws,ps,hP,c1 with
   | [v],[p],.cons hR .nil,_=>
    refine ⟨_,rfl,pl,_,0,v,rfl,rfl,SqL.of gp3,ce,v,p,rfl,hR,fun H4 s4=>⟨_,rfl,?_⟩⟩
    cases hf:isF 15 [p]with
    | true=>
     obtain ⟨f,hw,hs,rfl,hfx⟩:=mV hm hf
     refine bJ ⟨_,rfl,pl,_,0,v,rfl,rfl,SqL.of (s4 _ _ gp3),ce,?_⟩
     exact q f v H4 hw hs hfx (S3.trans s4) (cW f (hR.mono (bV s4)))
    | false=>
     refine cL ⟨(by show 1<=sizeLine;decide),qe (fun f hw hs hfx=>?_) H4 (S3.trans s4)⟩
     obtain ⟨e1,e2⟩:=cX hw hs hfx
     rw [hm]at e1
     have e3:p=pt f:=(List.cons.inj (Option.some.inj e1)).1
     rw [<- e3,hf]at e2
     cases e2
theorem gn {α β:Type} {F:α->β->Prop}: ∀ {l:List α} {r:List β} {i:Nat} {b:β},Paired F l r->r[i]? =some b-> ∃ a,l[i]? =some a/\F a b
 | _,_,i,b,.nil,e=>by cases i <;> cases e
 | _,_,0,b,.cons h _,e=>⟨_,rfl,by cases e;exact h⟩
 | _,_,i+1,b,.cons _ t,e=>gn (i:=i) t e
noncomputable def kvT:List (Option Expr)->List Expr->Option (List (Str×Str))
 | [],[]=>some []
 | some (.Constant (.str x) _ _)::r,(.Constant (.str y) _ _)::s=>(kvT r s).map fun l=>(x,y)::l
 | _,_=>none
noncomputable def kvP (l:List (Str×Str)):List (Key×V):=l.map fun q=>(Sum.inr q.1,.str q.2)
theorem rn {X:Cx} {pos:Pos}: ∀ {ks:List (Option Expr)} {vs:List Expr} {l:List (Str×Str)},kvT ks vs=some l->
  PPs X pos ks vs (l.map fun q=>(tC (.str q.1),tC (.str q.2)))/\ks.length=l.length/\vs.length=l.length/\ks.all (·.isSome)=true:=by
 intro ks
 induction ks with
 | nil=>
  intro vs l h
  cases vs with
  | nil=>cases h;exact ⟨rm,rfl,rfl,rfl⟩
  | cons _ _=>cases h
 | cons k r ih=>
  intro vs l h
  unfold kvT at h
  split at h
  ·exact absurd ‹k::r=[]› (List.cons_ne_nil _ _)
  ·rename_i x _ _ r' y _ _ s e1
   cases e1
   cases hr:kvT r s with
   | none=>rw [hr]at h;cases h
   | some l'=>
    rw [hr]at h
    cases h
    obtain ⟨a,b,c,d⟩:=ih hr
    exact ⟨pj ao ao a,by rw [List.length_cons,b];rfl,by rw [List.length_cons,c];rfl,by rw [List.all_cons,d];rfl⟩
  ·cases h
noncomputable def tDT (l:List (Str×Str)):TE:=fun _ H Q=> ∀ p,H p=none->Q (.ref p) (upd H p (.dK (cH [] (kvP l))))
theorem i7 {Z:St}: ∀ (l:List (Str×Str)) {H:Hp} {Q:List (V×V)->Hp->Prop},Q ((kvP l).map fun kv=>(kV kv.1,kv.2)) H->iq (l.map fun q=>(tC (.str q.1),tC (.str q.2))) Z H Q
 | [],_,_,h=>h
 | q::r,H,Q,h=>i7 r (Q:=fun ps H3=>Q ((.str q.1,.str q.2)::ps) H3) h
theorem pD {X:Cx} {pos:Pos} {ks:List (Option Expr)} {vs:List Expr} (l:List (Str×Str)) (h:kvT ks vs=some l) (h0:0<l.length) (h1:l.length<=15):PE X (.Dict ks vs pos) (tDT l):=by
 obtain ⟨a,b,c,d⟩:=rn (X:=X) (pos:=pos) h
 intro pins s Z H Q I q
 refine rF a d (by omega) (fun z=>by rw [z]at b;rw [<- b]at h0;cases h0) (by omega) pins s Z H Q I fun p hp=>i7 l ⟨ac,kvP l,rfl,by unfold kvP;rw [List.length_map];exact h1,?_⟩
 rw [bK]
 exact q p hp
theorem mi {J:It} {α:Type} {as:List α} {A:α->V->Prop} {xs:List V} {fr:List Nat} {te:TE} {Z:St} {H1:Hp} {Q:VK} (hn:xs.length<=1000) (hP:Paired A as xs)
  (hgo: ∀ i H,Same H1 H->i<xs.length->J.go i H) (hst: ∀ H,Same H1 H->J.stop xs.length H) (hy: ∀ i H v H',Same H1 H->J.yld i H v H'->H'=H/\xs[i]? =some v)
  (R:Hp->α->V->Prop) (mono: ∀ {H H':Hp} {a:α} {v:V},TK H H'->R H a v->R H' a v)
  (hte: ∀ a v H (k:VK),a∈as->A a v->Same H1 H->(∀ u H',Same H H'->R H' a u->k u H')->te (some v::cx fr Z) H k)
  (hd: ∀ p zs H',H1 p=none->Same H1 H'->H' p=some (.lst zs)->Paired (R H') as zs->Q (.ref p) H'):fV fr te Z J H1 Q:=by
 intro p hp
 have hl:as.length=xs.length:=Paired.length hP
 refine ⟨fun i m zs H=>i<=xs.length/\m=xs.length-i/\Same H1 H/\H p=some (.lst zs)/\zs.length=i/\Paired (R H) (as.take i) zs,⟨_,Nat.zero_le _,rfl,ai hp _,ac,rfl,.nil⟩,?_⟩
 rintro i m zs H ⟨hi,hm,sm,gp,hz,hT⟩
 refine ⟨gp,?_⟩
 by_cases e:i=xs.length
 ·subst e
  rw [<- hl,List.take_length]at hT
  exact .inl ⟨hst H sm,hd p zs H hp sm gp hT⟩
 ·have hlt:i<xs.length:=by omega
  refine .inr ⟨hgo i H sm hlt,aG (by omega),fun v H' hv=>?_⟩
  obtain ⟨rfl,hv2⟩:=hy i H v H' sm hv
  obtain ⟨a,ha,hA⟩:=gn hP hv2
  refine hte a v _ _ (List.mem_of_getElem? ha) hA sm fun u H2 s2 r=>?_
  have gp2:=s2 _ _ gp
  have tk:TK H2 (upd H2 p (.lst (zs++[u]))):=TK.lst gp2
  refine ⟨gp2,xs.length- (i+1),by omega,by omega,rfl,?_,ac,by rw [List.length_append,hz];rfl,?_⟩
  ·intro b o hb
   rw [ah (aj hb hp)]
   exact s2 _ _ (sm _ _ hb)
  ·rw [List.take_add_one,ha]
   exact Paired.snoc (Paired.mapP hT fun _ _ r=>mono ((bV s2).trans tk) r) (mono tk r)
theorem qm {K:PySem.W.Frag} {a:Addr} {xs:List V} {H1:Hp} (ha:H1 a=some (.tup xs)): ∀ i H,Same H1 H->i<xs.length->(Itt K a).go i H:=fun i H s h=>⟨xs,xs[i],SqT.of (s _ _ ha),List.getElem?_eq_getElem h⟩
theorem ql {K:PySem.W.Frag} {a:Addr} {xs:List V} {H1:Hp} (ha:H1 a=some (.tup xs)): ∀ H,Same H1 H->(Itt K a).stop xs.length H:=fun H s=>⟨xs,SqT.of (s _ _ ha),Nat.le_refl _⟩
theorem sD {K:PySem.W.Frag} {a:Addr} {xs:List V} {H1:Hp} (ha:H1 a=some (.tup xs)): ∀ i H v H',Same H1 H->(Itt K a).yld i H v H'->H'=H/\xs[i]? =some v:=fun i H v H' s hv=>⟨hv.1,by obtain ⟨rfl,hv⟩:=hv;exact hv xs (SqT.of (s _ _ ha))⟩
theorem eE {n:Int} (h0: -999999<=n) (h1:n<=999999):(aX n).length<=7:=by
 have hd:=lc (m:=n.natAbs) (by omega)
 rw [Str.length,<- Array.length_toList,dz]
 split
 ·rw [List.length_cons];omega
 ·omega
theorem fz {x:Str} (h:aT x=true):x.length<=8:=by
 unfold aT at h
 simp only [Bool.and_eq_true,decide_eq_true_eq]at h
 exact h.1.2
theorem iK (op:Str):(mkT op).length<=3:=by
 unfold mkT
 repeat' split
 all_goals decide +kernel
theorem bE: ∀ (f:Fm),f.wf->f.wr.length<=14*f.size
 | .num n,hw=>by
  obtain ⟨h0,h1⟩: -999999<=n/\n<=999999:=hw
  have:=eE h0 h1
  show (aX n).length<=14*1
  omega
 | .own x,hw=>by
  have:=fz (show aT x=true from hw)
  have e:("own.":Str).length=4:=by decide +kernel
  show ("own."++x:Str).length<=14*1
  rw [aS,e]
  omega
 | .part k x,hw=>by
  obtain ⟨⟨h0,h1⟩,hx⟩:(0<=k/\k<=2)/\aT x=true:=hw
  have:=fz hx
  have:=eE (n:=k) (by omega) (by omega)
  have hk:(aX k).length<=5:=by
   have:k=0\/k=1\/k=2:=by omega
   rcases this with rfl | rfl | rfl <;> decide +kernel
  have e:(".":Str).length=1:=by decide +kernel
  show (aX k++"."++x:Str).length<=14*1
  rw [aS,aS,e]
  omega
 | .bin op a b,hw=>by
  obtain ⟨_,h1,h2⟩:op∈ops/\a.wf/\b.wf:=hw
  have i1:=bE a h1
  have i2:=bE b h2
  have i3:=iK op
  have e1:("(":Str).length=1:=by decide +kernel
  have e2:(")":Str).length=1:=by decide +kernel
  have e3:(" ":Str).length=1:=by decide +kernel
  show ("("++a.wr++(" "++mkT op++" ")++b.wr++")":Str).length<=14* (a.size+b.size+1)
  simp only [aS,e1,e2,e3]
  omega
 | .whn a b c,hw=>by
  obtain ⟨h1,h2,h3⟩:a.wf/\b.wf/\c.wf:=hw
  have i1:=bE a h1
  have i2:=bE b h2
  have i3:=bE c h3
  have e1:("(":Str).length=1:=by decide +kernel
  have e2:(")":Str).length=1:=by decide +kernel
  have e3:(" ? ":Str).length=3:=by decide +kernel
  have e4:(" : ":Str).length=3:=by decide +kernel
  show ("("++a.wr++" ? "++b.wr++" : "++c.wr++")":Str).length<=14* (a.size+b.size+c.size+1)
  simp only [aS,e1,e2,e3,e4]
  omega
noncomputable def dcT:List (Str×Str):=[("plus"," + "),("less"," - "),("times"," * "),("least"," min "),("most"," max ")]
theorem uv {op:Str} (h:op∈ops):db (cH [] (kvP dcT)) (Sum.inr op)=some (.str (" "++mkT op++" ")):=by
 unfold ops at h
 simp only [List.mem_cons,List.not_mem_nil,or_false]at h
 rcases h with rfl | rfl | rfl | rfl | rfl <;> decide +kernel
theorem c7 (a:Str):decide (V.str a=V.str a)=true:=decide_eq_true rfl
theorem cm {a b:Str} (h:a≠b):decide (V.str a=V.str b)=false:=decide_eq_false fun e=>h (V.str.inj e)
theorem tU {op:Str} (h:op∈ops):op≠"num"/\op≠"own"/\op≠"part"/\op≠"when":=by
 unfold ops at h
 simp only [List.mem_cons,List.not_mem_nil,or_false]at h
 rcases h with rfl | rfl | rfl | rfl | rfl <;> decide +kernel
noncomputable def lm:Stmt->Expr
 | .Assign _ e _=>e
 | _=>.Constant .none 0 ⟨0,0,0,0⟩
noncomputable def wd:Stmt->Pos
 | .Assign _ _ p=>p
 | _=>⟨0,0,0,0⟩
noncomputable def we:Stmt->Pos
 | .Assign [.Name _ p] _ _=>p
 | _=>⟨0,0,0,0⟩
noncomputable def ut:Expr->List (Option Expr)
 | .Dict k _ _=>k
 | _=>[]
noncomputable def ur:Expr->List Expr
 | .Dict _ v _=>v
 | _=>[]
noncomputable def v6:Expr->Pos
 | .Dict _ _ p=>p
 | _=>⟨0,0,0,0⟩
noncomputable def stW (i:Nat):Stmt:=(bd cg).getD i (.Pass ⟨0,0,0,0⟩)
theorem vb {α:Type} {l:List α} {d:α} (h:l.length=8):l=[l.getD 0 d,l.getD 1 d,l.getD 2 d,l.getD 3 d,l.getD 4 d,l.getD 5 d,l.getD 6 d,l.getD 7 d]:=by
 match l,h with
 | [_,_,_,_,_,_,_,_],_=>rfl
theorem vt:bd cg=[stW 0,stW 1,stW 2,stW 3,stW 4,stW 5,stW 6,stW 7]:=vb (by decide +kernel)
theorem v5:stW 6=.Assign [.Name "signs" (we (stW 6))] (.Dict (ut (lm (stW 6))) (ur (lm (stW 6))) (v6 (lm (stW 6)))) (wd (stW 6)):=by kernel_rfl
theorem v7:kvT (ut (lm (stW 6))) (ur (lm (stW 6)))=some dcT:=by kernel_rfl
theorem gE (k:V) (xs:List V):dZ (k::xs) (some 1) none=xs:=by
 have e1:HT.sIx (k::xs).length 0 (some 1)=1:=by
  have:HT.sIx (k::xs).length 0 (some 1)=min 1 (k::xs).length:=HT.sIx_nat _ _ 1
  rw [this,List.length_cons]
  omega
 unfold dZ
 rw [e1,HT.sIx_none,List.length_cons,List.drop_one,List.tail_cons,Nat.add_sub_cancel,List.take_length]
theorem fH (k:V) (xs:List V): ¬ (HT.sIx (k::xs).length 0 (some 1)=0/\HT.sIx (k::xs).length (k::xs).length none=(k::xs).length):=by
 rintro ⟨h1,_⟩
 have:HT.sIx (k::xs).length 0 (some 1)=min 1 (k::xs).length:=HT.sIx_nat _ _ 1
 rw [this,List.length_cons]at h1
 omega
theorem dJ {n:Int} (h0: -999999<=n) (h1:n<=999999):n.natAbs.log2<1920:=by
 by_cases h:n.natAbs=0
 ·rw [h];decide
 ·exact Nat.lt_of_lt_of_le ((Nat.log2_lt h).mpr (Nat.lt_of_lt_of_le (show n.natAbs<10^6 by omega) (by decide:10^6<=2^20))) (by decide)
noncomputable def dE (n:Nat):Sp:=fun vs H Q _=> ∃ v f,vs=[v]/\Rep H f v/\f.wf/\f.size<=n/\n<=1000/\ ∀ H',Same H H'->Q (.str f.wr) H'
theorem scWritF:au ["formula","sign","some","signs"] ["formula"] (ag cg):=fsc
theorem nq {n:Nat} (F:Fun K "_law_written" "_law_written" cg f fd) (G:Gb mg)
  (GS:FnOk P w K mg base CX0 (n+1) f fd ["formula"] (dE n)) (bS:Binds K fd ["formula"] []) (mS:mg "_law_written"=some (.ref f)):
  FnOk P w K mg base CX0 (n+2) f fd ["formula"] (dE (n+1)):=by
 refine F.ok scWritF (fun vs H Q E h=>?_) (fun cdv A outer s H vs Q E hr h=>?_)
 ·obtain ⟨v,fm,rfl,_⟩:=h
  rfl
 obtain ⟨v,fm,rfl,rp,wf,sz,n1,q⟩:=h
 have hu:=sF hr
 rw [vt,v5]
 have hpr:=v7
 generalize ut (lm (stW 6))=dks at hpr ⊢
 generalize ur (lm (stW 6))=dvs at hpr ⊢
 refine ⟨_,af (av (i:=1) scWritF.nd rfl (Or.inl rfl) (aF a9 (pv 0) ae (fun _ _=>rfl)))
  (af (aV (aA bh (pv 1) ao (aB _)) (ak (ar (bo cc rfl G.str (by decide +kernel) (aa (aF a9 (pv 0) ae (fun _ _=>rfl)) ad)))) aE)
  (af (aV (aA bh (pv 1) ao (aB _)) (ak (ar (am ay ao (aF a9 (pv 0) ae (fun _ _=>rfl))))) aE)
  (af (aV (aA bh (pv 1) ao (aB _)) (ak (ar (am ay (am ay (bo cc rfl G.str (by decide +kernel) (aa (aF a9 (pv 0) ae (fun _ _=>rfl)) ad)) ao) (aF a9 (pv 0) ae (fun _ _=>rfl))))) aE)
  (af (dG (i:=2) (sc0:=ag cg) (N0:=["formula","sign","some","signs"]) (ys:=[]) (fr:=[]) rfl scWritF.nd rfl (Or.inl rfl) (tL (bj oW (pv 0) (bt ae) bu)) rfl rfl
     cok
     (fun C s H ex=>aq GS hr rfl mS F.kp bS .nil aL (aa (pv 0) ad)))
  (af (aV (aA bh (pv 1) ao (aB _)) (ak (ar (am ay (am ay (am ay (am ay (am ay (am ay ao (aF aJ (pv 2) ae (fun _ _=>rfl))) ao) (aF aJ (pv 2) ae (fun _ _=>rfl))) ao) (aF aJ (pv 2) ae (fun _ _=>rfl))) ao))) aE)
  (af (av (i:=3) scWritF.nd rfl (Or.inl rfl) (pD dcT hpr (by decide) (by decide)))
  (ak (ar (am ay (am ay (am ay (am ay ao (aF aJ (pv 2) ae (fun _ _=>rfl))) (rG hu (pv 3) (pv 1) (fun _ _=>rfl))) (aF aJ (pv 2) ae (fun _ _=>rfl))) ao))))))))),?_⟩
 have lo:("own.":Str).length=4:=by decide +kernel
 have ld:(".":Str).length=1:=by decide +kernel
 have l1:("(":Str).length=1:=by decide +kernel
 have l2:(")":Str).length=1:=by decide +kernel
 have l3:(" ? ":Str).length=3:=by decide +kernel
 have l4:(" : ":Str).length=3:=by decide +kernel
 have l5:(" ":Str).length=1:=by decide +kernel
 cases fm with
 | num m=>
  obtain ⟨a,rfl,ha⟩:=rp
  obtain ⟨h0,h1⟩: -999999<=m/\m<=999999:=wf
  refine ⟨_,rfl,a,_,0,.str "num",rfl,rfl,SqT.of ha,ce,_,rfl,rfl,_,rfl,?_⟩
  rw [c7]
  refine cL ?_
  exact ⟨_,rfl,a,_,1,.int m,rfl,rfl,SqT.of ha,aW (j:=1) rfl,m,rfl,dJ h0 h1,q H (Same.refl H)⟩
 | own x=>
  obtain ⟨a,rfl,ha⟩:=rp
  have hx:=fz (show aT x=true from wf)
  refine ⟨_,rfl,a,_,0,.str "own",rfl,rfl,SqT.of ha,ce,_,rfl,rfl,_,rfl,?_⟩
  rw [cm (show ("own":Str)≠"num" by decide +kernel)]
  refine bJ ⟨_,rfl,rfl,_,rfl,?_⟩
  rw [c7]
  refine cL ?_
  exact ⟨_,rfl,a,_,1,.str x,rfl,rfl,SqT.of ha,aW (j:=1) rfl,_,_,rfl,rfl,Nat.le_of_lt (aU (by omega)),q H (Same.refl H)⟩
 | part k x=>
  obtain ⟨a,rfl,ha⟩:=rp
  obtain ⟨⟨h0,h1⟩,hx⟩:(0<=k/\k<=2)/\aT x=true:=wf
  have hx:=fz hx
  have hk:=eE (n:=k) (by omega) (by omega)
  refine ⟨_,rfl,a,_,0,.str "part",rfl,rfl,SqT.of ha,ce,_,rfl,rfl,_,rfl,?_⟩
  rw [cm (show ("part":Str)≠"num" by decide +kernel)]
  refine bJ ⟨_,rfl,rfl,_,rfl,?_⟩
  rw [cm (show ("part":Str)≠"own" by decide +kernel)]
  refine bJ ⟨_,rfl,rfl,_,rfl,?_⟩
  rw [c7]
  refine cL ?_
  refine ⟨_,rfl,a,_,1,.int k,rfl,rfl,SqT.of ha,aW (j:=1) rfl,k,rfl,dJ (by omega) (by omega),?_⟩
  exact ⟨aX k,_,rfl,rfl,Nat.le_of_lt (aU (by omega)),_,rfl,a,_,2,.str x,rfl,rfl,SqT.of ha,aW (j:=2) rfl,_,_,rfl,rfl,Nat.le_of_lt (aU (by rw [aS];omega)),q H (Same.refl H)⟩
 | bin op A B=>
  obtain ⟨a,u,w,rfl,ha,rA,rB⟩:=rp
  obtain ⟨ho,wA,wB⟩:op∈ops/\A.wf/\B.wf:=wf
  have sz:A.size+B.size+1<=n+1:=sz
  obtain ⟨n1',n2',n3',n4'⟩:=tU ho
  have b1:=bE A wA
  have b2:=bE B wB
  have b3:=iK op
  refine ⟨_,rfl,a,_,0,.str op,rfl,rfl,SqT.of ha,ce,_,rfl,rfl,_,rfl,?_⟩
  rw [cm n1']
  refine bJ ⟨_,rfl,rfl,_,rfl,?_⟩
  rw [cm n2']
  refine bJ ⟨_,rfl,rfl,_,rfl,?_⟩
  rw [cm n3']
  refine bJ ⟨_,rfl,1,rfl,a,_,rfl,SqT.of ha,fH _ _,fun p hp=>⟨p,rfl,⟨_,SqT.of ac⟩,?_⟩⟩
  rw [gE]
  have s1:=ai hp (.tup [u,w])
  have gp:(upd H p (.tup [u,w])) p=some (.tup [u,w]):=ac
  generalize upd H p (.tup [u,w])=H1 at s1 gp ⊢
  refine mi (as:=[A,B]) (A:=Rep H1) (xs:=[u,w]) (by show 2<=1000;decide) (.cons (rA.mono (bV s1)) (.cons (rB.mono (bV s1)) .nil)) (qm gp) (ql gp) (sD gp) (fun _ c v=>v=.str c.wr) (fun _ h=>h) ?_ ?_
  ·intro c v H' k hc hR s' hk
   have hcw:c.wf/\c.size<=n:=by
    simp only [List.mem_cons,List.not_mem_nil,or_false]at hc
    rcases hc with rfl | rfl
    ·exact ⟨wA,by omega⟩
    ·exact ⟨wB,by omega⟩
   exact ⟨_,rfl,v,c,rfl,hR.mono (bV s'),hcw.1,hcw.2,by omega,fun H2 s2=>hk _ _ s2 rfl⟩
  ·intro p4 zs H4 hp4 s4 g4 hz
   obtain rfl:zs=[.str A.wr,.str B.wr]:=by
    cases hz with
    | cons e1 hz=>cases hz with
     | cons e2 hz=>cases hz;rw [e1,e2]
   refine ⟨_,rfl,rfl,_,rfl,?_⟩
   rw [cm n4']
   refine bJ fun pd hpd=>?_
   have s5:=ai hpd (.dK (cH [] (kvP dcT)))
   have g5:(upd H4 pd (.dK (cH [] (kvP dcT)))) pd=some (.dK (cH [] (kvP dcT))):=ac
   generalize upd H4 pd (.dK (cH [] (kvP dcT)))=H5 at s5 g5 ⊢
   have g6:=s5 _ _ g4
   have hdg:DGet H5 pd (.str op) (some (.str (" "++mkT op++" "))):=by
    have:=DGet.k (k:=Sum.inr op) g5
    rw [uv ho]at this
    exact this
   refine ⟨_,rfl,p4,_,0,.str A.wr,rfl,rfl,SqL.of g6,ce,_,_,rfl,rfl,Nat.le_of_lt (aU (by omega)),_,rfl,_,rfl,pd,_,rfl,hdg,_,_,rfl,rfl,Nat.le_of_lt (aU (by simp only [aS];omega)),
    _,rfl,p4,_,1,.str B.wr,rfl,rfl,SqL.of g6,aW (j:=1) rfl,_,_,rfl,rfl,Nat.le_of_lt (aU (by simp only [aS];omega)),_,_,rfl,rfl,Nat.le_of_lt (aU (by simp only [aS];omega)),q H5 (s1.trans (s4.trans s5))⟩
 | whn A B C=>
  obtain ⟨a,u,w,z,rfl,ha,rA,rB,rC⟩:=rp
  obtain ⟨wA,wB,wC⟩:A.wf/\B.wf/\C.wf:=wf
  have sz:A.size+B.size+C.size+1<=n+1:=sz
  have b1:=bE A wA
  have b2:=bE B wB
  have b3:=bE C wC
  refine ⟨_,rfl,a,_,0,.str "when",rfl,rfl,SqT.of ha,ce,_,rfl,rfl,_,rfl,?_⟩
  rw [cm (show ("when":Str)≠"num" by decide +kernel)]
  refine bJ ⟨_,rfl,rfl,_,rfl,?_⟩
  rw [cm (show ("when":Str)≠"own" by decide +kernel)]
  refine bJ ⟨_,rfl,rfl,_,rfl,?_⟩
  rw [cm (show ("when":Str)≠"part" by decide +kernel)]
  refine bJ ⟨_,rfl,1,rfl,a,_,rfl,SqT.of ha,fH _ _,fun p hp=>⟨p,rfl,⟨_,SqT.of ac⟩,?_⟩⟩
  rw [gE]
  have s1:=ai hp (.tup [u,w,z])
  have gp:(upd H p (.tup [u,w,z])) p=some (.tup [u,w,z]):=ac
  generalize upd H p (.tup [u,w,z])=H1 at s1 gp ⊢
  refine mi (as:=[A,B,C]) (A:=Rep H1) (xs:=[u,w,z]) (by show 3<=1000;decide) (.cons (rA.mono (bV s1)) (.cons (rB.mono (bV s1)) (.cons (rC.mono (bV s1)) .nil))) (qm gp) (ql gp) (sD gp) (fun _ c v=>v=.str c.wr) (fun _ h=>h) ?_ ?_
  ·intro c v H' k hc hR s' hk
   have hcw:c.wf/\c.size<=n:=by
    simp only [List.mem_cons,List.not_mem_nil,or_false]at hc
    rcases hc with rfl | rfl | rfl
    ·exact ⟨wA,by omega⟩
    ·exact ⟨wB,by omega⟩
    ·exact ⟨wC,by omega⟩
   exact ⟨_,rfl,v,c,rfl,hR.mono (bV s'),hcw.1,hcw.2,by omega,fun H2 s2=>hk _ _ s2 rfl⟩
  ·intro p4 zs H4 hp4 s4 g4 hz
   obtain rfl:zs=[.str A.wr,.str B.wr,.str C.wr]:=by
    cases hz with
    | cons e1 hz=>cases hz with
     | cons e2 hz=>cases hz with
      | cons e3 hz=>cases hz;rw [e1,e2,e3]
   refine ⟨_,rfl,rfl,_,rfl,?_⟩
   rw [c7]
   refine cL ?_
   refine ⟨_,rfl,p4,_,0,.str A.wr,rfl,rfl,SqL.of g4,ce,_,_,rfl,rfl,Nat.le_of_lt (aU (by omega)),_,_,rfl,rfl,Nat.le_of_lt (aU (by simp only [aS];omega)),
    _,rfl,p4,_,1,.str B.wr,rfl,rfl,SqL.of g4,aW (j:=1) rfl,_,_,rfl,rfl,Nat.le_of_lt (aU (by simp only [aS];omega)),_,_,rfl,rfl,Nat.le_of_lt (aU (by simp only [aS];omega)),
    _,rfl,p4,_,2,.str C.wr,rfl,rfl,SqL.of g4,aW (j:=2) rfl,_,_,rfl,rfl,Nat.le_of_lt (aU (by simp only [aS];omega)),_,_,rfl,rfl,Nat.le_of_lt (aU (by simp only [aS];omega)),q H4 (s1.trans s4)⟩
theorem nr:FnOk P w K mg base CX0 1 f fd ["formula"] (dE 0):=by
 have no: ∀ vs H Q E,¬ dE 0 vs H Q E:=fun vs H Q E h=>by
  obtain ⟨v,fm,_,_,_,sz,_⟩:=h
  have:=fm.size_pos
  omega
 exact ⟨fun vs H Q E h=>absurd h (no vs H Q E),fun A outer s H args us vs Q E _ _ _ _ h=>absurd h (no vs H Q E)⟩
theorem js (F:Fun K "_law_written" "_law_written" cg f fd) (G:Gb mg) (bS:Binds K fd ["formula"] []) (mS:mg "_law_written"=some (.ref f)): ∀ n:Nat,FnOk P w K mg base CX0 (n+1) f fd ["formula"] (dE n)
 | 0=>nr
 | n+1=>nq F G (js F G bS mS n) bS mS
inductive Ts (H:Hp):List V->List V->Prop where
 | nil:Ts H [] []
 | cons {a:Addr} {k:Str} {r vs out:List V}:H a=some (.tup (.str k::r))->k.length<=1000->r.length<=3->Ts H (bz (.str k::r)++vs) out->Ts H (.ref a::vs) (.ref a::out)
theorem Ts.len {H:Hp} {ws out:List V} (h:Ts H ws out):ws.length<=out.length:=by
 induction h with
 | nil=>exact Nat.le_refl _
 | cons _ _ _ _ ih=>
  rw [List.length_append]at ih
  rw [List.length_cons,List.length_cons]
  omega
theorem Ts.same {H H':Hp} {ws out:List V} (sm:Same H H') (h:Ts H ws out):Ts H' ws out:=by
 induction h with
 | nil=>exact .nil
 | cons ha hk hr _ ih=>exact .cons (sm _ _ ha) hk hr ih
noncomputable def jc:Sp:=fun vs H Q _=> ∃ v out,vs=[v]/\Ts H [v] out/\out.length<=1000/\ ∀ p H',Same H H'->H' p=some (.lst out)->Q (.ref p) H'
theorem scTuples:au ["formula","found","waiting","one"] ["formula"] (ag iA):=fsc
theorem nv (F:Fun K "tuples_of" "tuples_of" iA f fd)
  (GI:FnOk P w K mg base CX0 1 f2 fd2 ["formula"] fL) (bI:Binds K fd2 ["formula"] []) (kI:PySem.W.keepIn K (.ref f2)=true) (mI:mg "inner_of"=some (.ref f2)):
  FnOk P w K mg base CX0 2 f fd ["formula"] jc:=by
 refine F.ok scTuples (fun vs H Q E h=>?_) (fun cdv A outer s H vs Q E hr h=>?_)
 ·obtain ⟨v,b,rfl,_⟩:=h
  rfl
 obtain ⟨v,out,rfl,hT,hout,q⟩:=h
 refine ⟨_,af (av (i:=1) scTuples.nd rfl (Or.inl rfl) (bq ad))
  (af (av (i:=2) scTuples.nd rfl (Or.inl rfl) (bq (aa (pv 0) ad)))
  (af (eB PassesOwn.never (dv (pv 2) (fun _=>rfl))
   (af (av (i:=3) scTuples.nd rfl (Or.inl rfl) (fi PySem.F.plainAttrs_list PySem.F.slot_list_pop PySem.F.type_list_pop fj (pv 2)))
   (af (bY (dk PySem.F.plainAttrs_list PySem.F.slot_list_append PySem.F.type_list_append bw (pv 1) (aa (pv 3) ad)))
   (ak (bY (dk PySem.F.plainAttrs_list PySem.F.slot_list_extend PySem.F.type_list_extend lV (pv 2) (aa (pH (aq GI hr rfl mI kI bI .nil aL (aa (pv 3) ad)) (jo fU ae)) ad)))))))
  (ak (ar (pv 1))))),?_⟩
 refine ⟨(by show 0<=sizeLine;decide),fun p1 h1=>?_⟩
 refine ⟨_,rfl,(by show 1<=sizeLine;decide),fun p2 h2=>?_⟩
 dsimp only [oE,mw,eK,tC]
 have n21:p1≠p2:=fun e=>by
  subst e
  rw [ac]at h2
  cases h2
 have h2':H p2=none:=by rw [ah (Ne.symm n21)]at h2;exact h2
 refine ee (fun Z H'=> ∃ (ws done rest:List V) (o:Option V),Z=[some v,some (.ref p1),some (.ref p2),o]/\H' p1=some (.lst done)/\H' p2=some (.lst ws.reverse)/\Same H H'/\Ts H ws rest/\done++rest=out)
  (fun _ H'=>match H' p1 with | some (.lst d)=>out.length-d.length | _=>0) ⟨[v],[],out,none,rfl,by rw [ah n21,ac],ac,(ai h1 _).trans (ai h2 _),hT,rfl⟩ ?_ ?_
 ·rintro Z H' ⟨ws,done,rest,o,rfl,g1,g2,sm,hW,he⟩
  refine ⟨_,rfl,_,.inl ⟨ws.reverse,SqL.of g2,rfl⟩,?_⟩
  have hle:done.length+rest.length=out.length:=by rw [<- he,List.length_append]
  cases hW with
  | nil=>
   refine bJ ?_
   refine ⟨_,rfl,?_⟩
   rw [List.append_nil]at he
   subst he
   exact q _ _ sm g1
  | @cons a k r vs rest' ha hk hr3 ht=>
   have ne:(!((V.ref a::vs).reverse).isEmpty)=true:=by simp
   refine aZ (fun _=>?_) (fun c=>absurd ne c)
   rw [List.reverse_cons]at g2
   refine ⟨_,rfl,.inl ⟨rfl,_,SqL.of g2⟩,p2,_,.ref a,rfl,rfl,g2,by simp,?_⟩
   rw [List.dropLast_concat]
   have l1: ∀ {c:Addr} {oo:HO},H c=some oo->c≠p1:=fun h=>aj h h1
   have l2: ∀ {c:Addr} {oo:HO},H c=some oo->c≠p2:=fun h=>aj h h2'
   rw [List.length_cons]at hle
   refine ⟨_,rfl,.inl ⟨rfl,_,SqL.of (show upd H' p2 (.lst vs.reverse) p1=some (.lst done) by rw [ah n21];exact g1)⟩,_,rfl,p1,done,.ref a,rfl,rfl,by rw [ah n21];exact g1,aG (by omega),?_⟩
   have sm1:Same H (upd (upd H' p2 (.lst vs.reverse)) p1 (.lst (done++[.ref a]))):=fun c oo h=>by rw [ah (l1 h),ah (l2 h)];exact sm c oo h
   have k2:upd (upd H' p2 (.lst vs.reverse)) p1 (.lst (done++[.ref a])) p2=some (.lst vs.reverse):=by rw [ah (Ne.symm n21),ac]
   refine ⟨_,rfl,.inl ⟨rfl,_,SqL.of k2⟩,_,rfl,a,k,r,rfl,sm1 _ _ ha,by omega,fun p H3 sm4 hp=>?_⟩
   have k1':H3 p1=some (.lst (done++[.ref a])):=sm4 _ _ ac
   have k2':H3 p2=some (.lst vs.reverse):=sm4 _ _ k2
   have hil:(bz (.str k::r)).length<=3:=by
    show (if (a8 k).isSome=true then r else []).length<=3
    split
    ·exact hr3
    ·exact Nat.zero_le _
   refine ⟨_,rfl,p,_,rfl,rfl,SqT.of hp,fun p4 h4=>?_⟩
   have n41:p1≠p4:=aj k1' h4
   have n42:p2≠p4:=aj k2' h4
   have hlv:=ht.len
   rw [List.length_append]at hlv
   refine ⟨p2,p4,_,_,rfl,rfl,by rw [ah n42];exact k2',SqT.of ac,?_,?_⟩
   ·rw [List.length_reverse,List.length_reverse]
    exact Nat.le_of_lt (aG (by omega))
   ·refine ⟨⟨bz (.str k::r)++vs,done++[.ref a],rest',_,rfl,by rw [ah n21,ah n41];exact k1',by rw [ac,List.reverse_append],fun c oo h=>?_,ht,by rw [List.append_assoc];exact he⟩,?_⟩
    ·have h3:=sm4 _ _ (sm1 c oo h)
     rw [ah (l2 h),ah (aj h3 h4)]
     exact h3
    ·rw [ah n21,ah n41,k1',g1]
     show out.length- (done++[V.ref a]).length<out.length-done.length
     rw [List.length_append,List.length_singleton]
     omega
 ·rintro Z H' Q1 Q2 hq ⟨y,e1,k,t,h⟩
  exact ⟨y,e1,k,t,hq _ _ h⟩
theorem fC {α β:Type} {F:α->β->Prop}: ∀ {l:List α} {r:List β} {i:Nat} {a:α},Paired F l r->l[i]? =some a-> ∃ b,r[i]? =some b/\F a b
 | _,_,i,a,.nil,e=>by cases i <;> cases e
 | _,_,0,a,.cons h _,e=>⟨_,rfl,by cases e;exact h⟩
 | _,_,i+1,a,.cons _ t,e=>fC (i:=i) t e
theorem oZ:au ["found"] ["found"] (ag iD):=fsc
theorem nz (F:Fun K "_law_whole" "_law_whole" iD f fd) (G:Gb mg):FnOk P w K mg base CX0 1 f fd ["found"] eg:=by
 refine F.ok oZ (fun vs H Q E h=>?_) (fun cdv A outer s H vs Q E hr h=>?_)
 ·obtain ⟨v,rfl,_⟩:=h
  rfl
 obtain ⟨v,rfl,hS,q⟩:=h
 refine ⟨_,ak (ar (cu (al ba rfl G.isi (by decide +kernel) (aa (pv 0) (aa (bb (v:=.ty "int") rfl G.int (by decide +kernel) rfl) ad)))
  (cF (pC (al ba rfl G.isi (by decide +kernel) (aa (pv 0) (aa (bb (v:=.ty "bool") rfl G.bool (by decide +kernel) rfl) ad))))))),?_⟩
 have e:=l0 hS
 refine ⟨_,rfl,v,"int",rfl,hS,by simp,_,rfl,?_⟩
 refine aZ (fun c=>?_) (fun c=>?_)
 ·rw [if_pos c]at e
  refine ⟨_,rfl,v,"bool",rfl,hS,by simp,_,rfl,?_⟩
  exact qb q e.symm
 ·rw [if_neg c]at e
  exact qb q e.symm
noncomputable def SameV (H:Hp):Nat->V->V->Prop
 | 0,_,_=>False
 | n+1,v,u=>(∃ x:Str,v=.str x/\u=.str x/\x.length<=2000)\/(∃ i:Int,v=.int i/\u=.int i)\/
  ∃ (c:Bool) (a b:Addr) (xs ys:List V),v=.ref a/\u=.ref b/\H a=some (df c xs)/\H b=some (df c ys)/\xs.length<=1000/\Paired (SameV H n) xs ys
theorem SameV.mono {H H':Hp} (s:Same H H'): ∀ {n:Nat} {v u:V},SameV H n v u->SameV H' n v u
 | 0,_,_,h=>h
 | n+1,_,_,h=>by
  rcases h with h | h | ⟨c,a,b,xs,ys,e1,e2,h1,h2,hl,hp⟩
  ·exact .inl h
  ·exact .inr (.inl h)
  ·exact .inr (.inr ⟨c,a,b,xs,ys,e1,e2,s _ _ h1,s _ _ h2,hl,Paired.mapP hp fun _ _ h=>SameV.mono s h⟩)
noncomputable def eX (n:Nat):Sp:=fun vs H Q _=> ∃ v u,vs=[v,u]/\SameV H n v u/\ ∀ H',Same H H'->Q (.bl true) H'
theorem lZ {H:Hp} {c:Bool} {a:Addr} {xs:List V} (h:H a=some (df c xs)):isV "tuple" H (.ref a)=c/\isV "list" H (.ref a)= !c/\isV "bool" H (.ref a)=false:=by
 cases c with
 | true=>
  have h':H a=some (.tup xs):=h
  simp only [isV,h']
  exact ⟨rfl,rfl,rfl⟩
 | false=>
  have h':H a=some (.lst xs):=h
  simp only [isV,h']
  exact ⟨rfl,rfl,rfl⟩
theorem iy {H:Hp} {c:Bool} {a:Addr} {xs:List V} (h:H a=some (df c xs)):Sh H (.ref a):=by
 cases c with
 | true=>exact .inr (.inl ⟨xs,h⟩)
 | false=>exact .inl ⟨xs,h⟩
theorem sO {H:Hp} {c:Bool} {a:Addr} {xs:List V} (h:H a=some (df c xs)):TL H (.ref a) true:=by
 cases c with
 | true=>exact .tup (show H a=some (.tup xs)from h)
 | false=>exact .lst (show H a=some (.lst xs)from h)
theorem oM {K:PySem.W.Frag} {H:Hp} {c:Bool} {a:Addr} {xs:List V} (h:H a=some (df c xs)):SqL K H a xs\/SqT K H a xs:=by
 cases c with
 | true=>exact .inr (SqT.of h)
 | false=>exact .inl (SqL.of h)
theorem tm:au ["found","due"] ["found","due"] (ag jf):=fsc
theorem pT {n:Nat} (F:Fun K "_law_same" "_law_same" jf f fd) (G:Gb mg) (hlist:mg "list"=none) (hzip:mg "zip"=none)
  (GS:FnOk P w K mg base CX0 (n+2) f fd ["found","due"] (eX n)) (bS:Binds K fd ["found","due"] []) (mS:mg "_law_same"=some (.ref f))
  (GW:FnOk P w K mg base CX0 1 f2 fd2 ["found"] eg) (bW:Binds K fd2 ["found"] []) (kW:PySem.W.keepIn K (.ref f2)=true) (mW:mg "_law_whole"=some (.ref f2)):
  FnOk P w K mg base CX0 (n+3) f fd ["found","due"] (eX (n+1)):=by
 refine F.ok tm (fun vs H Q E h=>?_) (fun cdv A outer s H vs Q E hr h=>?_)
 ·obtain ⟨v,u,rfl,_⟩:=h
  rfl
 obtain ⟨v,u,rfl,hS,q⟩:=h
 have hr1:=hr.mono (show 1<=n+2 by omega)
 refine ⟨_,af (aV (cO (al oa rfl G.isi (by decide +kernel) (aa (pv 1) (aa (bp (aa (bb (v:=.ty "tuple") rfl G.tuple (by decide +kernel) rfl) (aa (bb (v:=.ty "list") rfl hlist (by decide +kernel) rfl) ad))) ad))))
   (af (aV (PW.pt (ji (aA pK (al ba rfl G.isi (by decide +kernel) (aa (pv 1) (aa (bb (v:=.ty "tuple") rfl G.tuple (by decide +kernel) rfl) ad))) (al ba rfl G.isi (by decide +kernel) (aa (pv 0) (aa (bb (v:=.ty "tuple") rfl G.tuple (by decide +kernel) rfl) ad))) (aB _))
     (gh (aA pK (al ba rfl G.isi (by decide +kernel) (aa (pv 1) (aa (bb (v:=.ty "list") rfl hlist (by decide +kernel) rfl) ad))) (al ba rfl G.isi (by decide +kernel) (aa (pv 0) (aa (bb (v:=.ty "list") rfl hlist (by decide +kernel) rfl) ad))) (aB _)))))
    (ak (ar dL)) aE)
   (ak (ar (cu (cp bh (al ax rfl G.len PySem.boot_len (aa (pv 0) ad)) (al ax rfl G.len PySem.boot_len (aa (pv 1) ad)) (aB _))
    (cF (al (gI rfl) rfl G.all (by decide +kernel) (aa (pF (sc0:=ag jf) (N0:=["found","due"]) (ys:=[]) (fr:=[]) rfl (tK rfl hzip (aa (pv 0) (aa (pv 1) ad))) rfl rfl
     ⟨rfl,by decide +kernel,by decide +kernel,by decide +kernel,by decide +kernel,by decide +kernel,by decide +kernel,rfl,by decide +kernel⟩ (fun C s H ex=>aq GS hr rfl mS F.kp bS .nil aL (aa (pv 0) (aa (pv 1) ad)))) ad)))))))
   aE)
  (af (aV (aA pL (pv 1) kx (aB _)) (ak (ar (cp pL (pv 0) kx (aB _)))) aE)
  (af (aV (cO (al ba rfl G.isi (by decide +kernel) (aa (pv 1) (aa (bb (v:=.ty "bool") rfl G.bool (by decide +kernel) rfl) ad))))
   (ak (ar (cu (al ba rfl G.isi (by decide +kernel) (aa (pv 0) (aa (bb (v:=.ty "bool") rfl G.bool (by decide +kernel) rfl) ad))) (cF (cp bh (pv 0) (pv 1) (aB _)))))) aE)
  (af (aV (cO (al ba rfl G.isi (by decide +kernel) (aa (pv 1) (aa (bb (v:=.ty "str") rfl G.str (by decide +kernel) rfl) ad))))
   (ak (ar (cu (al ba rfl G.isi (by decide +kernel) (aa (pv 0) (aa (bb (v:=.ty "str") rfl G.str (by decide +kernel) rfl) ad))) (cF (cp bh (pv 0) (pv 1) (aB _)))))) aE)
  (ak (ar (cu (aq GW hr1 rfl mW kW bW .nil aL (aa (pv 0) ad)) (cF (cp bh (pv 0) (pv 1) (aB _))))))))),?_⟩
 refine ⟨_,rfl,(by show 2<=sizeLine;decide),fun p0 h0=>?_⟩
 have s0:=ai h0 (.tup [.ty "tuple",.ty "list"])
 have g0:(upd H p0 (.tup [.ty "tuple",.ty "list"])) p0=some (.tup [.ty "tuple",.ty "list"]):=ac
 generalize upd H p0 (.tup [.ty "tuple",.ty "list"])=H0 at s0 g0 ⊢
 have hS0:=SameV.mono s0 hS
 rcases hS0 with ⟨x,rfl,rfl,hx⟩ | ⟨i,rfl,rfl⟩ | ⟨c,a,b,xs,ys,rfl,rfl,ha,hb,hl,hp⟩
 ·refine ⟨_,p0,false,rfl,g0,.str x,_,rfl,?_⟩
  refine bJ ⟨_,rfl,rfl,_,rfl,?_⟩
  rw [show decide (V.str x=V.non)=false from decide_eq_false fun e=>nomatch e]
  refine bJ ⟨_,rfl,_,"bool",rfl,hx,by simp,_,rfl,?_⟩
  rw [show isV "bool" H0 (V.str x)=false from rfl]
  refine bJ ⟨_,rfl,_,"str",rfl,hx,by simp,_,rfl,?_⟩
  rw [show isV "str" H0 (V.str x)=true from rfl]
  refine cL ⟨_,rfl,_,"str",rfl,hx,by simp,_,rfl,?_⟩
  rw [show isV "str" H0 (V.str x)=true from rfl]
  refine cL ⟨_,rfl,_,rfl,rfl,?_⟩
  rw [decide_eq_true rfl]
  exact q H0 s0
 ·refine ⟨_,p0,false,rfl,g0,.int i,_,rfl,?_⟩
  refine bJ ⟨_,rfl,rfl,_,rfl,?_⟩
  rw [show decide (V.int i=V.non)=false from decide_eq_false fun e=>nomatch e]
  refine bJ ⟨_,rfl,_,"bool",rfl,True.intro,by simp,_,rfl,?_⟩
  rw [show isV "bool" H0 (V.int i)=false from rfl]
  refine bJ ⟨_,rfl,_,"str",rfl,True.intro,by simp,_,rfl,?_⟩
  rw [show isV "str" H0 (V.int i)=false from rfl]
  refine bJ ⟨_,rfl,_,rfl,True.intro,_,rfl,?_⟩
  rw [show jX (V.int i)=true from rfl]
  refine cL ⟨_,rfl,_,rfl,rfl,?_⟩
  rw [decide_eq_true rfl]
  exact q H0 s0
 ·obtain ⟨a1,a2,_⟩:=lZ ha
  obtain ⟨b1,b2,_⟩:=lZ hb
  have hlen:xs.length=ys.length:=Paired.length hp
  refine ⟨_,p0,true,rfl,g0,sO hb,_,rfl,?_⟩
  refine cL ⟨_,rfl,_,"tuple",rfl,iy hb,by simp,_,rfl,_,"tuple",rfl,iy ha,by simp,rfl,_,rfl,?_⟩
  rw [a1,b1,decide_eq_true rfl]
  refine bJ ⟨_,rfl,_,"list",rfl,iy hb,by simp,_,rfl,_,"list",rfl,iy ha,by simp,rfl,_,rfl,?_⟩
  rw [a2,b2,decide_eq_true rfl]
  refine bJ ⟨_,rfl,a,xs,rfl,oM ha,_,rfl,b,ys,rfl,oM hb,rfl,_,rfl,?_⟩
  rw [hlen,decide_eq_true rfl]
  refine cL ⟨_,rfl,_,rfl,c,a,b,xs,ys,rfl,ha,hb,fun l hl0=>?_⟩
  refine ⟨fun i m zs H'=>i<=xs.length/\m=xs.length-i/\Same H0 H'/\H' l=some (.lst zs)/\zs=List.replicate i (.bl true),⟨_,Nat.zero_le _,rfl,ai hl0 _,ac,rfl⟩,?_⟩
  rintro i m zs H' ⟨hi,hm,sm,gl,rfl⟩
  refine ⟨gl,?_⟩
  by_cases e:i=xs.length
  ·refine .inl ⟨⟨xs,ys,sm _ _ ha,sm _ _ hb,e.symm,by omega⟩,l,List.replicate i true,rfl,SqL.of (by rw [List.map_replicate];exact gl),?_⟩
   rw [show (List.replicate i true).all id=true by simp]
   exact q H' (s0.trans sm)
  ·have hlt:i<xs.length:=by omega
   refine .inr ⟨⟨xs,ys,xs[i],ys[i],sm _ _ ha,sm _ _ hb,List.getElem?_eq_getElem hlt,List.getElem?_eq_getElem (by omega)⟩,aG (by rw [List.length_replicate];omega),?_⟩
   rintro _ _ ⟨T,x,y,fT,rfl,rfl,hxy⟩
   obtain ⟨ex,ey⟩:=hxy xs ys (sm _ _ ha) (sm _ _ hb)
   obtain ⟨y',ey',hs⟩:=fC hp ex
   rw [ey]at ey'
   cases ey'
   have sT:=sm.trans (ai fT (.tup [x,y]))
   refine ⟨T,x,y,rfl,ac,_,rfl,_,rfl,x,y,rfl,SameV.mono sT hs,fun H4 s4=>?_⟩
   have gl4:=s4 _ _ (ai fT (.tup [x,y]) _ _ gl)
   refine ⟨gl4,_,(by omega:xs.length- (i+1) <m),by omega,rfl,fun c' o h=>?_,ac,?_⟩
   ·rw [ah (aj h hl0)]
    exact s4 _ _ (sT _ _ h)
   ·exact List.replicate_succ'.symm
theorem pU:FnOk P w K mg base CX0 2 f fd ["found","due"] (eX 0):=by
 have no: ∀ vs H Q E,¬ eX 0 vs H Q E:=fun vs H Q E h=>by
  obtain ⟨v,u,_,h,_⟩:=h
  exact h
 exact ⟨fun vs H Q E h=>absurd h (no vs H Q E),fun A outer s H args us vs Q E _ _ _ _ h=>absurd h (no vs H Q E)⟩
theorem lT (F:Fun K "_law_same" "_law_same" jf f fd) (G:Gb mg) (hlist:mg "list"=none) (hzip:mg "zip"=none) (bS:Binds K fd ["found","due"] []) (mS:mg "_law_same"=some (.ref f))
  (GW:FnOk P w K mg base CX0 1 f2 fd2 ["found"] eg) (bW:Binds K fd2 ["found"] []) (kW:PySem.W.keepIn K (.ref f2)=true) (mW:mg "_law_whole"=some (.ref f2)): ∀ n:Nat,FnOk P w K mg base CX0 (n+2) f fd ["found","due"] (eX n)
 | 0=>pU
 | n+1=>pT F G hlist hzip (lT F G hlist hzip bS mS GW bW kW mW n) bS mS GW bW kW mW
theorem Rep.sameV {H:Hp}: ∀ {f:Fm} {v u:V} {n:Nat},Rep H f v->Rep H f u->f.wf->f.size<=n->SameV H (n+1) v u
 | .num m,_,_,n,⟨a,e1,h1⟩,⟨b,e2,h2⟩,_,hs=>by
  obtain ⟨n,rfl⟩: ∃ k,n=k+1:=⟨n-1,by have:1<=n:=hs;omega⟩
  subst e1 e2
  exact .inr (.inr ⟨true,a,b,_,_,rfl,rfl,h1,h2,(by show 2<=1000;decide),.cons (.inl ⟨"num",rfl,rfl,by decide +kernel⟩) (.cons (.inr (.inl ⟨m,rfl,rfl⟩)) .nil)⟩)
 | .own x,_,_,n,⟨a,e1,h1⟩,⟨b,e2,h2⟩,hw,hs=>by
  obtain ⟨n,rfl⟩: ∃ k,n=k+1:=⟨n-1,by have:1<=n:=hs;omega⟩
  subst e1 e2
  have hx:=fz (show aT x=true from hw)
  exact .inr (.inr ⟨true,a,b,_,_,rfl,rfl,h1,h2,(by show 2<=1000;decide),.cons (.inl ⟨"own",rfl,rfl,by decide +kernel⟩) (.cons (.inl ⟨x,rfl,rfl,by omega⟩) .nil)⟩)
 | .part k x,_,_,n,⟨a,e1,h1⟩,⟨b,e2,h2⟩,hw,hs=>by
  obtain ⟨n,rfl⟩: ∃ k,n=k+1:=⟨n-1,by have:1<=n:=hs;omega⟩
  subst e1 e2
  obtain ⟨_,hw⟩:(0<=k/\k<=2)/\aT x=true:=hw
  have hx:=fz hw
  exact .inr (.inr ⟨true,a,b,_,_,rfl,rfl,h1,h2,(by show 3<=1000;decide),.cons (.inl ⟨"part",rfl,rfl,by decide +kernel⟩) (.cons (.inr (.inl ⟨k,rfl,rfl⟩)) (.cons (.inl ⟨x,rfl,rfl,by omega⟩) .nil))⟩)
 | .bin op A B,_,_,n,⟨a,u1,w1,e1,h1,rA,rB⟩,⟨b,u2,w2,e2,h2,rA',rB'⟩,hw,hs=>by
  have hs:A.size+B.size+1<=n:=hs
  obtain ⟨n,rfl⟩: ∃ k,n=k+1:=⟨n-1,by omega⟩
  subst e1 e2
  obtain ⟨ho,hA,hB⟩:op∈ops/\A.wf/\B.wf:=hw
  have hx:=hU ho
  exact .inr (.inr ⟨true,a,b,_,_,rfl,rfl,h1,h2,(by show 3<=1000;decide),.cons (.inl ⟨op,rfl,rfl,by omega⟩) (.cons (Rep.sameV rA rA' hA (by omega)) (.cons (Rep.sameV rB rB' hB (by omega)) .nil))⟩)
 | .whn A B C,_,_,n,⟨a,u1,w1,z1,e1,h1,rA,rB,rC⟩,⟨b,u2,w2,z2,e2,h2,rA',rB',rC'⟩,hw,hs=>by
  have hs:A.size+B.size+C.size+1<=n:=hs
  obtain ⟨n,rfl⟩: ∃ k,n=k+1:=⟨n-1,by omega⟩
  subst e1 e2
  obtain ⟨hA,hB,hC⟩:A.wf/\B.wf/\C.wf:=hw
  exact .inr (.inr ⟨true,a,b,_,_,rfl,rfl,h1,h2,(by show 4<=1000;decide),.cons (.inl ⟨"when",rfl,rfl,by decide +kernel⟩) (.cons (Rep.sameV rA rA' hA (by omega)) (.cons (Rep.sameV rB rB' hB (by omega)) (.cons (Rep.sameV rC rC' hC (by omega)) .nil)))⟩)
theorem nW {J:It} {n:Nat} {fr:List Nat} {te:TE} {Z:St} {H1:Hp} {Q:VK} {pl:Addr} {rest top:List V} (hn:n<=1000) (ht:top.length=n) (gpl:H1 pl=some (.lst (rest++top.reverse)))
  (hgo: ∀ i H,Kp pl H1 H->i<n->J.go i H) (hst: ∀ H,Kp pl H1 H->J.stop n H) (hy: ∀ i H v H',J.yld i H v H'->H'=H)
  (hte: ∀ x H (k:VK) xs y,H pl=some (.lst xs)->xs[xs.length-1]? =some y->k y (upd H pl (.lst xs.dropLast))->te (some x::cx fr Z) H k)
  (hd: ∀ p H',H1 p=none->Kp pl H1 H'->H' pl=some (.lst rest)->H' p=some (.lst top)->Q (.ref p) H'):fV fr te Z J H1 Q:=by
 intro p hp
 have npl:pl≠p:=fun z=>by rw [<- z,gpl]at hp;cases hp
 refine ⟨fun i m ys H=>i<=n/\m=n-i/\Kp pl H1 H/\ys=top.take i/\H p=some (.lst ys)/\H pl=some (.lst (rest++(top.drop i).reverse)),⟨_,Nat.zero_le _,rfl,Kp.refl.new hp,rfl,ac,by rw [ah npl];exact gpl⟩,?_⟩
 rintro i m ys H ⟨hi,hm,kp,rfl,gp,gl⟩
 refine ⟨gp,?_⟩
 by_cases e:i=n
 ·subst e
  rw [<- ht,List.drop_length,List.reverse_nil,List.append_nil]at gl
  rw [<- ht,List.take_length]at gp
  exact .inl ⟨hst H kp,hd p H hp kp gl gp⟩
 ·have hlt:i<n:=by omega
  have hx:top[i]? =some (top[i]'(by omega)):=List.getElem?_eq_getElem (by omega)
  refine .inr ⟨hgo i H kp hlt,aG (by rw [List.length_take];omega),fun v H' hv=>?_⟩
  cases hy i H v H' hv
  have ed:rest++(top.drop i).reverse=(rest++(top.drop (i+1)).reverse)++[top[i]'(by omega)]:=by
   rw [List.drop_eq_getElem_cons (by omega),List.reverse_cons,List.append_assoc]
  rw [ed]at gl
  refine hte v H _ _ (top[i]'(by omega)) gl (by simp) ?_
  rw [List.dropLast_concat]
  refine ⟨by rw [ah (Ne.symm npl)];exact gp,n- (i+1),by omega,by omega,rfl,?_,?_,ac,by rw [ah npl,ac]⟩
  ·intro b o hb hne
   rw [ah (aj hb hp),ah hne]
   exact kp b o hb hne
  ·rw [List.take_add_one,hx];rfl
theorem Kp.tkL {tp:Addr} {H H':Hp} {xs:List V} (a:Kp tp H H') (t:H tp=some (.lst xs)):TK H H':=fun b ys h=>a b _ h fun e=>by
 rw [e,t]at h;cases h
theorem fg: ∀ {f g:Fm},pt f=pt g->f=g
 | .num _,.num _,h=>by cases h;rfl
 | .own _,.own _,h=>by cases h;rfl
 | .part _ _,.part _ _,h=>by cases h;rfl
 | .bin o a b,.bin p c d,h=>by
  have h:Pt.node o [pt a,pt b]=.node p [pt c,pt d]:=h
  injection h with h1 h2
  injection h2 with h2 h3
  injection h3 with h3 _
  rw [h1,fg h2,fg h3]
 | .whn a b c,.whn d e f,h=>by
  have h:Pt.node "when" [pt a,pt b,pt c]=.node "when" [pt d,pt e,pt f]:=h
  injection h with h1 h2
  injection h2 with h2 h3
  injection h3 with h3 h4
  injection h4 with h4 _
  rw [fg h2,fg h3,fg h4]
 | .num _,.own _,h=>by cases h
 | .num _,.part _ _,h=>by cases h
 | .num _,.bin _ _ _,h=>by cases h
 | .num _,.whn _ _ _,h=>by cases h
 | .own _,.num _,h=>by cases h
 | .own _,.part _ _,h=>by cases h
 | .own _,.bin _ _ _,h=>by cases h
 | .own _,.whn _ _ _,h=>by cases h
 | .part _ _,.num _,h=>by cases h
 | .part _ _,.own _,h=>by cases h
 | .part _ _,.bin _ _ _,h=>by cases h
 | .part _ _,.whn _ _ _,h=>by cases h
 | .bin _ _ _,.num _,h=>by cases h
 | .bin _ _ _,.own _,h=>by cases h
 | .bin _ _ _,.part _ _,h=>by cases h
 | .bin _ _ _,.whn _ _ _,h=>by injection h with _ h2;injection h2 with _ h3;injection h3 with _ h4;cases h4
 | .whn _ _ _,.num _,h=>by cases h
 | .whn _ _ _,.own _,h=>by cases h
 | .whn _ _ _,.part _ _,h=>by cases h
 | .whn _ _ _,.bin _ _ _,h=>by injection h with _ h2;injection h2 with _ h3;injection h3 with _ h4;cases h4
theorem sL {f g:Fm} (hf:f.wf) (hg:g.wf) (sf:f.size<=15) (sg:g.size<=15) (h:f.wr=g.wr):f=g:=by
 have h1:=(cX hf sf rfl).1
 have h2:=(cX hg sg h.symm).1
 rw [h1]at h2
 exact fg (List.cons.inj (Option.some.inj h2)).1
noncomputable def dh:Fm->List Fm
 | .bin _ a b=>[a,b]
 | .whn a b c=>[a,b,c]
 | _=>[]
noncomputable def hdW:Fm->Str
 | .num _=>"num"
 | .own _=>"own"
 | .part _ _=>"part"
 | .bin op _ _=>op
 | .whn _ _ _=>"when"
noncomputable def szF:List Fm->Nat
 | []=>0
 | f::r=>f.size+szF r
theorem fW: ∀ a b:List Fm,szF (a++b)=szF a+szF b
 | [],b=>(Nat.zero_add _).symm
 | f::r,b=>by
  show f.size+szF (r++b)=f.size+szF r+szF b
  rw [fW r b,Nat.add_assoc]
theorem ir: ∀ l:List Fm,l.length<=szF l
 | []=>Nat.le_refl _
 | f::r=>by
  have:=ir r
  have:=f.size_pos
  show r.length+1<=f.size+szF r
  omega
theorem gW: ∀ f:Fm,f.size=szF (dh f) +1
 | .num _=>rfl
 | .own _=>rfl
 | .part _ _=>rfl
 | .bin _ a b=>by show a.size+b.size+1=a.size+ (b.size+0) +1;omega
 | .whn a b c=>by show a.size+b.size+c.size+1=a.size+ (b.size+ (c.size+0)) +1;omega
theorem sd: ∀ f:Fm,f.wf-> ∀ g∈dh f,g.wf
 | .num _,_,g,h=>by cases h
 | .own _,_,g,h=>by cases h
 | .part _ _,_,g,h=>by cases h
 | .bin op a b,hw,g,h=>by
  obtain ⟨_,h1,h2⟩:op∈ops/\a.wf/\b.wf:=hw
  rcases List.mem_cons.mp h with rfl | h
  ·exact h1
  rcases List.mem_cons.mp h with rfl | h
  ·exact h2
  ·cases h
 | .whn a b c,hw,g,h=>by
  obtain ⟨h1,h2,h3⟩:a.wf/\b.wf/\c.wf:=hw
  rcases List.mem_cons.mp h with rfl | h
  ·exact h1
  rcases List.mem_cons.mp h with rfl | h
  ·exact h2
  rcases List.mem_cons.mp h with rfl | h
  ·exact h3
  ·cases h
noncomputable def nxF:List Fm->List Fm
 | []=>[]
 | g::r=>dh g++r
noncomputable def stF (fs:List Fm):Nat->List Fm
 | 0=>fs
 | i+1=>nxF (stF fs i)
theorem kc (fs:List Fm): ∀ i,stF fs (i+1)=stF (nxF fs) i
 | 0=>rfl
 | i+1=>by
  show nxF (stF fs (i+1))=nxF (stF (nxF fs) i)
  rw [kc fs i]
theorem gg {H:Hp} {f:Fm} {v:V} (h:Rep H f v) (wf:f.wf): ∃ a r,v=.ref a/\H a=some (.tup (.str (hdW f)::r))/\r.length<=3/\(hdW f).length<=1000/\Paired (Rep H) (dh f) (bz (.str (hdW f)::r)):=by
 cases f with
 | num n=>
  obtain ⟨a,e,h⟩:=h
  refine ⟨a,_,e,h,by simp,by show ("num":Str).length<=1000;decide +kernel,?_⟩
  show Paired (Rep H) [] (if (a8 "num").isSome=true then [.int n]else [])
  rw [ft]
  exact .nil
 | own x=>
  obtain ⟨a,e,h⟩:=h
  refine ⟨a,_,e,h,by simp,by show ("own":Str).length<=1000;decide +kernel,?_⟩
  show Paired (Rep H) [] (if (a8 "own").isSome=true then [.str x]else [])
  rw [fq]
  exact .nil
 | part k x=>
  obtain ⟨a,e,h⟩:=h
  refine ⟨a,_,e,h,by simp,by show ("part":Str).length<=1000;decide +kernel,?_⟩
  show Paired (Rep H) [] (if (a8 "part").isSome=true then [.int k,.str x]else [])
  rw [dY]
  exact .nil
 | bin op A B=>
  obtain ⟨a,u,w,e,h,rA,rB⟩:=h
  refine ⟨a,_,e,h,by simp,hU wf.1,?_⟩
  show Paired (Rep H) [A,B] (if (a8 op).isSome=true then _ else [])
  rw [if_pos (show (a8 op).isSome=true by rw [ic wf.1];rfl)]
  exact .cons rA (.cons rB .nil)
 | whn A B C=>
  obtain ⟨a,u,w,z,e,h,rA,rB,rC⟩:=h
  refine ⟨a,_,e,h,by simp,by show ("when":Str).length<=1000;decide +kernel,?_⟩
  show Paired (Rep H) [A,B,C] (if (a8 "when").isSome=true then _ else [])
  rw [if_pos (show (a8 "when").isSome=true by decide +kernel)]
  exact .cons rA (.cons rB (.cons rC .nil))
theorem gi {α β:Type} {F:α->β->Prop}: ∀ {a c:List α} {b d:List β},Paired F a b->Paired F c d->Paired F (a++c) (b++d)
 | _,_,_,_,.nil,h=>h
 | _,_,_,_,.cons h t,h2=>.cons h (gi t h2)
theorem uD {H:Hp}: ∀ (n:Nat) {fs:List Fm} {ws:List V},szF fs=n->(∀ f∈fs,f.wf)->Paired (Rep H) fs ws->
  ∃ out,Ts H ws out/\out.length=n/\stF fs n=[]/\ ∀ i v,out[i]? =some v-> ∃ g r,stF fs i=g::r/\Rep H g v/\g.wf/\g.size+szF r+i=n:=by
 intro n
 induction n with
 | zero=>
  intro fs ws h hw hP
  cases hP with
  | nil=>exact ⟨[],.nil,rfl,rfl,fun i v e=>by cases i <;> cases e⟩
  | @cons f v fs ws _ _=>
   have h:f.size+szF fs=0:=h
   have:=f.size_pos
   omega
 | succ n ih=>
  intro fs ws h hw hP
  cases hP with
  | nil=>cases h
  | @cons f v fs ws hR hP=>
   have h:f.size+szF fs=n+1:=h
   have wf:=hw f List.mem_cons_self
   have hk:=gW f
   obtain ⟨a,r,rfl,ha,hr,hl,hK⟩:=gg hR wf
   obtain ⟨out,h1,h2,h3,h4⟩:=ih (fs:=dh f++fs) (by rw [fW];omega) (fun g hg=>by
    rcases List.mem_append.mp hg with hg | hg
    ·exact sd f wf g hg
    ·exact hw g (List.mem_cons_of_mem _ hg)) (gi hK hP)
   refine ⟨.ref a::out,.cons ha hl hr h1,by rw [List.length_cons,h2],by rw [kc];exact h3,fun i v e=>?_⟩
   cases i with
   | zero=>
    cases e
    exact ⟨f,fs,rfl,hR,wf,by omega⟩
   | succ i=>
    obtain ⟨g,r',e1,e2,e3,e4⟩:=h4 i v e
    exact ⟨g,r',by rw [kc];exact e1,e2,e3,by omega⟩
noncomputable def wrF (f:Fm):V:=.str f.wr
noncomputable def dQ:Sp:=fun vs H Q _=> ∃ v f,vs=[v]/\Rep H f v/\f.wf/\dh f=[]/\ ∀ H',Same H H'->Q (.str f.wr) H'
theorem kg:au ["leaf"] ["leaf"] (ag fc):=fsc
theorem jt (F:Fun K "show_leaf" "show_leaf" fc f fd) (G:Gb mg):FnOk P w K mg base CX0 1 f fd ["leaf"] dQ:=by
 refine F.ok kg (fun vs H Q E h=>?_) (fun cdv A outer s H vs Q E hr h=>?_)
 ·obtain ⟨v,fm,rfl,_⟩:=h
  rfl
 obtain ⟨v,fm,rfl,rp,wf,hk,q⟩:=h
 refine ⟨_,af (aV (aA bh (aF a9 (pv 0) ae (fun _ _=>rfl)) ao (aB _)) (ak (ar (bo cc rfl G.str (by decide +kernel) (aa (aF a9 (pv 0) ae (fun _ _=>rfl)) ad)))) aE)
  (af (aV (aA bh (aF a9 (pv 0) ae (fun _ _=>rfl)) ao (aB _)) (ak (ar (am ay ao (aF a9 (pv 0) ae (fun _ _=>rfl))))) aE)
  (ak (ar (am ay (am ay (bo cc rfl G.str (by decide +kernel) (aa (aF a9 (pv 0) ae (fun _ _=>rfl)) ad)) ao) (aF a9 (pv 0) ae (fun _ _=>rfl)))))),?_⟩
 have lo:("own.":Str).length=4:=by decide +kernel
 have ld:(".":Str).length=1:=by decide +kernel
 cases fm with
 | num m=>
  obtain ⟨a,rfl,ha⟩:=rp
  obtain ⟨h0,h1⟩: -999999<=m/\m<=999999:=wf
  refine ⟨_,rfl,a,_,0,.str "num",rfl,rfl,SqT.of ha,ce,rfl,_,rfl,?_⟩
  rw [c7]
  refine cL ?_
  exact ⟨_,rfl,a,_,1,.int m,rfl,rfl,SqT.of ha,aW (j:=1) rfl,m,rfl,dJ h0 h1,q H (Same.refl H)⟩
 | own x=>
  obtain ⟨a,rfl,ha⟩:=rp
  have hx:=fz (show aT x=true from wf)
  refine ⟨_,rfl,a,_,0,.str "own",rfl,rfl,SqT.of ha,ce,rfl,_,rfl,?_⟩
  rw [cm (show ("own":Str)≠"num" by decide +kernel)]
  refine bJ ⟨_,rfl,a,_,0,.str "own",rfl,rfl,SqT.of ha,ce,rfl,_,rfl,?_⟩
  rw [c7]
  refine cL ?_
  exact ⟨_,rfl,a,_,1,.str x,rfl,rfl,SqT.of ha,aW (j:=1) rfl,_,_,rfl,rfl,Nat.le_of_lt (aU (by omega)),q H (Same.refl H)⟩
 | part k x=>
  obtain ⟨a,rfl,ha⟩:=rp
  obtain ⟨⟨h0,h1⟩,hx⟩:(0<=k/\k<=2)/\aT x=true:=wf
  have hx:=fz hx
  have hk:=eE (n:=k) (by omega) (by omega)
  refine ⟨_,rfl,a,_,0,.str "part",rfl,rfl,SqT.of ha,ce,rfl,_,rfl,?_⟩
  rw [cm (show ("part":Str)≠"num" by decide +kernel)]
  refine bJ ⟨_,rfl,a,_,0,.str "part",rfl,rfl,SqT.of ha,ce,rfl,_,rfl,?_⟩
  rw [cm (show ("part":Str)≠"own" by decide +kernel)]
  refine bJ ?_
  refine ⟨_,rfl,a,_,1,.int k,rfl,rfl,SqT.of ha,aW (j:=1) rfl,k,rfl,dJ (by omega) (by omega),?_⟩
  exact ⟨aX k,_,rfl,rfl,Nat.le_of_lt (aU (by omega)),_,rfl,a,_,2,.str x,rfl,rfl,SqT.of ha,aW (j:=2) rfl,_,_,rfl,rfl,Nat.le_of_lt (aU (by rw [aS];omega)),q H (Same.refl H)⟩
 | bin op A B=>cases hk
 | whn A B C=>cases hk
noncomputable def mks:Fm->List Str
 | .bin op _ _=>[mkT op]
 | .whn _ _ _=>["?",":"]
 | _=>[]
noncomputable def jy (ks:List (Str×Addr)):List (Key×V):=ks.map fun q=>(Sum.inr q.1,.ref q.2)
theorem qf {fm:Fm} (wf:fm.wf) (hk:dh fm≠[]):(hdW fm,mks fm)∈MK:=by
 cases fm with
 | num m=>exact absurd rfl hk
 | own m=>exact absurd rfl hk
 | part m k=>exact absurd rfl hk
 | whn A B C=>exact List.mem_iff_getElem?.mpr ⟨5,rfl⟩
 | bin op A B=>
  have h:op∈ops:=wf.1
  unfold ops at h
  simp only [List.mem_cons,List.not_mem_nil,or_false]at h
  rcases h with rfl | rfl | rfl | rfl | rfl
  ·exact List.mem_iff_getElem?.mpr ⟨0,by show MK[0]? =some (("plus":Str),[mkT "plus"]);decide +kernel⟩
  ·exact List.mem_iff_getElem?.mpr ⟨1,by show MK[1]? =some (("less":Str),[mkT "less"]);decide +kernel⟩
  ·exact List.mem_iff_getElem?.mpr ⟨2,by show MK[2]? =some (("times":Str),[mkT "times"]);decide +kernel⟩
  ·exact List.mem_iff_getElem?.mpr ⟨3,by show MK[3]? =some (("least":Str),[mkT "least"]);decide +kernel⟩
  ·exact List.mem_iff_getElem?.mpr ⟨4,by show MK[4]? =some (("most":Str),[mkT "most"]);decide +kernel⟩
theorem nG {l:List (Str×List Str)} {ks:List (Str×Addr)} {k:Str} {ms:List Str} (nd:(l.map (·.1)).Nodup) (hP:Paired (fun (q:Str×List Str) (r:Str×Addr)=>q.1=r.1/\ ∀ H,SqT K H r.2 (q.2.map V.str)) l ks) (h:(k,ms)∈l):
  ∃ M,db (jy ks) (.inr k)=some (.ref M)/\ ∀ H,SqT K H M (ms.map V.str):=by
 induction hP with
 | nil=>cases h
 | @cons q r l ks hq _ ih=>
  obtain ⟨e,hS⟩:=hq
  rw [List.map_cons,List.nodup_cons]at nd
  rcases List.mem_cons.mp h with e2 | h
  ·subst e2
   exact ⟨r.2,fS (show (Sum.inr r.1:Key)=.inr k by rw [<- e]),hS⟩
  ·obtain ⟨M,h1,h2⟩:=ih nd.2 h
   refine ⟨M,?_,h2⟩
   show db ((Sum.inr r.1,V.ref r.2)::jy ks) (.inr k)=_
   rw [bQ (fun z=>nd.1 ?_),h1]
   have:r.1=k:=Sum.inr.inj z
   rw [e,this]
   exact List.mem_map.mpr ⟨_,h,rfl⟩
theorem vz:(MK.map (·.1)).Nodup:=by decide +kernel
noncomputable def sY:Sp:=fun vs H Q _=> ∃ p g,vs=[.str (hdW g),.ref p]/\H p=some (.lst ((dh g).map wrF))/\g.wf/\g.size<=15/\dh g≠[]/\ ∀ H',Same H H'->Q (.str g.wr) H'
noncomputable def wds (w0:Str) (z:List (Str×Str)):List Str:=w0::z.flatMap fun q=>[q.1,q.2]
theorem ou {w0:Str} {z:List (Str×Str)} {i:Nat} {m t:Str} (h:z[i]? =some (m,t)):wds w0 (z.take (i+1))=wds w0 (z.take i)++[m]++[t]:=by
 unfold wds
 rw [List.take_add_one,h,List.flatMap_append,List.append_assoc]
 rfl
theorem qg:("(":Str).length=1/\(")":Str).length=1/\(" ":Str).length=1/\("?":Str).length=1/\(":":Str).length=1/\(" ? ":Str).length=3/\(" : ":Str).length=3:=by decide +kernel
theorem vq {g:Fm} (wf:g.wf) (h15:g.size<=15) (hk:dh g≠[]): ∃ g0 r,dh g=g0::r/\r.length=(mks g).length/\r.length<=2/\((wds g0.wr ((mks g).zip (r.map Fm.wr))).map (·.length)).sum+ (wds g0.wr ((mks g).zip (r.map Fm.wr))).length<=960/\
  "("++Builtin.Str.glued " " (wds g0.wr ((mks g).zip (r.map Fm.wr)))++")"=g.wr:=by
 cases g with
 | num m=>exact absurd rfl hk
 | own m=>exact absurd rfl hk
 | part m k=>exact absurd rfl hk
 | bin op a b=>
  obtain ⟨ho,h1,h2⟩:op∈ops/\a.wf/\b.wf:=wf
  have i1:=bE a h1
  have i2:=bE b h2
  have i3:=iK op
  have h15:a.size+b.size+1<=15:=h15
  refine ⟨a,[b],rfl,rfl,by simp,?_,?_⟩
  ·show (a.wr.length+ ((mkT op).length+ (b.wr.length+0))) +3<=960
   omega
  ·show "("++Builtin.Str.glued " " [a.wr,mkT op,b.wr]++")"="("++a.wr++(" "++mkT op++" ")++b.wr++")"
   rw [StrLaws.glued_eq_join]
   show "("++(a.wr++" "++(mkT op++" "++b.wr))++")"="("++a.wr++(" "++mkT op++" ")++b.wr++")"
   apply bi
   simp only [aN,List.append_assoc]
 | whn a b c=>
  obtain ⟨h1,h2,h3⟩:a.wf/\b.wf/\c.wf:=wf
  have i1:=bE a h1
  have i2:=bE b h2
  have i3:=bE c h3
  have h15:a.size+b.size+c.size+1<=15:=h15
  obtain ⟨_,_,_,l4,l5,_,_⟩:=qg
  refine ⟨a,[b,c],rfl,rfl,by simp,?_,?_⟩
  ·show (a.wr.length+ (("?":Str).length+ (b.wr.length+ ((":":Str).length+ (c.wr.length+0))))) +5<=960
   omega
  ·show "("++Builtin.Str.glued " " [a.wr,"?",b.wr,":",c.wr]++")"="("++a.wr++" ? "++b.wr++" : "++c.wr++")"
   rw [StrLaws.glued_eq_join]
   show "("++(a.wr++" "++("?"++" "++(b.wr++" "++(":"++" "++c.wr))))++")"="("++a.wr++" ? "++b.wr++" : "++c.wr++")"
   have e1:(" ? ":Str).cps.toList=(" ":Str).cps.toList++(("?":Str).cps.toList++(" ":Str).cps.toList):=by decide +kernel
   have e2:(" : ":Str).cps.toList=(" ":Str).cps.toList++((":":Str).cps.toList++(" ":Str).cps.toList):=by decide +kernel
   apply bi
   simp only [aN,List.append_assoc,e1,e2]
theorem qj {ws:List Str} (h:(ws.map (·.length)).sum+ws.length<=960):Builtin.Str.tooLong (ws.toArray.foldl (· + ·.length+ ((" ":Str)).length) 0)=false/\(Builtin.Str.glued " " ws).length<=960:=by
 have k:(Builtin.Str.glued " " ws).length<=(ws.map (·.length)).sum+ws.length* (" ":Str).length:=by
  rw [StrLaws.glued_eq_join];exact StrLaws.join_length_le " " ws
 have t:=StrLaws.joinTotal " " ws
 obtain ⟨_,_,l3,_⟩:=qg
 rw [l3]at k
 refine ⟨?_,by omega⟩
 rw [t,l3]
 unfold Builtin.Str.tooLong
 exact decide_eq_false (by rw [sizeLine_eq];omega)
noncomputable abbrev NBr:List Str:=["kind","inner","words","mark","text"]
theorem scBr:au NBr ["kind","inner"] (ag dS):=fsc
theorem u9 (F:Fun K "bracketed" "bracketed" dS f fd) (hzip:mg "zip"=none) (mM:mg "MARKS"=some (.ref aM)) (M:iW K aM ks) (D:iX P w K aM (jy ks)):FnOk P w K mg base CX0 1 f fd ["kind","inner"] sY:=by
 refine F.ok scBr (fun vs H Q E h=>?_) (fun cdv A outer s H vs Q E hr h=>?_)
 ·obtain ⟨v,fm,rfl,_⟩:=h
  rfl
 obtain ⟨p,g,rfl,hp,wf,h15,hk,q⟩:=h
 refine ⟨_,af (av (i:=2) scBr.nd rfl (Or.inl rfl) (bq (aa (aF aJ (pv 1) ae (fun _ _=>rfl)) ad)))
  (af (kr PassesOwn.never rfl (rq rfl hzip (aa (lN (bO (v:=.ref aM) rfl mM rfl) (pv 0) (fun _ _=>rfl)) (aa (bj et (pv 1) (bt ae) bu) ad)))
    (kw rfl (cZ (bZ (i:=3) scBr.nd rfl (Or.inl rfl)) (cZ (bZ (i:=4) scBr.nd rfl (Or.inl rfl)) iH)))
   (af (bY (dk PySem.F.plainAttrs_list PySem.F.slot_list_append PySem.F.type_list_append bw (pv 2) (aa (pv 3) ad)))
   (ak (bY (dk PySem.F.plainAttrs_list PySem.F.slot_list_append PySem.F.type_list_append bw (pv 2) (aa (pv 4) ad))))))
  (ak (ar (am ay (am ay ao (dk PySem.F.plainAttrs_str PySem.F.slot_str_join PySem.F.type_str_join rT ao (aa (pv 2) ad))) ao)))),?_⟩
 obtain ⟨g0,r,ek,hr2,hr3,hsum,hwr⟩:=vq wf h15 hk
 obtain ⟨M',hM,hS⟩:=nG vz M.pr (qf wf hk)
 obtain ⟨l1,l2,_⟩:=qg
 rw [ek]at hp
 have hp:H p=some (.lst (wrF g0::r.map wrF)):=hp
 refine ⟨_,rfl,p,_,0,wrF g0,rfl,rfl,SqL.of hp,ce,(by show 1<=sizeLine;decide),fun pw hpw=>?_⟩
 have s1:=ai hpw (.lst [wrF g0])
 have g1:(upd H pw (.lst [wrF g0])) pw=some (.lst [wrF g0]):=ac
 generalize upd H pw (.lst [wrF g0])=H1 at s1 g1 ⊢
 refine ⟨_,rfl,aM,_,.inr (hdW g),_,rfl,rfl,D,hM,_,rfl,1,rfl,p,_,rfl,SqL.of (s1 _ _ hp),fun ps hps=>?_⟩
 rw [gE]
 have s2:=ai hps (.lst (r.map wrF))
 have g2:(upd H1 ps (.lst (r.map wrF))) ps=some (.lst (r.map wrF)):=ac
 have gw:=s2 _ _ g1
 have nps:pw≠ps:=fun z=>by rw [<- z,g1]at hps;cases hps
 have S2:=s1.trans s2
 have hps0:H ps=none:=s1.free hps
 generalize upd H1 ps (.lst (r.map wrF))=H2 at s2 g2 gw S2 ⊢
 have ets:r.map wrF=(r.map Fm.wr).map V.str:=by rw [List.map_map];rfl
 rw [ets]at g2
 have hlz:((mks g).map V.str).length=((r.map Fm.wr).map V.str).length:=by simp only [List.length_map];exact hr2.symm
 have hzl:((mks g).zip (r.map Fm.wr)).length=r.length:=by rw [List.length_zip,List.length_map,<- hr2,Nat.min_self]
 refine ⟨M',ps,_,_,rfl,hS _,g2,?_⟩
 refine qv hlz (fun i Z H'=> ∃ o3 o4,Z=[some (.str (hdW g)),some (.ref p),some (.ref pw),o3,o4]/\Same H H'/\H' ps=some (.lst ((r.map Fm.wr).map V.str))/\H' pw=some (.lst ((wds g0.wr (((mks g).zip (r.map Fm.wr)).take i)).map V.str)))
  ⟨none,none,rfl,S2,g2,gw⟩ (fun i Z H' ⟨_,_,_,_,h,_⟩=>⟨hS _,h⟩) ?_ ?_
 ·rintro i x y Z H3 T hx hy ⟨o3,o4,rfl,S3,g3,gw3⟩ hT
  rw [List.getElem?_map]at hx hy
  obtain ⟨m,hm,rfl⟩: ∃ m,(mks g)[i]? =some m/\x=.str m:=by
   cases e:(mks g)[i]? with
   | none=>rw [e]at hx;cases hx
   | some m=>rw [e]at hx;exact ⟨m,rfl,(Option.some.inj hx).symm⟩
  obtain ⟨t,ht,rfl⟩: ∃ t,(r.map Fm.wr)[i]? =some t/\y=.str t:=by
   cases e:(r.map Fm.wr)[i]? with
   | none=>rw [e]at hy;cases hy
   | some m=>rw [e]at hy;exact ⟨m,rfl,(Option.some.inj hy).symm⟩
  have hz:((mks g).zip (r.map Fm.wr))[i]? =some (m,t):=List.getElem?_zip_eq_some.mpr ⟨hm,ht⟩
  have hi:i<r.length:=by rw [<- hzl];exact (List.getElem?_eq_some_iff.mp hz).1
  have hwl:(wds g0.wr (((mks g).zip (r.map Fm.wr)).take i)).length<=5:=by
   have: ∀ l:List (Str×Str),(wds g0.wr l).length=2*l.length+1:=by
    intro l
    induction l with
    | nil=>rfl
    | cons a b ih=>show (wds g0.wr b).length+2=2* (b.length+1) +1;omega
   rw [this,List.length_take]
   omega
  have s4:=ai hT (.tup [.str m,.str t])
  have g4:(upd H3 T (.tup [.str m,.str t])) T=some (.tup [.str m,.str t]):=ac
  have gw4:=s4 _ _ gw3
  have gs4:=s4 _ _ g3
  have S4:=S3.trans s4
  generalize upd H3 T (.tup [.str m,.str t])=H4 at s4 g4 gw4 gs4 S4 ⊢
  refine ⟨T,_,rfl,SqT.of g4,rfl,_,_,rfl,_,_,rfl,rfl,?_⟩
  refine ⟨_,rfl,.inl ⟨rfl,_,SqL.of gw4⟩,_,rfl,pw,_,_,rfl,rfl,gw4,aG (by rw [List.length_map];omega),?_⟩
  refine ⟨_,rfl,.inl ⟨rfl,_,SqL.of ac⟩,_,rfl,pw,_,_,rfl,rfl,ac,aG (by rw [List.length_append,List.length_map];show _+1<=1000;omega),?_⟩
  rw [bK]
  refine ⟨_,_,rfl,fun b o h=>?_,?_,?_⟩
  ·rw [ah (aj h hpw)]
   exact S4 _ _ h
  ·rw [ah (Ne.symm nps)]
   exact gs4
  ·rw [ac,ou hz,List.map_append,List.map_append]
   rfl
 ·rintro Z H3 ⟨o3,o4,rfl,S3,g3,gw3⟩
  rw [List.length_map,<- hr2,<- hzl,List.take_length]at gw3
  obtain ⟨j1,j2⟩:=qj hsum
  refine ⟨rfl,_,rfl," ",pw,_,rfl,rfl,SqL.of gw3,j1,Nat.le_of_lt (aG (by omega)),"(",_,rfl,rfl,Nat.le_of_lt (aG (by omega)),_,_,rfl,rfl,Nat.le_of_lt (aG (by rw [aS];omega)),?_⟩
  have q:=q H3 S3
  rw [<- hwr]at q
  exact q
noncomputable def oQ (c':Addr) (oc:Obj):Sp:=fun vs H Q _=> ∃ g v p,vs=[v,.ref p]/\Rep H g v/\g.wf/\g.size<=15/\H p=some (.lst ((dh g).map wrF))/\H c'=some (fJ c' oc)/\ ∀ H',Same H H'->Q (.str g.wr) H'
noncomputable def ke (P:Program) (w:World) (K:PySem.W.Frag) (mg:Str->Option Value) (base:Heap):Sp:=fun vs H Q _=>
 ∃ f v fl c' oc,vs=[v,.ref fl]/\Rep H f v/\f.wf/\f.size<=15/\iV P w K mg base 2 fl (oQ c' oc)/\H c'=some (fJ c' oc)/\ ∀ H',Same H H'->Q (.str f.wr) H'
noncomputable abbrev sJ:List Str:=["formula","tell","pile","one","inner"]
theorem scFold:au sJ ["formula","tell"] (ag fM):=fsc
theorem nA (F:Fun K "folded" "folded" fM f fd) (G:Gb mg) (hrev:mg "reversed"=none)
  (GT:FnOk P w K mg base CX0 2 f2 fd2 ["formula"] jc) (bT:Binds K fd2 ["formula"] []) (kT:PySem.W.keepIn K (.ref f2)=true) (mT:mg "tuples_of"=some (.ref f2))
  (GI:FnOk P w K mg base CX0 1 f3 fd3 ["formula"] fL) (bI:Binds K fd3 ["formula"] []) (kI:PySem.W.keepIn K (.ref f3)=true) (mI:mg "inner_of"=some (.ref f3)):
  FnOk P w K mg base CX0 3 f fd ["formula","tell"] (ke P w K mg base):=by
 refine F.ok scFold (fun vs H Q E h=>?_) (fun cdv A outer s H vs Q E hr h=>?_)
 ·obtain ⟨n,t,tv,c',oc,rfl,_⟩:=h
  rfl
 obtain ⟨fm,v,fl,c',oc,rfl,hR,wf,h15,hT,hc,q⟩:=h
 refine ⟨_,af (av (i:=2) scFold.nd rfl (Or.inr rfl) (bq ad))
  (af (kr PassesOwn.never rfl (tO rfl hrev (aq GT hr rfl mT kT bT .nil aL (aa (pv 0) ad))) (bZ (i:=3) scFold.nd rfl (Or.inl rfl))
   (af (dG (i:=4) (te:=uR K "list" uV (sP 1)) (sc0:=ag fM) (N0:=sJ) (ys:=["pile"]) (fr:=[2]) rfl scFold.nd rfl (Or.inl rfl)
     (cY rfl G.range (aa (al ax rfl G.len PySem.boot_len (aa (aq GI (hr.mono (by omega)) rfl mI kI bI .nil aL (aa (pv 3) ad)) ad)) ad)) rfl rfl
    cok
    (fun C s H ex=>fi PySem.F.plainAttrs_list PySem.F.slot_list_pop PySem.F.type_list_pop fj (pv 1)))
   (ak (bY (dk PySem.F.plainAttrs_list PySem.F.slot_list_append PySem.F.type_list_append bw (pv 2) (aa
    (pG (i:=1) hT hr rfl (Or.inl rfl) (aa (pv 3) (aa (pv 4) ad))) ad))))))
  (ak (ar (fi PySem.F.plainAttrs_list PySem.F.slot_list_pop PySem.F.type_list_pop fj (pv 2))))),?_⟩
 obtain ⟨out,hTs,hol,hend,hat⟩:=uD (H:=H) fm.size (fs:=[fm]) (ws:=[v]) rfl (fun g hg=>by
  rcases List.mem_cons.mp hg with rfl | z
  ·exact wf
  ·cases z) (.cons hR .nil)
 refine ⟨(by show 0<=sizeLine;decide),fun pl hpl=>?_⟩
 have s0:=ai hpl (.lst [])
 have g0:(upd H pl (.lst [])) pl=some (.lst []):=ac
 generalize upd H pl (.lst [])=H0 at s0 g0 ⊢
 refine ⟨_,rfl,v,out,rfl,hTs.same s0,by omega,fun lv H1 S1 g1=>⟨lv,out,rfl,SqL.of g1,?_⟩⟩
 have S01:=s0.trans S1
 have gp1:=S1 _ _ g0
 have nlp:lv≠pl:=fun z=>by
  rw [z,gp1]at g1
  cases g1
  have:=fm.size_pos
  rw [<- hol]at this
  cases this
 refine sj (fun i Z H'=>i<=out.length/\ ∃ o3 o4,Z=[some v,some (.ref fl),some (.ref pl),o3,o4]/\Same H H'/\H' lv=some (.lst out)/\H' pl=some (.lst ((stF [fm] (out.length-i)).map wrF).reverse))
  ⟨Nat.zero_le _,none,none,rfl,S01,g1,?_⟩ (fun i Z H' _ h=>by obtain ⟨_,_,_,_,_,g,_⟩:=h;exact SqL.of g) ?_ ?_
 ·rw [Nat.sub_zero,hol,hend];exact gp1
 ·rintro i x Z H3 hi hx ⟨_,o3,o4,rfl,S3,g3,gp3⟩
  obtain ⟨g,r,e1,hRg,wg,hsz⟩:=hat _ _ hx
  have hsr:=ir r
  have hgs:=gW g
  have hkl:=ir (dh g)
  obtain ⟨a,r',rfl,ha,hr3,hl,hK⟩:=gg hRg wg
  have hlk:(dh g).length=(bz (.str (hdW g)::r')).length:=Paired.length hK
  rw [show out.length-i=out.length-1-i+1 by omega]at gp3
  have gp3:H3 pl=some (.lst ((nxF (stF [fm] (out.length-1-i))).map wrF).reverse):=gp3
  rw [e1]at gp3
  have gp3:H3 pl=some (.lst ((dh g++r).map wrF).reverse):=gp3
  rw [List.map_append,List.reverse_append]at gp3
  refine ⟨_,rfl,a,hdW g,r',rfl,S3 _ _ ha,by omega,fun p4 H4 s4 g4=>⟨p4,_,rfl,.inr (SqT.of g4),_,rfl,by omega,by omega,?_⟩⟩
  have gp4:=s4 _ _ gp3
  have gl4:=s4 _ _ g3
  have S4:=S3.trans s4
  refine nW (n:=(dh g).length) (by omega) (List.length_map _) gp4 (fun i H k h=>(show i<_ by omega)) (fun H k=>(show _<=_ by omega)) (fun i H v H' h=>h.1)
   (fun x H k xs y h1 h2 h3=>⟨_,rfl,.inl ⟨rfl,xs,SqL.of h1⟩,pl,xs,y,rfl,rfl,h1,h2,h3⟩) ?_
  intro p5 H5 hp5 k5 gp5 g5
  have np:p5≠pl:=fun z=>by rw [z,gp4]at hp5;cases hp5
  have S5: ∀ b o,H b=some o->H5 b=some o:=fun b o h=>k5 _ _ (S4 _ _ h) (aj h hpl)
  have gl5:=k5 _ _ gl4 nlp
  refine ⟨_,rfl,.inl ⟨rfl,_,SqL.of gp5⟩,rfl,_,rfl,_,rfl,g,.ref a,p5,rfl,hRg.mono (fun b xs h=>S5 _ _ h),wg,by omega,g5,S5 _ _ hc,fun H6 s6=>?_⟩
  have gp6:=s6 _ _ gp5
  refine ⟨pl,_,_,rfl,rfl,gp6,aG (by rw [List.length_reverse,List.length_map];omega),?_⟩
  refine ⟨hi,_,_,rfl,fun b o h=>?_,?_,?_⟩
  ·rw [ah (aj h hpl)]
   exact s6 _ _ (S5 _ _ h)
  ·rw [ah nlp];exact s6 _ _ gl5
  ·rw [ac,show out.length- (i+1)=out.length-1-i by omega,e1,List.map_cons,List.reverse_cons];rfl
 ·rintro Z H3 ⟨_,o3,o4,rfl,S3,g3,gp3⟩
  rw [Nat.sub_self]at gp3
  refine ⟨_,rfl,.inl ⟨rfl,_,SqL.of gp3⟩,pl,_,.str fm.wr,rfl,rfl,gp3,rfl,q _ fun y oo h=>?_⟩
  rw [ah (aj h hpl)]
  exact S3 _ _ h
noncomputable def rX:Expr:=match bd gb with
 | [.Return (some (.Call _ [_,l] _ _)) _]=>l
 | _=>.Constant .none 0 ⟨0,0,0,0⟩
noncomputable def vP:Arguments:=match rX with
 | .Lambda a _ _ _=>a
 | _=>{posonlyargs:=[],args:=[],vararg:=none,kwonlyargs:=[],kw_defaults:=[],kwarg:=none,defaults:=[]}
noncomputable def vO:Expr:=match rX with
 | .Lambda _ b _ _=>b
 | _=>.Constant .none 0 ⟨0,0,0,0⟩
noncomputable def t7:Scope:=match rX with
 | .Lambda _ _ s _=>s
 | _=>{kind:=.function,names:=[],isGenerator:=false,isCoroutine:=false}
noncomputable def lamP:Pos:=match rX with
 | .Lambda _ _ _ p=>p
 | _=>⟨0,0,0,0⟩
theorem uT:jW ["one","inner"] [] t7:=⟨rfl,rfl,rfl,by decide +kernel,by decide +kernel,by decide +kernel,by decide +kernel,by decide +kernel⟩
theorem ua:ls (ag gb) ["formula"] t7 [] []:=⟨by decide +kernel,rfl,fun q h=>by cases h⟩
noncomputable def TabSt (tbA:Addr) (H:Hp):Prop:=H tbA=some (.tbl #[])\/ ∃ c' oc,H tbA=some (.tbl #[rawInt lamP.line,rawInt lamP.col,.ref c'])/\c'≠tbA/\H c'=some (fJ c' oc)/\fP oc ("show_formula.<locals>."++"<lambda>")
theorem TabSt.same {tbA:Addr} {H H':Hp} (s:Same H H') (h:TabSt tbA H):TabSt tbA H':=by
 rcases h with h | ⟨c',oc,h1,h2,h3,h4⟩
 ·exact .inl (s _ _ h)
 ·exact .inr ⟨c',oc,s _ _ h1,h2,s _ _ h3,h4⟩
noncomputable def lB (tbA:Addr):Sp:=fun vs H Q _=> ∃ f v,vs=[v]/\Rep H f v/\f.wf/\f.size<=15/\TabSt tbA H/\ ∀ H',Kp tbA H H'->TabSt tbA H'->Q (.str f.wr) H'
theorem jE {qual:Str} {cl:List (Str×Addr)} {fl c':Addr} {oc:Obj}
  (GB:FnOk P w K mg base CX0 1 f3 fd3 ["kind","inner"] sY) (bB:Binds K fd3 ["kind","inner"] []) (kB:PySem.W.keepIn K (.ref f3)=true) (mB:mg "bracketed"=some (.ref f3))
  (GL:FnOk P w K mg base CX0 1 f4 fd4 ["leaf"] dQ) (bL:Binds K fd4 ["leaf"] []) (kL:PySem.W.keepIn K (.ref f4)=true) (mL:mg "show_leaf"=some (.ref f4))
  (hoc:fP oc qual) (hL:mn base cl [] [] fl c' "<lambda>" qual vP vO t7):iV P w K mg base 2 fl (oQ c' oc):=by
 obtain ⟨⟨pm,ctv,hfl⟩,hcell,hinj,hcap,hcs⟩:=hL
 obtain ⟨vc,tq,hd,hq⟩:=hoc
 refine tZ (ps:=["one","inner"]) (ys:=[]) (cs:=[]) hfl hd hq uT hcell hinj hcap hcs (fun us hl=>?_) (fun vs H Q h=>?_) (fun vs H Q h=>?_) (fun A outer s H vs Q hr h=>?_)
 ·match us,hl with
  | [_,_],_=>rfl
 ·obtain ⟨g,v,p,rfl,_⟩:=h
  rfl
 ·obtain ⟨g,v,p,rfl,_,_,_,_,h,_⟩:=h
  exact h
 ·obtain ⟨g,v,p,rfl,hR,wf,h15,hp,_,q⟩:=h
  refine ⟨_,eC (dv (pv 1) (fun _=>rfl)) (aq GB hr rfl mB kB bB .nil aL (aa (aF a9 (pv 0) ae (fun _ _=>rfl)) (aa (pv 1) ad))) (aq GL hr rfl mL kL bL .nil aL (aa (pv 0) ad)),?_⟩
  refine ⟨_,rfl,_,.inl ⟨_,SqL.of hp,rfl⟩,?_⟩
  refine aZ (fun c=>?_) (fun c=>?_)
  ·have hk:dh g≠[]:=fun z=>by rw [z]at c;cases c
   obtain ⟨a,r,rfl,ha,_⟩:=gg hR wf
   exact ⟨_,rfl,a,_,0,_,rfl,rfl,SqT.of ha,ce,_,rfl,p,g,rfl,hp,wf,h15,hk,q⟩
  ·have hk:dh g=[]:=by
    cases hu:dh g with
    | nil=>rfl
    | cons x l=>rw [hu]at c;exact absurd rfl c
   exact ⟨_,rfl,v,g,rfl,hR,wf,hk,q⟩
theorem qU:au ["formula"] ["formula"] (ag gb):=fsc
theorem pS (F:Fun K "show_formula" "show_formula" gb f fd) (hfc:fd.code=.ref c) (hC:PySem.W.CodeHd base c tbA) (hB:base.BuiltinsAt mg tbA)
  (GF: ∀ base,FnOk P w K mg base CX0 3 f2 fd2 ["formula","tell"] (ke P w K mg base)) (bF:Binds K fd2 ["formula","tell"] []) (kF:PySem.W.keepIn K (.ref f2)=true) (mF:mg "folded"=some (.ref f2))
  (GB: ∀ base,FnOk P w K mg base CX0 1 f3 fd3 ["kind","inner"] sY) (bB:Binds K fd3 ["kind","inner"] []) (kB:PySem.W.keepIn K (.ref f3)=true) (mB:mg "bracketed"=some (.ref f3))
  (GL: ∀ base,FnOk P w K mg base CX0 1 f4 fd4 ["leaf"] dQ) (bL:Binds K fd4 ["leaf"] []) (kL:PySem.W.keepIn K (.ref f4)=true) (mL:mg "show_leaf"=some (.ref f4)):
  FnOk P w K mg base CX0 4 f fd ["formula"] (lB tbA):=by
 refine F.okC qU (fun vs H Q E h=>?_) (fun A outer s H vs Q E hr h=>?_)
 ·obtain ⟨fm,v,rfl,_⟩:=h
  rfl
 obtain ⟨fm,v,rfl,hR,wf,h15,hTb,q⟩:=h
 refine ⟨_,ak (ar (ky (spF:=ke P w K mg) (ys:=[]) (fr:=[]) GF hr rfl mF kF bF (pv 0) hC hfc hB ua (fun _=>rfl) rfl)),?_⟩
 rcases hTb with hP | ⟨c',oc,hP,hne,hc',hoc⟩
 ·refine ⟨_,rfl,#[],[],hP,trivial,rfl,.inl ⟨rfl,fun fl c' oc base nc ncP hoc hL=>?_⟩⟩
  refine ⟨fm,v,fl,c',oc,rfl,hR.mono ?_,wf,h15,jE (GB _) bB kB mB (GL _) bL kL mL hoc hL,ac,fun H' sm=>q H' (fun b o h hb=>sm _ _ ?_) (.inr ⟨c',oc,sm _ _ ?_,ncP,sm _ _ ac,hoc⟩)⟩
  ·refine TK.trans (TK.upd fun xs e=>?_) (TK.new ?_)
   ·rw [hP]at e;cases e
   ·rw [ah ncP];exact nc
  ·rw [ah (aj h nc),ah hb];exact h
  ·rw [ah (Ne.symm ncP),ac];rfl
 ·refine ⟨_,rfl,_,[],hP,trivial,rfl,.inr ⟨c',oc,rfl,hc',hoc,fun fl base hL=>?_⟩⟩
  exact ⟨fm,v,fl,c',oc,rfl,hR,wf,h15,jE (GB _) bB kB mB (GL _) bL kL mL hoc hL,hc',fun H' sm=>q H' (fun b o h _=>sm _ _ h) (TabSt.same sm (.inr ⟨c',oc,hP,hne,hc',hoc⟩))⟩
theorem tS {P:Program} {w:World} {C:Addr} {X:Cx}:dC (CX1 P w C) X E0:=fun _ _ _ _ _ _ _ h=>by
 cases h
 rename_i q
 exact q.elim
theorem TabSt.tbl {tbA:Addr} {H:Hp} (h:TabSt tbA H): ∃ t,H tbA=some (.tbl t):=by
 rcases h with h | ⟨_,_,h,_⟩
 ·exact ⟨_,h⟩
 ·exact ⟨_,h⟩
theorem TabSt.tk {tbA:Addr} {H H':Hp} (h:TabSt tbA H) (k:Kp tbA H H'):TK H H':=fun b xs e=>k b _ e fun z=>by
 obtain ⟨t,h⟩:=h.tbl
 rw [z,h]at e
 cases e
theorem TabSt.sql {K:PySem.W.Frag} {tbA a:Addr} {H H':Hp} {xs:List V} (h:TabSt tbA H) (k:Kp tbA H H') (hS:SqL K H a xs):SqL K H' a xs:=by
 obtain ⟨t,h⟩:=h.tbl
 rcases hS with (e | ⟨o,e⟩) | e
 ·exact .inl (.inl (k _ _ e fun z=>by rw [z,h]at e;cases e))
 ·exact .inl (.inr ⟨o,k _ _ e fun z=>by rw [z,h]at e;cases e⟩)
 ·exact .inr e
theorem rY {H H':Hp} {tp:Addr} {o:HO} (h:H tp=none) (k:Kp tp (upd H tp o) H'):Same H H':=fun b u e=>k b u (by rw [ah (aj e h)];exact e) (aj e h)
noncomputable def jd (tbA:Addr):Sp:=fun vs H Q _=> ∃ f v,vs=[v]/\Rep H f v/\f.wf/\f.size<=15/\TabSt tbA H/\ ∀ H',Kp tbA H H'->TabSt tbA H'->Q (.bl true) H'
noncomputable def lF (K:PySem.W.Frag) (tbA:Addr):Sp:=fun vs H Q _=> ∃ (a:Addr) (ns:List Int),vs=[.ref a]/\SqL K H a (ns.map V.int)/\ns.length<=63/\TabSt tbA H/\ ∀ H',Q (.bl true) H'
theorem scRightW:au ["formula","text"] ["formula"] (ag iB):=fsc
theorem nw (F:Fun K "_law_right" "_law_right" iB f fd)
  (GW:FnOk P w K mg base CX0 16 f2 fd2 ["formula"] (dE 15)) (bW:Binds K fd2 ["formula"] []) (kW:PySem.W.keepIn K (.ref f2)=true) (mW:mg "_law_written"=some (.ref f2))
  (GS:FnOk P w K mg base CX0 18 f3 fd3 ["found","due"] (eX 16)) (bS:Binds K fd3 ["found","due"] []) (kS:PySem.W.keepIn K (.ref f3)=true) (mS:mg "_law_same"=some (.ref f3))
  (GH:FnOk P w K mg base CX0 4 f4 fd4 ["formula"] (lB tbA)) (bH:Binds K fd4 ["formula"] []) (kH:PySem.W.keepIn K (.ref f4)=true) (mH:mg "show_formula"=some (.ref f4))
  (GR:eU P w K mg base (CX1 P w C) 5 f5 fd5 ["text"] (lC C)) (bR:Binds K fd5 ["text"] []) (kR:PySem.W.keepIn K (.ref f5)=true) (mR:mg "read_formula"=some (.ref f5)):
  eU P w K mg base CX0 19 f fd ["formula"] (jd tbA):=by
 refine F.okT scRightW (fun vs H Q E h=>?_) (fun cdv A outer s H vs Q E hr h=>?_)
 ·obtain ⟨fm,v,rfl,_⟩:=h
  rfl
 obtain ⟨fm,v,rfl,hR,wf,h15,hTb,q⟩:=h
 refine ⟨_,cj (PS.tk (av (i:=1) scRightW.nd rfl (Or.inl rfl) (aq GW (hr.mono (by omega)) rfl mW kW bW .nil aL (aa (pv 0) ad))))
  (eA (rg (rH (PE.tk (aq GS hr rfl mS kS bS .nil aL (aa (aq GH (hr.mono (by omega)) rfl mH kH bH .nil aL (aa (pv 0) ad)) (aa (pv 1) ad))))
   (rE (gk GS.tk hr rfl mS kS bS .nil aL (pI (gk (E:=E0) GR (hr.mono (by omega)) rfl mR kR bR .nil tS (PA.tk (aa (pv 1) ad))) (PA.tk (aa (pv 0) ad)))))))),?_⟩
 have hwl:=bE fm wf
 refine ⟨_,rfl,v,fm,rfl,hR,wf,h15,by decide,fun H1 s1=>?_⟩
 refine ⟨_,rfl,fm,v,rfl,hR.mono (bV s1),wf,h15,hTb.same s1,fun H2 k2 t2=>?_⟩
 refine ⟨_,rfl,_,_,rfl,.inl ⟨fm.wr,rfl,rfl,by omega⟩,fun H3 s3=>⟨true,rfl,cL ?_⟩⟩
 refine ⟨_,rfl,fm.wr,rfl,by omega,fun f2 v2 H4 hw2 hs2 hwr2 s4 hR2=>?_,fun hno=>absurd rfl (hno fm wf h15)⟩
 have e:=sL hw2 wf hs2 h15 hwr2
 subst e
 have kk:Kp tbA H H4:=fun b o h hb=>s4 _ _ (s3 _ _ (k2 _ _ (s1 _ _ h) hb))
 exact ⟨_,rfl,v2,v,rfl,Rep.sameV hR2 (hR.mono (hTb.tk kk)) wf h15,fun H5 s5=>q _ (fun b o h hb=>s5 _ _ (kk _ _ h hb)) (t2.same (s3.trans (s4.trans s5)))⟩
noncomputable abbrev wn:List Str:=["script","last","start","tape","formula","number","one"]
theorem scLaw:au wn ["script"] (ag gX):=fsc
theorem tX (F:Fun K "law" "law" gX f fd) (G:Gb mg)
  (GT:FnOk P w K mg base CX0 2 f2 fd2 ["script","k"] (oR K)) (bT:Binds K fd2 ["script","k"] []) (kT:PySem.W.keepIn K (.ref f2)=true) (mT:mg "_law_tape"=some (.ref f2))
  (GI:eU P w K mg base CX0 19 f3 fd3 ["formula"] (jd tbA)) (bI:Binds K fd3 ["formula"] []) (kI:PySem.W.keepIn K (.ref f3)=true) (mI:mg "_law_right"=some (.ref f3))
  (GF:FnOk P w K mg base CX0 4 f5 fd5 ["tape","readings"] gV) (bF:Binds K fd5 ["tape","readings"] []) (kF:PySem.W.keepIn K (.ref f5)=true) (mF:mg "_law_formula"=some (.ref f5))
  (GR:FnOk P w K mg base CX0 3 f6 fd6 ["tape"] fY) (bR:Binds K fd6 ["tape"] []) (kR:PySem.W.keepIn K (.ref f6)=true) (mR:mg "_law_some_readings"=some (.ref f6))
  (GN:FnOk P w K mg base CX0 2 f7 fd7 ["tape"] eh) (bN:Binds K fd7 ["tape"] []) (kN:PySem.W.keepIn K (.ref f7)=true) (mN:mg "_law_number"=some (.ref f7)):
  FnOk P w K mg base CX0 20 f fd ["script"] (lF K tbA):=by
 refine F.ok scLaw (fun vs H Q E h=>?_) (fun cdv A outer s H vs Q E hr h=>?_)
 ·obtain ⟨a,ns,rfl,_⟩:=h
  rfl
 obtain ⟨a,ns,rfl,hS,hlen,hTb,q⟩:=h
 have hr2:=hr.mono (show 2<=19 by decide)
 have hr3:=hr.mono (show 3<=19 by decide)
 have hr4:=hr.mono (show 4<=19 by decide)
 refine ⟨_,af (av (i:=1) scLaw.nd rfl (Or.inl rfl) (bp (aa ao (aa ae ad))))
  (pi PassesOwn.never rfl (ku rfl G.range (aa (al (nZ rfl) rfl G.max (by decide +kernel) (aa ae (aa (al (nY rfl) rfl G.min (by decide +kernel) (aa ae (aa (al ax rfl G.len PySem.boot_len (aa (pv 0) ad)) ad))) ad))) ad)) (bZ (i:=2) scLaw.nd rfl (Or.inl rfl))
   (cj (PS.tk (av (i:=3) scLaw.nd rfl (Or.inl rfl) (aq GT hr2 rfl mT kT bT .nil aL (aa (pv 0) (aa (pv 2) ad)))))
   (cj (PS.tk (av (i:=4) scLaw.nd rfl (Or.inl rfl) (aq GF hr4 rfl mF kF bF .nil aL (aa (pv 3) (aa (aq GR hr3 rfl mR kR bR .nil aL (aa (pv 3) ad)) ad)))))
   (cj (PS.tk (av (i:=5) scLaw.nd rfl (Or.inl rfl) (bp (aa ao (aa (aq GN hr2 rfl mN kN bN .nil aL (aa (pv 3) ad)) ad)))))
   (cj (rh PassesOwn.never rfl (rz (bq (aa (pv 4) (aa (pv 1) (aa (pv 5) (aa (pv 4) ad)))))) (bZ (i:=6) scLaw.nd rfl (Or.inl rfl))
    (eA (tH (re (rd (gk GI hr rfl mI kI bI .nil aL (PA.tk (aa (pv 6) ad))))) (PSs.tk mZ) (PSs.tk aE))))
   (eA (PS.tk (av (i:=1) scLaw.nd rfl (Or.inl rfl) (pv 4))))))))
  (eA (PS.tk (ar dL)))),?_⟩
 have hll:(ns.map V.int).length=ns.length:=List.length_map _
 refine ⟨(by show 2<=sizeLine;decide),fun lp hlp=>?_⟩
 have s0:=ai hlp (.tup [.str "num",.int 0])
 have g0:(upd H lp (.tup [.str "num",.int 0])) lp=some (.tup [.str "num",.int 0]):=ac
 generalize upd H lp (.tup [.str "num",.int 0])=H0 at s0 g0 ⊢
 refine ⟨_,rfl,a,_,rfl,.inl (s0.seq hS),16,_,rfl,1,_,rfl,0,_,rfl,?_,?_⟩
 ·rw [hll]
  refine ⟨by decide,by decide,?_,?_⟩ <;> split <;> split <;> omega
 rw [hll]
 have hb:((if (if (ns.length:Int) <16 then (ns.length:Int)else 16) >1 then (if (ns.length:Int) <16 then (ns.length:Int)else 16)else 1) -0).toNat<=16:=by
  split <;> (try split) <;> omega
 generalize ((if (if (ns.length:Int) <16 then (ns.length:Int)else 16) >1 then (if (ns.length:Int) <16 then (ns.length:Int)else 16)else 1) -0).toNat=m at hb ⊢
 refine nS (fun i Z H'=> ∃ lv lf o2 o3 o4 o5 o6,Z=[some (.ref a),some lv,o2,o3,o4,o5,o6]/\Kp tbA H H'/\TabSt tbA H'/\Rep H' lf lv/\lf.wf/\lf.size<=15)
  ⟨.ref lp,.num 0,none,none,none,none,none,rfl,fun b o h _=>s0 _ _ h,hTb.same s0,⟨lp,rfl,g0⟩,(by show (-999999:Int)<=0/\(0:Int)<=999999;decide),(by show 1<=15;decide)⟩ ?_ ?_
 ·rintro i Z H2 hi ⟨lv,lf,o2,o3,o4,o5,o6,rfl,k2,t2,hRl,hwl,hsl⟩
  refine ⟨_,rfl,_,rfl,a,ns,_,rfl,hTb.sql k2 hS,hlen,by omega,by omega,fun tp t0 htp=>?_⟩
  have tt3:Tp (upd H2 tp (.lst [.int t0])) tp:=⟨t0,ac⟩
  refine ⟨_,rfl,_,rfl,tp,rfl,tt3,fun rl rs H4 grl hrs hLv nrl k4 tt4=>?_⟩
  refine ⟨tp,rl,rs,rfl,tt4,nrl,grl,hrs,hLv,fun v fm H5 hR hw h15 k5 tt5=>?_⟩
  refine ⟨_,rfl,tp,rfl,tt5,fun n H6 n0 n1 k6 tt6=>?_⟩
  have S6:=rY htp (k4.trans (k5.trans k6))
  obtain ⟨t6,gt6⟩:=tt5
  have hR6:Rep H6 fm v:=hR.mono (k6.tkL gt6)
  refine ⟨(by show 2<=sizeLine;decide),fun np hnp=>?_⟩
  have s7:=ai hnp (.tup [.str "num",.int n])
  have g7:(upd H6 np (.tup [.str "num",.int n])) np=some (.tup [.str "num",.int n]):=ac
  generalize upd H6 np (.tup [.str "num",.int n])=H7 at s7 g7 ⊢
  refine ⟨_,rfl,_,rfl,_,rfl,_,rfl,(by show 4<=sizeLine;decide),fun l kl=>⟨l,rfl,⟨_,SqL.of ac⟩,?_⟩⟩
  have s8:=ai kl (.lst [v,lv,.ref np,v])
  have g8:(upd H7 l (.lst [v,lv,.ref np,v])) l=some (.lst [v,lv,.ref np,v]):=ac
  generalize upd H7 l (.lst [v,lv,.ref np,v])=H8 at s8 g8 ⊢
  have S8:Same H2 H8:=S6.trans (s7.trans s8)
  have t8:=t2.same S8
  have hv8:Rep H8 fm v:=hR6.mono (bV (s7.trans s8))
  have hl8:Rep H8 lf lv:=hRl.mono (bV S8)
  have hn8:Rep H8 (.num n) (.ref np):=⟨np,rfl,s8 _ _ g7⟩
  have hall: ∀ x∈[v,lv,.ref np,v],∃ g:Fm,Rep H8 g x/\g.wf/\g.size<=15:=by
   intro x hx
   simp only [List.mem_cons,List.not_mem_nil,or_false]at hx
   rcases hx with rfl | rfl | rfl | rfl
   ·exact ⟨fm,hv8,hw,h15⟩
   ·exact ⟨lf,hl8,hwl,hsl⟩
   ·exact ⟨.num n,hn8,⟨n0,n1⟩,(by show 1<=15;decide)⟩
   ·exact ⟨fm,hv8,hw,h15⟩
  have hlP:l≠tbA:=fun z=>by
   obtain ⟨t,ht⟩:=t8.tbl
   rw [<- z,g8]at ht
   cases ht
  refine jK (xs:=[v,lv,.ref np,v]) (fun j Z H'=> ∃ o6,Z=[some (.ref a),some lv,some (.int (0+ (i:Int))),some (.ref tp),some v,some (.ref np),o6]/\Kp tbA H8 H'/\TabSt tbA H')
   ⟨o6,rfl,fun b o h _=>h,t8⟩ (fun j Z H' _ ⟨_,_,k,_⟩=>SqL.of (k _ _ g8 hlP)) ?_ ?_
  ·rintro j x Z H9 hx ⟨o6',rfl,k9,t9⟩
   obtain ⟨g,hRg,hwg,hsg⟩:=hall x (List.mem_of_getElem? hx)
   refine ⟨_,rfl,g,x,rfl,hRg.mono (t8.tk k9),hwg,hsg,t9,fun H10 k10 t10=>⟨true,rfl,bJ ?_⟩⟩
   exact ⟨_,rfl,fun b o h hb=>k10 _ _ (k9 _ _ h hb) hb,t10⟩
  ·rintro Z H9 ⟨o6',rfl,k9,t9⟩
   exact ⟨_,rfl,v,fm,_,_,_,_,_,rfl,fun b o h hb=>k9 _ _ (S8 _ _ (k2 _ _ h hb)) hb,t9,hv8.mono (t8.tk k9),hw,h15⟩
 ·rintro Z H2 ⟨lv,lf,o2,o3,o4,o5,o6,rfl,k2,t2,_⟩
  exact q _
theorem uf {K:PySem.W.Frag} {C:Addr} {b:Value} {r:Bool} (h:PySem.W.mroIn K C b=some r):(PySem.W.clsIn K C).isSome=true:=by
 unfold PySem.W.mroIn at h
 cases e:PySem.W.clsIn K C with
 | none=>rw [e]at h;cases h
 | some c=>rfl
theorem br {α:Type} {l:List α} (h:l.length=1): ∃ a,l=[a]:=by
 match l,h with
 | [a],_=>exact ⟨a,rfl⟩
theorem cR {α:Type} {l:List α} (h:l.length=2): ∃ a b,l=[a,b]:=by
 match l,h with
 | [a,b],_=>exact ⟨a,b,rfl⟩
theorem uw {α:Type} {l:List α} (h:l.length=3): ∃ a b c,l=[a,b,c]:=by
 match l,h with
 | [a,b,c],_=>exact ⟨a,b,c,rfl⟩
/-- what is told of a def -/
structure Df (K:PySem.W.Frag) (nm:Str) (st:Stmt) (f:Addr) (fd:FuncData):Prop where
 a:PySem.W.nsIn K mainGlobals nm=some (some (.ref f))
 k:PySem.W.keepIn K (.ref f)=true
 F:Fun K nm nm st f fd
theorem Df.m {K:PySem.W.Frag} {nm:Str} {st:Stmt} {f:Addr} {fd:FuncData} {h:Heap} {mg:Str->Option Value} (d:Df K nm st f fd) (X:K.In h) (G:h.Ns mainGlobals mg):mg nm=some (.ref f):=PySem.W.mg_of X G d.a
theorem Df.of {K:PySem.W.Frag} {nm:Str} {st:Stmt} {f:Addr} {oc:Value} {od an:Option Addr} {osl:Array (Option Value)} {kV doc pm cdv ct:Value} (a:PySem.W.nsIn K mainGlobals nm=some (some (.ref f))) (k:PySem.W.keepIn K (.ref f)=true)
  (l:K.lookup f=some ⟨oc,od,.func (PySem.W.fnOf nm nm (eO st) (bd st) (ag st) .none kV doc pm an cdv ct),osl⟩) (c:PySem.W.codeIn K cdv nm=true):Df K nm st f (PySem.W.fnOf nm nm (eO st) (bd st) (ag st) .none kV doc pm an cdv ct):=
 ⟨a,k,⟨⟨oc,od,kV,doc,pm,an,cdv,ct,osl,rfl,l,c⟩,k⟩⟩
theorem sr {P:Program} {w:World} {K:PySem.W.Frag} {aD:Addr} {h1 h2 h3 h4 h5 h6:Int} {t1 t2 t3 t4 t5 t6 u1 u2 u3 u4 u5 u6:Tok} {ep:Nat}
  (lD:K.lookup aD=some ⟨.type "dict",none,.dict #[⟨h1,.str "plus" t1,.int 2 u1⟩,⟨h2,.str "less" t2,.int 2 u2⟩,⟨h3,.str "times" t3,.int 2 u3⟩,⟨h4,.str "least" t4,.int 2 u4⟩,⟨h5,.str "most" t5,.int 2 u5⟩,⟨h6,.str "when" t6,.int 3 u6⟩] ep,#[]⟩)
  (e1:h1=hashStr w "plus") (e2:h2=hashStr w "less") (e3:h3=hashStr w "times") (e4:h4=hashStr w "least") (e5:h5=hashStr w "most") (e6:h6=hashStr w "when") (nD:(aD==sysModules)=false):iX P w K aD eJ:=by
 refine ⟨nD,fun h X=>⟨[(.inr "plus",.int 2 u1),(.inr "less",.int 2 u2),(.inr "times",.int 2 u3),(.inr "least",.int 2 u4),(.inr "most",.int 2 u5),(.inr "when",.int 3 u6)],?_,?_⟩⟩
 ·exact .cons ⟨rfl,_,rfl⟩ (.cons ⟨rfl,_,rfl⟩ (.cons ⟨rfl,_,rfl⟩ (.cons ⟨rfl,_,rfl⟩ (.cons ⟨rfl,_,rfl⟩ (.cons ⟨rfl,_,rfl⟩ .nil)))))
 ·refine ⟨_,_,_,X _ _ lD,⟨rfl,rfl,rfl⟩,rfl,?_,?_,by dsimp only [List.map];decide +kernel⟩
  ·intro e he
   simp only [List.mem_toArray,List.mem_cons,List.not_mem_nil,or_false]at he
   rcases he with rfl | rfl | rfl | rfl | rfl | rfl
   ·exact ⟨.inr "plus",aw "plus" t1,e1⟩
   ·exact ⟨.inr "less",aw "less" t2,e2⟩
   ·exact ⟨.inr "times",aw "times" t3,e3⟩
   ·exact ⟨.inr "least",aw "least" t4,e4⟩
   ·exact ⟨.inr "most",aw "most" t5,e5⟩
   ·exact ⟨.inr "when",aw "when" t6,e6⟩
  ·exact .cons (aw "plus" t1) rfl (.cons (aw "less" t2) rfl (.cons (aw "times" t3) rfl (.cons (aw "least" t4) rfl (.cons (aw "most" t5) rfl (.cons (aw "when" t6) rfl .nil)))))
theorem ef {K:PySem.W.Frag} {a:Addr} {x:Str} {od:Option Addr} {sl:Array (Option Value)} {t:Tok} {m:Nat} (l:K.lookup a=some ⟨.type "tuple",od,.seq #[.str x t] m,sl⟩): ∀ H,SqT K H a [.str x]:=
 fun H=>.inr ⟨_,_,_,l,rfl,rfl,(show 1<=sizeLine by decide),.cons ⟨_,rfl⟩ .nil⟩
theorem qO {K:PySem.W.Frag} {a:Addr} {x y:Str} {od:Option Addr} {sl:Array (Option Value)} {t t':Tok} {m:Nat} (l:K.lookup a=some ⟨.type "tuple",od,.seq #[.str x t,.str y t'] m,sl⟩): ∀ H,SqT K H a [.str x,.str y]:=
 fun H=>.inr ⟨_,_,_,l,rfl,rfl,(show 2<=sizeLine by decide),.cons ⟨_,rfl⟩ (.cons ⟨_,rfl⟩ .nil)⟩
theorem qN {K:PySem.W.Frag} {a:Addr} {x y z:Str} {od:Option Addr} {sl:Array (Option Value)} {t t' t'':Tok} {m:Nat} (l:K.lookup a=some ⟨.type "tuple",od,.seq #[.str x t,.str y t',.str z t''] m,sl⟩): ∀ H,SqT K H a [.str x,.str y,.str z]:=
 fun H=>.inr ⟨_,_,_,l,rfl,rfl,(show 3<=sizeLine by decide),.cons ⟨_,rfl⟩ (.cons ⟨_,rfl⟩ (.cons ⟨_,rfl⟩ .nil))⟩
theorem qd {K:PySem.W.Frag} {aM M1 M2 M3 M4 M5 M6:Addr} {h1 h2 h3 h4 h5 h6:Int} {t1 t2 t3 t4 t5 t6:Tok} {ep:Nat}
  (l:K.lookup aM=some ⟨.type "dict",none,.dict #[⟨h1,.str "plus" t1,.ref M1⟩,⟨h2,.str "less" t2,.ref M2⟩,⟨h3,.str "times" t3,.ref M3⟩,⟨h4,.str "least" t4,.ref M4⟩,⟨h5,.str "most" t5,.ref M5⟩,⟨h6,.str "when" t6,.ref M6⟩] ep,#[]⟩)
  (nM:(aM==sysModules)=false)
  (s1: ∀ H,SqT K H M1 [.str "+"])
  (s2: ∀ H,SqT K H M2 [.str "-"])
  (s3: ∀ H,SqT K H M3 [.str "*"])
  (s4: ∀ H,SqT K H M4 [.str "min"])
  (s5: ∀ H,SqT K H M5 [.str "max"])
  (s6: ∀ H,SqT K H M6 [.str "?",.str ":"]):
  iW K aM [("plus",M1),("less",M2),("times",M3),("least",M4),("most",M5),("when",M6)]:=
 ⟨⟨nM,_,_,_,l,⟨rfl,rfl,rfl⟩,rfl,[t1,t2,t3,t4,t5,t6],rfl,rfl⟩,.cons ⟨rfl,s1⟩ (.cons ⟨rfl,s2⟩ (.cons ⟨rfl,s3⟩ (.cons ⟨rfl,s4⟩ (.cons ⟨rfl,s5⟩ (.cons ⟨rfl,s6⟩ (.nil))))))⟩
theorem nU {P:Program} {w:World} {K:PySem.W.Frag} {aM M1 M2 M3 M4 M5 M6:Addr} {h1 h2 h3 h4 h5 h6:Int} {t1 t2 t3 t4 t5 t6:Tok} {ep:Nat}
  (l:K.lookup aM=some ⟨.type "dict",none,.dict #[⟨h1,.str "plus" t1,.ref M1⟩,⟨h2,.str "less" t2,.ref M2⟩,⟨h3,.str "times" t3,.ref M3⟩,⟨h4,.str "least" t4,.ref M4⟩,⟨h5,.str "most" t5,.ref M5⟩,⟨h6,.str "when" t6,.ref M6⟩] ep,#[]⟩)
  (e1:h1=hashStr w "plus") (e2:h2=hashStr w "less") (e3:h3=hashStr w "times") (e4:h4=hashStr w "least") (e5:h5=hashStr w "most") (e6:h6=hashStr w "when") (nM:(aM==sysModules)=false):iX P w K aM (jy [("plus",M1),("less",M2),("times",M3),("least",M4),("most",M5),("when",M6)]):=by
 refine ⟨nM,fun h X=>⟨[(.inr "plus",.ref M1),(.inr "less",.ref M2),(.inr "times",.ref M3),(.inr "least",.ref M4),(.inr "most",.ref M5),(.inr "when",.ref M6)],?_,?_⟩⟩
 ·exact .cons ⟨rfl,rfl⟩ (.cons ⟨rfl,rfl⟩ (.cons ⟨rfl,rfl⟩ (.cons ⟨rfl,rfl⟩ (.cons ⟨rfl,rfl⟩ (.cons ⟨rfl,rfl⟩ .nil)))))
 ·refine ⟨_,_,_,X _ _ l,⟨rfl,rfl,rfl⟩,rfl,?_,?_,by dsimp only [List.map];decide +kernel⟩
  ·intro e he
   simp only [List.mem_toArray,List.mem_cons,List.not_mem_nil,or_false]at he
   rcases he with rfl | rfl | rfl | rfl | rfl | rfl
   ·exact ⟨.inr "plus",aw "plus" t1,e1⟩
   ·exact ⟨.inr "less",aw "less" t2,e2⟩
   ·exact ⟨.inr "times",aw "times" t3,e3⟩
   ·exact ⟨.inr "least",aw "least" t4,e4⟩
   ·exact ⟨.inr "most",aw "most" t5,e5⟩
   ·exact ⟨.inr "when",aw "when" t6,e6⟩
  ·exact .cons (aw "plus" t1) rfl (.cons (aw "less" t2) rfl (.cons (aw "times" t3) rfl (.cons (aw "least" t4) rfl (.cons (aw "most" t5) rfl (.cons (aw "when" t6) rfl (.nil))))))
theorem all_mk {l:PySem.W.OpenLaw} {w:World} {K:PySem.W.Frag} {h:Heap} {mg:Str->Option Value} {fa cS Pt C aD aM aR M1 M2 M3 M4 M5 M6 f1 f2 f3 f4 f5 f6 f7 f8 f9 f10 f11 f12 f13 f14 f15 f16 f17 f18 f19 f20 f21 f22 f23 f24 f25 f26 f27 f28 f29:Addr} {r1 r2 r3 r4 r5 r6 r7 r8 r9 r10 r11 r12 r13 r14 r15 r16 r17 r18 r19 r20 r21 r22 r23 r24 r25 r26 r27 r28 r29:FuncData} (X:K.In h) (G:h.Ns mainGlobals mg) (hfa:mg "law"=some (.ref fa)) (hTb:qJ h mg "show_formula" cS Pt)
  {q1 q2 q3 q4 q5 t1 t2 t3 t4 t5 t6 u1 u2 u3 u4 u5 u6 p1 p2 p3 p4 p5 p6 y1 y2 y3 y4 y5 y6 y7 w1 w2 w3:Tok} {h1 h2 h3 h4 h5 h6 j1 j2 j3 j4 j5 j6:Int} {ep ep2 n1 n2 n3 n4 n5 n6 n7:Nat} {od1 od2 od3 od4 od5 od6 od7:Option Addr} {sl1 sl2 sl3 sl4 sl5 sl6 sl7:Array (Option Value)}
  (d1:Df K "is_whole" kh f1 r1)
  (d2:Df K "is_whole_within" iz f2 r2)
  (d3:Df K "is_word" lI f3 r3)
  (d4:Df K "writes_whole" dF f4 r4)
  (d5:Df K "is_formula" pe f5 r5)
  (d6:Df K "is_head" pc f6 r6)
  (d7:Df K "inner_of" kj f7 r7)
  (d8:Df K "tuples_of" iA f8 r8)
  (d9:Df K "folded" fM f9 r9)
  (d10:Df K "show_formula" gb f10 r10)
  (d11:Df K "show_leaf" fc f11 r11)
  (d12:Df K "bracketed" dS f12 r12)
  (d13:Df K "read_formula" ki f13 r13)
  (d14:Df K "close_bracket" iE f14 r14)
  (d15:Df K "unbracketed" o7 f15 r15)
  (d16:Df K "read_leaf" ff f16 r16)
  (d17:Df K "_law_cell_at" pf f17 r17)
  (d18:Df K "_law_tape" o9 f18 r18)
  (d19:Df K "_law_digit" km f19 r19)
  (d20:Df K "_law_names" du f20 r20)
  (d21:Df K "_law_number" iC f21 r21)
  (d22:Df K "_law_leaf" pb f22 r22)
  (d23:Df K "_law_formula" cV f23 r23)
  (d24:Df K "_law_whole" iD f24 r24)
  (d25:Df K "_law_same" jf f25 r25)
  (d26:Df K "_law_some_readings" fe f26 r26)
  (d27:Df K "_law_written" cg f27 r27)
  (d28:Df K "_law_right" iB f28 r28)
  (d29:Df K "law" gX f29 r29)
  (z1:PySem.W.nsIn K mainGlobals "isinstance"=some none)
  (z2:PySem.W.nsIn K mainGlobals "int"=some none)
  (z3:PySem.W.nsIn K mainGlobals "bool"=some none)
  (z4:PySem.W.nsIn K mainGlobals "str"=some none)
  (z5:PySem.W.nsIn K mainGlobals "tuple"=some none)
  (z6:PySem.W.nsIn K mainGlobals "len"=some none)
  (z7:PySem.W.nsIn K mainGlobals "all"=some none)
  (z8:PySem.W.nsIn K mainGlobals "range"=some none)
  (z9:PySem.W.nsIn K mainGlobals "max"=some none)
  (z10:PySem.W.nsIn K mainGlobals "min"=some none)
  (z11:PySem.W.nsIn K mainGlobals "list"=some none)
  (z12:PySem.W.nsIn K mainGlobals "zip"=some none)
  (z13:PySem.W.nsIn K mainGlobals "reversed"=some none)
  (i1:PySem.W.nsIn K mainGlobals "MOST_LETTERS"=some (some (.int 8 q1)))
  (i2:PySem.W.nsIn K mainGlobals "MOST_TUPLES"=some (some (.int 15 q2)))
  (i3:PySem.W.nsIn K mainGlobals "MOST_NUM"=some (some (.int 999999 q3)))
  (i4:PySem.W.nsIn K mainGlobals "MOST_PART"=some (some (.int 2 q4)))
  (i5:PySem.W.nsIn K mainGlobals "MOST_FIGURES"=some (some (.int 6 q5)))
  (aI:PySem.W.nsIn K mainGlobals "INNER_COUNTS"=some (some (.ref aD)))
  (lD:K.lookup aD=some ⟨.type "dict",none,.dict #[⟨h1,.str "plus" t1,.int 2 u1⟩,⟨h2,.str "less" t2,.int 2 u2⟩,⟨h3,.str "times" t3,.int 2 u3⟩,⟨h4,.str "least" t4,.int 2 u4⟩,⟨h5,.str "most" t5,.int 2 u5⟩,⟨h6,.str "when" t6,.int 3 u6⟩] ep,#[]⟩)
  (e1:h1=hashStr w "plus")    (e2:h2=hashStr w "less")    (e3:h3=hashStr w "times")    (e4:h4=hashStr w "least")    (e5:h5=hashStr w "most")    (e6:h6=hashStr w "when")
  (nD:(aD==sysModules)=false)
  (aK:PySem.W.nsIn K mainGlobals "MARKS"=some (some (.ref aM)))
  (lK:K.lookup aM=some ⟨.type "dict",none,.dict #[⟨j1,.str "plus" p1,.ref M1⟩,⟨j2,.str "less" p2,.ref M2⟩,⟨j3,.str "times" p3,.ref M3⟩,⟨j4,.str "least" p4,.ref M4⟩,⟨j5,.str "most" p5,.ref M5⟩,⟨j6,.str "when" p6,.ref M6⟩] ep2,#[]⟩)
  (g1:j1=hashStr w "plus") (g2:j2=hashStr w "less") (g3:j3=hashStr w "times") (g4:j4=hashStr w "least") (g5:j5=hashStr w "most") (g6:j6=hashStr w "when")
  (nK:(aM==sysModules)=false)
  (lk1:K.lookup M1=some ⟨.type "tuple",od1,.seq #[.str "+" y1] n1,sl1⟩)
  (lk2:K.lookup M2=some ⟨.type "tuple",od2,.seq #[.str "-" y2] n2,sl2⟩)
  (lk3:K.lookup M3=some ⟨.type "tuple",od3,.seq #[.str "*" y3] n3,sl3⟩)
  (lk4:K.lookup M4=some ⟨.type "tuple",od4,.seq #[.str "min" y4] n4,sl4⟩)
  (lk5:K.lookup M5=some ⟨.type "tuple",od5,.seq #[.str "max" y5] n5,sl5⟩)
  (lk6:K.lookup M6=some ⟨.type "tuple",od6,.seq #[.str "?" y6,.str ":" y7] n6,sl6⟩)
  (aP:PySem.W.nsIn K mainGlobals "PART_FIGURES"=some (some (.ref aR))) (lP:K.lookup aR=some ⟨.type "tuple",od7,.seq #[.str "0" w1,.str "1" w2,.str "2" w3] n7,sl7⟩)
  (aC:PySem.W.nsIn K mainGlobals "NoText"=some (some (.ref C)))
  (x1:PySem.W.excIn K C [.type "ValueError",.type "Exception",.type "BaseException",.type "object"] "ValueError.__new__"=true):
  ∃ fd:FuncData,(∀ (s:Shared) (v:Value),BindsTo s fd ⟨[v],[]⟩ [("script",v)])/\ ∀ base:Heap,K.In base->base.Ns mainGlobals mg->PySem.W.CodeHd base cS Pt->base.BuiltinsAt mg Pt->FnOk l.prog w K mg base CX0 20 fa fd ["script"] (lF K Pt):=by
 have e:=hfa.symm.trans (d29.m X G)
 cases e
 have b1:=d1.F.binds (ps:=["thing"]) fun _ _ _ _ _ _ us hl=>by obtain ⟨x,rfl⟩:=br hl;rfl
 have m1:=d1.m X G
 have b2:=d2.F.binds (ps:=["thing","lowest","highest"]) fun _ _ _ _ _ _ us hl=>by obtain ⟨x,y,z,rfl⟩:=uw hl;rfl
 have m2:=d2.m X G
 have b3:=d3.F.binds (ps:=["thing"]) fun _ _ _ _ _ _ us hl=>by obtain ⟨x,rfl⟩:=br hl;rfl
 have m3:=d3.m X G
 have b4:=d4.F.binds (ps:=["text","most_figures"]) fun _ _ _ _ _ _ us hl=>by obtain ⟨x,y,rfl⟩:=cR hl;rfl
 have m4:=d4.m X G
 have b5:=d5.F.binds (ps:=["thing"]) fun _ _ _ _ _ _ us hl=>by obtain ⟨x,rfl⟩:=br hl;rfl
 have m5:=d5.m X G
 have b6:=d6.F.binds (ps:=["thing"]) fun _ _ _ _ _ _ us hl=>by obtain ⟨x,rfl⟩:=br hl;rfl
 have m6:=d6.m X G
 have b7:=d7.F.binds (ps:=["formula"]) fun _ _ _ _ _ _ us hl=>by obtain ⟨x,rfl⟩:=br hl;rfl
 have m7:=d7.m X G
 have b8:=d8.F.binds (ps:=["formula"]) fun _ _ _ _ _ _ us hl=>by obtain ⟨x,rfl⟩:=br hl;rfl
 have m8:=d8.m X G
 have b9:=d9.F.binds (ps:=["formula","tell"]) fun _ _ _ _ _ _ us hl=>by obtain ⟨x,y,rfl⟩:=cR hl;rfl
 have m9:=d9.m X G
 have b10:=d10.F.binds (ps:=["formula"]) fun _ _ _ _ _ _ us hl=>by obtain ⟨x,rfl⟩:=br hl;rfl
 have m10:=d10.m X G
 have b11:=d11.F.binds (ps:=["leaf"]) fun _ _ _ _ _ _ us hl=>by obtain ⟨x,rfl⟩:=br hl;rfl
 have m11:=d11.m X G
 have b12:=d12.F.binds (ps:=["kind","inner"]) fun _ _ _ _ _ _ us hl=>by obtain ⟨x,y,rfl⟩:=cR hl;rfl
 have m12:=d12.m X G
 have b13:=d13.F.binds (ps:=["text"]) fun _ _ _ _ _ _ us hl=>by obtain ⟨x,rfl⟩:=br hl;rfl
 have m13:=d13.m X G
 have b14:=d14.F.binds (ps:=["pile"]) fun _ _ _ _ _ _ us hl=>by obtain ⟨x,rfl⟩:=br hl;rfl
 have m14:=d14.m X G
 have b15:=d15.F.binds (ps:=["inside"]) fun _ _ _ _ _ _ us hl=>by obtain ⟨x,rfl⟩:=br hl;rfl
 have m15:=d15.m X G
 have b16:=d16.F.binds (ps:=["word"]) fun _ _ _ _ _ _ us hl=>by obtain ⟨x,rfl⟩:=br hl;rfl
 have m16:=d16.m X G
 have b17:=d17.F.binds (ps:=["script","k"]) fun _ _ _ _ _ _ us hl=>by obtain ⟨x,y,rfl⟩:=cR hl;rfl
 have m17:=d17.m X G
 have b18:=d18.F.binds (ps:=["script","k"]) fun _ _ _ _ _ _ us hl=>by obtain ⟨x,y,rfl⟩:=cR hl;rfl
 have m18:=d18.m X G
 have b19:=d19.F.binds (ps:=["tape","many"]) fun _ _ _ _ _ _ us hl=>by obtain ⟨x,y,rfl⟩:=cR hl;rfl
 have m19:=d19.m X G
 have b20:=d20.F.binds (ps:=["tape","many"]) fun _ _ _ _ _ _ us hl=>by obtain ⟨x,y,rfl⟩:=cR hl;rfl
 have m20:=d20.m X G
 have b21:=d21.F.binds (ps:=["tape"]) fun _ _ _ _ _ _ us hl=>by obtain ⟨x,rfl⟩:=br hl;rfl
 have m21:=d21.m X G
 have b22:=d22.F.binds (ps:=["tape","readings"]) fun _ _ _ _ _ _ us hl=>by obtain ⟨x,y,rfl⟩:=cR hl;rfl
 have m22:=d22.m X G
 have b23:=d23.F.binds (ps:=["tape","readings"]) fun _ _ _ _ _ _ us hl=>by obtain ⟨x,y,rfl⟩:=cR hl;rfl
 have m23:=d23.m X G
 have b24:=d24.F.binds (ps:=["found"]) fun _ _ _ _ _ _ us hl=>by obtain ⟨x,rfl⟩:=br hl;rfl
 have m24:=d24.m X G
 have b25:=d25.F.binds (ps:=["found","due"]) fun _ _ _ _ _ _ us hl=>by obtain ⟨x,y,rfl⟩:=cR hl;rfl
 have m25:=d25.m X G
 have b26:=d26.F.binds (ps:=["tape"]) fun _ _ _ _ _ _ us hl=>by obtain ⟨x,rfl⟩:=br hl;rfl
 have m26:=d26.m X G
 have b27:=d27.F.binds (ps:=["formula"]) fun _ _ _ _ _ _ us hl=>by obtain ⟨x,rfl⟩:=br hl;rfl
 have m27:=d27.m X G
 have b28:=d28.F.binds (ps:=["formula"]) fun _ _ _ _ _ _ us hl=>by obtain ⟨x,rfl⟩:=br hl;rfl
 have m28:=d28.m X G
 have Gb0:Gb mg:=⟨PySem.W.mg_none_of X G z1,PySem.W.mg_none_of X G z2,PySem.W.mg_none_of X G z3,PySem.W.mg_none_of X G z4,PySem.W.mg_none_of X G z5,PySem.W.mg_none_of X G z6,PySem.W.mg_none_of X G z7,PySem.W.mg_none_of X G z8,PySem.W.mg_none_of X G z9,PySem.W.mg_none_of X G z10⟩
 have v11:=PySem.W.mg_none_of X G z11
 have v12:=PySem.W.mg_none_of X G z12
 have v13:=PySem.W.mg_none_of X G z13
 have D:iX l.prog w K aD eJ:=sr lD e1 e2 e3 e4 e5 e6 nD
 have mI:=PySem.W.mg_of X G aI
 have mK:=PySem.W.mg_of X G aK
 have mP:=PySem.W.mg_of X G aP
 have hP:=qN lP
 have MO:=qd lK nK (ef lk1) (ef lk2) (ef lk3) (ef lk4) (ef lk5) (qO lk6)
 have k1:=PySem.W.mg_of X G i1
 have k2:=PySem.W.mg_of X G i2
 have k3:=PySem.W.mg_of X G i3
 have k4:=PySem.W.mg_of X G i4
 have k5:=PySem.W.mg_of X G i5
 have DM:iX l.prog w K aM (jy [("plus",M1),("less",M2),("times",M3),("least",M4),("most",M5),("when",M6)]):=nU lK g1 g2 g3 g4 g5 g6 nK
 have hfc:r10.code=.ref cS:=by
  obtain ⟨⟨a,o,fd,t1,t2,t3,t4⟩,_⟩:=hTb
  rw [m10]at t1
  cases t1
  obtain ⟨oc,od,kV,doc,pm,an,cdv,ct,osl,_,lk,_⟩:=d10.F.ex
  rw [X _ _ lk]at t2
  cases t2
  cases t3
  exact t4
 have F29:=d29.F
 obtain ⟨_,_,kV,dc,pm,an,cd,ct,_,rfl,_,_⟩:=d29.F.ex
 refine ⟨PySem.W.fnOf "law" "law" (eO gX) (bd gX) (ag gX) .none kV dc pm an cd ct,fun s v=>.of_eq rfl,fun base _ _ hC hB=>?_⟩
 have g_whole:=pR (P:=l.prog) (w:=w) (mg:=mg) (base:=base) d1.F Gb0
 have g_within:=nu d2.F g_whole b1 d1.k m1
 have g_word:=rL (P:=l.prog) (w:=w) (mg:=mg) (base:=base) d3.F Gb0 k1
 have g_head:=rP d6.F Gb0 mI D k3 k4 g_within b2 d2.k m2 g_word b3 d3.k m3
 have g_inner:=gr (base:=base) d7.F mI D
 have g_form:=pX d5.F k2 g_head b6 d6.k m6 g_inner b7 d7.k m7
 have g_folded:=fun b=>nA d9.F Gb0 v13 (nv (base:=b) d8.F (gr (base:=b) d7.F mI D) b7 d7.k m7) b8 d8.k m8 (gr (base:=b) d7.F mI D) b7 d7.k m7
 have g_sleaf:=fun b=>jt (P:=l.prog) (w:=w) (mg:=mg) (base:=b) d11.F Gb0
 have g_brack:=fun b=>u9 (base:=b) d12.F v12 mK MO DM
 have g_showF:=pS d10.F hfc hC hB g_folded b9 d9.k m9 g_brack b12 d12.k m12 g_sleaf b11 d11.k m11
 have g_writes:=nn (P:=l.prog) (w:=w) (mg:=mg) (base:=base) d4.F Gb0
 have g_rleaf:=jv d16.F Gb0 k5 mP hP g_writes b4 d4.k m4
 have g_unbr:=rM (P:=l.prog) (w:=w) (mg:=mg) (base:=base) d15.F Gb0 mK MO (PySem.W.mg_of X G aC) x1 PySem.F.excBase_ValueError
 have g_close:=nB d14.F (PySem.W.mg_of X G aC) x1 PySem.F.excBase_ValueError g_unbr b15 d15.k m15
 have g_readF:=pV d13.F Gb0 (PySem.W.mg_of X G aC) x1 PySem.F.excBase_ValueError g_close b14 d14.k m14 g_rleaf b16 d16.k m16 g_form b5 d5.k m5
 have g_cell:=rQ (P:=l.prog) (w:=w) (base:=base) d17.F Gb0
 have g_tape:=rN d18.F g_cell b17 d17.k m17
 have g_digit:=pY (P:=l.prog) (w:=w) (mg:=mg) (base:=base) d19.F
 have g_names:=pW d20.F Gb0 g_digit b19 d19.k m19
 have g_number:=ny d21.F g_digit b19 d19.k m19
 have g_leaf:=rO d22.F Gb0 g_digit b19 d19.k m19 g_number b21 d21.k m21
 have g_formula:=kG d23.F Gb0 g_digit b19 d19.k m19 g_leaf b22 d22.k m22
 have g_lwhole:=nz (P:=l.prog) (w:=w) (mg:=mg) (base:=base) d24.F Gb0
 have g_same:=lT d25.F Gb0 v11 v12 b25 m25 g_lwhole b24 d24.k m24 16
 have g_readings:=ju d26.F g_names b20 d20.k m20
 have g_writF:=js (P:=l.prog) (w:=w) (mg:=mg) (base:=base) d27.F Gb0 b27 m27 15
 have g_right:=nw d28.F g_writF b27 d27.k m27 g_same b25 d25.k m25 g_showF b10 d10.k m10 g_readF b13 d13.k m13
 exact tX F29 Gb0 g_tape b18 d18.k m18 g_right b28 d28.k m28 g_formula b23 d23.k m23 g_readings b26 d26.k m26 g_number b21 d21.k m21
theorem walk {l:PySem.W.OpenLaw} {q:Program} {loose:List Str} {XP:(Str->Option Value)->Heap->Prop} {YP:World->Heap->Prop} {d:DefRec} {K:Params->PySem.W.Frag} (hn:l.most=some 63) (hdf:d.params.defaults=[])
  (hY: ∀ (w:World) (h:Heap),YP w h->(K w.params).In h) (hrec: ∃ e∈PyProof.Rows.recsOf q,e.name="show_formula") (hKt: ∀ w:World,PySem.W.noTabs (K w.params)=true)
  (F: ∀ (w:World) (mg:Str->Option Value) (fa c Pt:Addr) (h:Heap),(K w.params).In h->h.Ns mainGlobals mg->mg d.name=some (.ref fa)->qJ h mg "show_formula" c Pt->
   ∃ fd:FuncData,(∀ (s:Shared) (u:Value),BindsTo s fd ⟨[u],[]⟩ [("script",u)])/\ ∀ base:Heap,(K w.params).In base->base.Ns mainGlobals mg->PySem.W.CodeHd base c Pt->base.BuiltinsAt mg Pt->FnOk l.prog w (K w.params) mg base CX0 20 fa fd ["script"] (lF (K w.params) Pt)):
  PySem.W.WalkO q loose XP YP l.row.toRowW d [] (fun f vs=>PySem.call f vs):=
 L2.walk_ofT (n:=63) (k:=20) (x:="script") (nm:="show_formula") (sp:=fun w Pt=>lF (K w.params) Pt) hn (by decide) hdf ⟨rfl,by decide,by decide⟩ hY hrec hKt F (fun _ Pt H a ns hl hP hS=>⟨a,ns,rfl,hS,hl,.inl hP,fun _=>rfl⟩)
end My
open PySem PySem.W PyProof.Rows
set_option maxRecDepth 100000 in
set_option maxHeartbeats 0 in
theorem PySem.Challenge.cw_boughworth_k04_formulas_written_holds : PySem.Challenge.rw_boughworth_k04_formulas_written.Holds := by
 refine My.parts.c My.parts.a0 My.parts.a1 My.parts.e0 My.parts.e1 My.parts.b0 My.parts.b1 ?_
 delta My.parts
 dsimp only
 k_fill
 refine My.walk (l:=PySem.Challenge.rw_boughworth_k04_formulas_written) rfl rfl (fun w h Y=>PySem.W.km_in_of Y) ?R ?T ?F
 case R=>exact ⟨_,List.mem_of_getElem? (i:=9) rfl,rfl⟩
 case T=>exact fun w=>rfl
 case F=>
  intro w mg fa cS Pt h KX G hmg hTb
  refine' My.all_mk KX G hmg hTb ?d1 ?d2 ?d3 ?d4 ?d5 ?d6 ?d7 ?d8 ?d9 ?d10 ?d11 ?d12 ?d13 ?d14 ?d15 ?d16 ?d17 ?d18 ?d19 ?d20 ?d21 ?d22 ?d23 ?d24 ?d25 ?d26 ?d27 ?d28 ?d29 ?z1 ?z2 ?z3 ?z4 ?z5 ?z6 ?z7 ?z8 ?z9 ?z10 ?z11 ?z12 ?z13 ?i1 ?i2 ?i3 ?i4 ?i5 ?aI ?lD ?e1 ?e2 ?e3 ?e4 ?e5 ?e6 ?nD ?aK ?lK ?g1 ?g2 ?g3 ?g4 ?g5 ?g6 ?nK ?lk1 ?lk2 ?lk3 ?lk4 ?lk5 ?lk6 ?aP ?lP ?aC ?x1
  (case d1=>exact My.Df.of (by k_is) (by k_is) (by k_is) (by k_is))
  (case d2=>exact My.Df.of (by k_is) (by k_is) (by k_is) (by k_is))
  (case d3=>exact My.Df.of (by k_is) (by k_is) (by k_is) (by k_is))
  (case d4=>exact My.Df.of (by k_is) (by k_is) (by k_is) (by k_is))
  (case d5=>exact My.Df.of (by k_is) (by k_is) (by k_is) (by k_is))
  (case d6=>exact My.Df.of (by k_is) (by k_is) (by k_is) (by k_is))
  (case d7=>exact My.Df.of (by k_is) (by k_is) (by k_is) (by k_is))
  (case d8=>exact My.Df.of (by k_is) (by k_is) (by k_is) (by k_is))
  (case d9=>exact My.Df.of (by k_is) (by k_is) (by k_is) (by k_is))
  (case d10=>exact My.Df.of (by k_is) (by k_is) (by k_is) (by k_is))
  (case d11=>exact My.Df.of (by k_is) (by k_is) (by k_is) (by k_is))
  (case d12=>exact My.Df.of (by k_is) (by k_is) (by k_is) (by k_is))
  (case d13=>exact My.Df.of (by k_is) (by k_is) (by k_is) (by k_is))
  (case d14=>exact My.Df.of (by k_is) (by k_is) (by k_is) (by k_is))
  (case d15=>exact My.Df.of (by k_is) (by k_is) (by k_is) (by k_is))
  (case d16=>exact My.Df.of (by k_is) (by k_is) (by k_is) (by k_is))
  (case d17=>exact My.Df.of (by k_is) (by k_is) (by k_is) (by k_is))
  (case d18=>exact My.Df.of (by k_is) (by k_is) (by k_is) (by k_is))
  (case d19=>exact My.Df.of (by k_is) (by k_is) (by k_is) (by k_is))
  (case d20=>exact My.Df.of (by k_is) (by k_is) (by k_is) (by k_is))
  (case d21=>exact My.Df.of (by k_is) (by k_is) (by k_is) (by k_is))
  (case d22=>exact My.Df.of (by k_is) (by k_is) (by k_is) (by k_is))
  (case d23=>exact My.Df.of (by k_is) (by k_is) (by k_is) (by k_is))
  (case d24=>exact My.Df.of (by k_is) (by k_is) (by k_is) (by k_is))
  (case d25=>exact My.Df.of (by k_is) (by k_is) (by k_is) (by k_is))
  (case d26=>exact My.Df.of (by k_is) (by k_is) (by k_is) (by k_is))
  (case d27=>exact My.Df.of (by k_is) (by k_is) (by k_is) (by k_is))
  (case d28=>exact My.Df.of (by k_is) (by k_is) (by k_is) (by k_is))
  (case d29=>exact My.Df.of (by k_is) (by k_is) (by k_is) (by k_is))
  (case z1=>k_is)
  (case z2=>k_is)
  (case z3=>k_is)
  (case z4=>k_is)
  (case z5=>k_is)
  (case z6=>k_is)
  (case z7=>k_is)
  (case z8=>k_is)
  (case z9=>k_is)
  (case z10=>k_is)
  (case z11=>k_is)
  (case z12=>k_is)
  (case z13=>k_is)
  (case i1=>k_is)
  (case i2=>k_is)
  (case i3=>k_is)
  (case i4=>k_is)
  (case i5=>k_is)
  (case aI=>k_is)
  (case lD=>k_is)
  (case e1=>first | rfl | k_is)
  (case e2=>first | rfl | k_is)
  (case e3=>first | rfl | k_is)
  (case e4=>first | rfl | k_is)
  (case e5=>first | rfl | k_is)
  (case e6=>first | rfl | k_is)
  (case nD=>first | rfl | decide | k_is)
  (case aK=>k_is)
  (case lK=>k_is)
  (case g1=>first | rfl | k_is)
  (case g2=>first | rfl | k_is)
  (case g3=>first | rfl | k_is)
  (case g4=>first | rfl | k_is)
  (case g5=>first | rfl | k_is)
  (case g6=>first | rfl | k_is)
  (case nK=>first | rfl | decide | k_is)
  (case lk1=>k_is)
  (case lk2=>k_is)
  (case lk3=>k_is)
  (case lk4=>k_is)
  (case lk5=>k_is)
  (case lk6=>k_is)
  (case aP=>k_is)
  (case lP=>k_is)
  (case aC=>k_is)
  (case x1=>k_exc)
