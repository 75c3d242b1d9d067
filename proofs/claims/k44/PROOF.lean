import PyProof.Rows.All
import Wide.All
import OpenK.AllK
import Wide.FinOn
import Lean
import PyProof.EqAt
import PyProof.EqKinds
import PyProof.TupleCall
import PyProof.TupleKey
import PyProof.DictKeyH
import PyProof.SumWalk
import KE.KDictList
import PyProof.NeKinds
import PyProof.Draws
import PyProof.ZipIter
import PyProof.ListMulRoad
import KE.RegKIsAll
import OpenK.KOwn
import PyProof.EnumMake
import PyProof.Rows.StrNews
import Flt.Sum
import PyProof.FitsBits
import PyProof.DictTable
import KE.KItemsList
import PyProof.StrCalls6
import PyProof.ToksMono
import PyProof.StrLawsReplace
import PyProof.StrLawsJoin
import PyProof.Rows.StrSplitJoin
import PyProof.DictValues
import PyProof.DictWalks
import KE.KRevIter
import PyProof.DictItems
import KE.KPairComp
import KE.KEqDict
import PyProof.MinMaxWalk
import PyProof.SeqI3
import PyProof.WalkInts
import PySem.Challenge.RW_boughworth_k44_steps_looked_at
set_option Elab.async false
set_option linter.all false
set_option bootstrap.genMatcherCode false
set_option compiler.extract_closed false
set_option genSizeOfSpec false
set_option maxRecDepth 100000
set_option maxHeartbeats 4000000
namespace My
open PySem PySem.W PySem.Calls PyProof.Rows
theorem with_hl {P R Q:Prop} (hl:P) (hc:R) (main:Q):Q:=main
structure Parts (Q:Prop):Type where
 {P1:Prop}
 {P2:Prop}
 {P3:Prop}
 {P4:Prop}
 {P5:Prop}
 {P6:Prop}
 {W:Prop}
 a0:P1
 a1:P2
 e0:P3
 e1:P4
 b0:P5
 b1:P6
 c:P1->P2->P3->P4->P5->P6->W->Q
noncomputable def AL (_:Params):Obj:={cls:=Value.type "tuple",data:=Data.seq #[]}
noncomputable def AK (_:Params):Obj:={cls:=Value.none,data:=Data.fields #[]}
noncomputable def AJ (_:Params):Obj:={cls:=Value.type "code",data:=Data.fields #[Value.str (Str.ofString "<module>") 182,Value.str (Str.ofString "<module>") 183,Value.str (Str.ofString "/claim/cut.py") 184,Value.int 1 0,Value.int 0 0,Value.int 0 0,Value.int 0 0,Value.int 0 0,Value.ref 11,Value.bool false,Value.int 181 0,Value.ref 12,Value.none,Value.none,Value.none,Value.none,Value.int 185 0,Value.int 1 0,Value.str (Str.ofString "/claim/cut.py") 186]}
noncomputable def AI (_:Params):Obj:={cls:=Value.type "frame",slots:= #[some (Value.ref 13),some (Value.ref 3),some (Value.ref 3),none,some (Value.str (Str.ofString "__main__") 164),none,some (Value.ref 0)]}
noncomputable def Ag (P:Params):BT:=(BT.node (boot_o_0 P) (BT.node (boot_o_1 P) (BT.node (boot_o_3 P) (BT.node (boot_o_7 P) BT.nil BT.nil) (BT.node (AL P) BT.nil BT.nil)) (BT.node (boot_o_5 P) (BT.node (boot_o_9 P) BT.nil BT.nil) (BT.node (AJ P) BT.nil BT.nil))) (BT.node (boot_o_2 P) (BT.node (boot_o_4 P) (BT.node (boot_o_8 P) BT.nil BT.nil) (BT.node (AK P) BT.nil BT.nil)) (BT.node (boot_o_6 P) (BT.node (boot_o_10 P) BT.nil BT.nil) (BT.node (AI P) BT.nil BT.nil))))
noncomputable def yX (p:Program):Env:={scope:=p.main.scope,locals:=mainNs,globals:=mainNs,cells:=[],code:=.ref 13,frame:=some 14}
noncomputable abbrev hC (p:Program):Code:=.body (behindTheImports p) (yX p)
noncomputable def hSt (w:World) (os:OsState):SharedT:=⟨Ag w.params,15,{},#[],{},187,os⟩
abbrev oO:Pos:=⟨0,0,0,0⟩
noncomputable abbrev Ah (p:Program):Thread:=piecesOf (behindTheImports p) (yX p) (hC p) oO [topFrame oO]
noncomputable abbrev vL (p:Program) (n:Nat) (w:World) (os:OsState):Option (Flow×SharedT×Code×Pos):=PySem.W.Fast.tw10110043849684766642 PySem.W.Fast.tw14364793385576792824 p w 11 (some (.ref 6)) 1 n (hSt w os) (Ah p)
theorem AM {p:Program} {w:World} {n₀:Nat} {ann:Option Value} (s:Shared) (c:Code) (pos:Pos):topRun treeTable p w n₀ ann 2 s ⟨doneF .next,c,pos,[topFrame oO]⟩=some s:=by
 obtain ⟨h,g,d,t,o⟩:=s
 kernel_rfl
theorem Ai (P:Params):((boot_heap P).isNs mainGlobals&&(#[]:Array GenState).size==0,(boot_heap P).objs.size,(boot_heap P).nsMap mainGlobals "__annotations__")=(true,11,some (.ref 6)):=by kernel_rfl
theorem left_of {p q:Program} {loose:List Str} {Xt:Shared->Bool} {α:Type} {Yf:Shared->α} {Ya:World->α} {N n:Nat} {g0:Bool} {posE:Pos}
  (e:opening p=plainProg p.main.scope.names) (hN:Nat.ble 600 N=true) (f: ∀ s,fenceModules? p s=some s) (le:Nat.ble (12+ (1+ (n+2))) N=true)
  (pre: ∀ (w:World) (os:OsState),topGo treeTable p w 11 (some (.ref 6)) 12 ⟨boot_heap w.params,#[],boot_drawn,boot_toks,os⟩ (topStub p)=some ((hSt w os).abs,⟨denote treeTable (hC p),hC p,oO,[topFrame oO]⟩))
  (block: ∀ (w:World) (os:OsState),segRun treeTable p w 11 (some (.ref 6)) 1 1 (hSt w os).abs (blockOf (behindTheImports p) (yX p) (hC p) oO [topFrame oO])=some (.next,(hSt w os).abs,hC p,oO))
  (runA: ∀ (w:World) (os:OsState),(vL p n w os).map (fun r=>(r.1,r.2.2,(staticsOk (importedModules p.main.body) (boot_heap w.params) r.2.1.abs.heap&&namesBound p r.2.1.abs.heap&&gensDone r.2.1.abs&&laidKept (boot_heap w.params) r.2.1.abs.heap),(openSeen q loose (importedModules p.main.body) Xt g0 r.2.1.abs).1,Yf r.2.1.abs))=some (.next,(hC p,posE),true,(openGood q loose).1,Ya w))
  (runE: ∀ (w:World) (os:OsState),(vL p n w os).map (fun r=>((openSeen q loose (importedModules p.main.body) Xt g0 r.2.1.abs).2.1,(openSeen q loose (importedModules p.main.body) Xt g0 r.2.1.abs).2.2.1))=some ((openGood q loose).2.1,(openGood q loose).2.2.1))
  (runB: ∀ (w:World) (os:OsState),(vL p n w os).map (fun r=>(openSeen q loose (importedModules p.main.body) Xt g0 r.2.1.abs).2.2.2)=some (openGood q loose).2.2.2):LeftO p q loose Xt Yf Ya N g0:=by
 intro w
 obtain ⟨⟨h,gs,d,k,os⟩,e1,e'⟩:=Option.map_eq_some_iff.mp (boot_open e hN f w)
 obtain ⟨rfl,rfl,rfl,rfl⟩:h=boot_heap w.params/\gs= #[]/\d=boot_drawn/\k=boot_toks:=by simpa using e'
 obtain ⟨z1,z2,z3⟩:_/\_/\_:=by simpa only [Prod.mk.injEq]using Ai w.params
 have E:segRunT treeTable p w 11 (some (.ref 6)) 1 n (hSt w os) (Ah p)=vL p n w os:=by
  unfold vL
  rw [<- PySem.W.Fast.te10110043849684766642,<- PySem.W.Fast.te14364793385576792824]
 have A:=runA w os
 have B:=runB w os
 have E2:=runE w os
 obtain ⟨⟨fl,x,c,pos⟩,r1,r2⟩:=Option.map_eq_some_iff.mp A
 simp only [Prod.mk.injEq]at r2
 obtain ⟨rfl,⟨rfl,rfl⟩,l1,l2a,yb⟩:=r2
 have l2e:((openSeen q loose (importedModules p.main.body) Xt g0 x.abs).2.1,(openSeen q loose (importedModules p.main.body) Xt g0 x.abs).2.2.1)=((openGood q loose).2.1,(openGood q loose).2.2.1):=by rw [r1]at E2;exact Option.some.inj E2
 have l2d:(openSeen q loose (importedModules p.main.body) Xt g0 x.abs).2.2.2=(openGood q loose).2.2.2:=by rw [r1]at B;exact Option.some.inj B
 have l2:openSeen q loose (importedModules p.main.body) Xt g0 x.abs=openGood q loose:=Prod.ext l2a (Prod.ext (Prod.mk.inj l2e).1 (Prod.ext (Prod.mk.inj l2e).2 l2d))
 have s1:=segRun_of (E.trans r1)
 have t1:=piece_app (rest:=[]) s1 (piece_nil (AM x.abs _ _))
 rw [List.append_nil]at t1
 have t3:=go_top (pre w os) (piece_block (block w os) t1)
 have r:=topRun_mono (N- (12+ (1+ (n+2)))) _ _ _ _ t3
 rw [show 12+ (1+ (n+2)) + (N- (12+ (1+ (n+2))))=N by have:=Nat.le_of_ble_eq_true le;omega]at r
 have t:topFrom treeTable p w N ⟨boot_heap w.params,#[],boot_drawn,boot_toks,os⟩=some x.abs:=by
  unfold topFrom
  dsimp only
  rw [z1,z2,z3,r]
  show (match staticsOk _ _ _&&namesBound _ _&&gensDone _&&laidKept _ _ with | true=>_ | false=>_)=_
  rw [l1]
 unfold openEnds
 rw [e1]
 change Option.map _ (topFrom treeTable p w N _)=_
 rw [t]
 exact congrArg some (Prod.ext l2 yb)
end My
open PySem PySem.W PyProof.Rows in
set_option maxHeartbeats 0 in
noncomputable def My.parts:My.Parts PySem.Challenge.rw_boughworth_k44_steps_looked_at.Holds:=by
 apply My.Parts.mk
 case c=>
  intro ha0 ha1 he0 he1 hb0 hb1 hW
  w_on;o_law
  apply My.with_hl
  case main=>
   k_head;(case hw=>w_witness2)
  case hc=>exact hW
  case hl=>
   refine My.left_of (n:=1900) (posE:=⟨372,0,392,15⟩) ?e ?hN ?f ?le ?pre ?block (byRow2 "special-get-raises" ha0 ha1) (byRow2 "special-get-raises" he0 he1) (byRow2 "special-get-raises" hb0 hb1)
   case e=>kernel_rfl
   case hN=>decide
   case f=>intro s;kernel_rfl
   case le=>decide
   case pre=>(intro w os;kernel_rfl)
   case block=>(intro w os;kernel_rfl)
 case a0=>(intro w os;kernel_rfl)
 case a1=>(intro w os;kernel_rfl)
 case e0=>(intro w os;kernel_rfl)
 case e1=>(intro w os;kernel_rfl)
 case b0=>(intro w os;kernel_rfl)
 case b1=>(intro w os;kernel_rfl)
namespace PySem
section
variable {prog:Program} {w:World} {K:Type} [DecidableEq K] {knd:KeyKind prog w K}
def IsTripKey (knd:KeyKind prog w K) (h:Heap) (p:List K×(K×K)) (a:Addr):Prop:=
 ∃ o items n b u v,h.get? a=some o/\o.cls=.type "tuple"/\o.data=.seq items n/\items.toList=[u,v,.ref b]/\IsTupleKey knd h p.1 b/\knd.is p.2.1 u=true/\knd.is p.2.2 v=true
noncomputable def jB (knd:KeyKind prog w K) (p:List K×(K×K)):Int:=reduceHash (Builtin.Tuple.tupleHashOf [knd.hash p.2.1,knd.hash p.2.2,tupleKeyHash knd p.1])
variable {A:Around} {E:Value->Shared->Prop} {s:Shared}
theorem IsTripKey.typeIs {p:List K×(K×K)} {a:Addr} (x:IsTripKey knd s.heap p a):s.TypeIs (.ref a) "tuple":=by
 obtain ⟨o,_,_,_,_,_,e,c,_⟩:=x
 exact ⟨o,e,c⟩
theorem IsTripKey.inj {h:Heap} {p q:List K×(K×K)} {a:Addr} (x:IsTripKey knd h p a) (y:IsTripKey knd h q a):p=q:=by
 obtain ⟨o,i,n,b,u,v,e,_,d,t,k,m,l⟩:=x
 obtain ⟨o',i',n',b',u',v',e',_,d',t',k',m',l'⟩:=y
 rw [e]at e';cases e'
 rw [d]at d';cases d'
 rw [t]at t'
 have h1:u=u'/\v=v'/\b=b':=by simpa using t'
 obtain ⟨rfl,rfl,rfl⟩:=h1
 exact Prod.ext (k.inj k') (Prod.ext (knd.inj _ _ _ m m') (knd.inj _ _ _ l l'))
theorem IsTripKey.keeps {h h':Heap} {p:List K×(K×K)} {a d:Addr} {o:Obj} {es ep} (x:IsTripKey knd h p a) (ho:h.get? d=some o) (hd:o.data=.dict es ep) (hs:Heap.SameBut d h h'):IsTripKey knd h' p a:=by
 obtain ⟨o',i,n,b,u,v,e,c,dt,t,k,m⟩:=x
 refine ⟨o',i,n,b,u,v,?_,c,dt,t,k.keeps ho hd hs,m⟩
 have ne:a≠d:=fun z=>by
  subst z
  rw [ho]at e;cases e
  rw [hd]at dt;cases dt
 rw [<- e]
 exact hs.2 a ne
theorem im {p:List K×(K×K)} {a:Addr} {Q:Int->Shared->Prop} (hu:A.units+8<cLine) (hk:IsTripKey knd s.heap p a) (h:Q (jB knd p) {s with toks:=s.toks+ (1+1+ (p.1.length+1) +1)}):
  wpAny (model prog w) A (pyHash (.ref a)) Q E s:=by
 have hT:=hk.typeIs
 obtain ⟨o,items,n,b,u,v,ho,_,hd,hi,hb,hu1,hv⟩:=hk
 unfold pyHash
 first | unfold pyHashByItsType | skip
 first | refine wpAny_bind (wpAny_cRoomFor_or (.inr (by lia)) ?_) | skip
 refine wpAny_bind (wpAny_specialOf hT F.slot_tuple_hash.lookup ?_)
 show wpAny _ _ (if (some (Value.builtin "tuple.__hash__")==some Value.none)=true then _ else _) Q E s
 rw [if_neg (by rw [beq_builtin_none];exact Bool.false_ne_true)]
 refine wpAny_bind (wpAny_specialOf hT F.slot_tuple_hash.lookup ?_)
 show wpAny _ _ (callSpecialIfBoundUnlessNone? (.ref a) "__hash__" _ >>= _) Q E s
 refine wpAny_bind (wpAny_callSpecialIfBoundUnlessNone?_slot hT F.slot_tuple_hash (wpAny_call_entry F.slot_tuple_hash hT F.entry_tuple_hash ?_ (F.args_tuple_hash_1 _)))
 show wpAny _ _ (Builtin.Tuple.tupleItemsOf (.ref a) >>= _) _ _ s
 refine wpAny_bind (wpAny_tupleItemsOf ho hd ?_)
 refine wpAny_bind ?_
 rw [<- Array.forIn_toList,hi,List.forIn_cons]
 refine wpAny_bind (wpAny_bind (knd.pyHash hu1 ?_))
 refine wpAny_pure ?_
 show wpAny _ _ (forIn [v,Value.ref b] #[knd.hash p.2.1] _) _ _ _
 rw [List.forIn_cons]
 refine wpAny_bind (wpAny_bind (knd.pyHash hv ?_))
 refine wpAny_pure ?_
 show wpAny _ _ (forIn [Value.ref b] #[knd.hash p.2.1,knd.hash p.2.2] _) _ _ _
 rw [List.forIn_cons]
 refine wpAny_bind (wpAny_bind (wpAny_pyHash_tuple (by show _<cLine;simp;lia) hb ?_))
 refine wpAny_pure ?_
 show wpAny _ _ (forIn [] _ _) _ _ _
 rw [List.forIn_nil]
 refine wpAny_pure ?_
 show wpAny _ _ (retInt (Builtin.Tuple.tupleHashOf [knd.hash p.2.1,knd.hash p.2.2,tupleKeyHash knd p.1])) _ _ _
 refine wpAny_ret_mkInt ?_
 generalize hz:Builtin.Tuple.tupleHashOf [knd.hash p.2.1,knd.hash p.2.2,tupleKeyHash knd p.1]=z
 show wpAny _ _ (if (decide (-(2:Int) ^63<=z)&&decide (z<2^63))=true then _ else _) Q E _
 unfold jB reduceHash at h
 rw [hz]at h
 by_cases hr:(decide (-(2:Int) ^63<=z)&&decide (z<2^63))=true
 ·rw [if_pos hr]
  rw [if_pos hr]at h
  exact wpAny_pure (by simpa [Nat.add_assoc]using h)
 ·rw [if_neg hr]
  rw [if_neg hr]at h
  exact wpAny_bind (wpAny_rule (wpAny_pure (by simpa [Nat.add_assoc]using h)))
theorem oh (m:Nat) {ks:List K} {a:Addr} {Q:Bool->Shared->Prop} (hk:IsTupleKey knd s.heap ks a) (h:Q true s):wpAny (model prog w) A (eqIsQuiet (m+1) (.ref a)) Q E s:=by
 have hT:=hk.typeIs
 obtain ⟨o,items,n,ho,_,hd,hi⟩:=hk
 unfold eqIsQuiet
 refine wpAny_bind (wpAny_specialOf hT F.slot_tuple_eq.lookup ?_)
 show wpAny _ _ (isInstance (.ref a) (.type "tuple") >>= _) _ _ s
 refine wpAny_bind (wpAny_isInstance hT isSubtype_tuple_tuple ?_)
 simp only [Bool.not_true,Bool.false_eq_true,if_false]
 refine wpAny_bind (wpAny_seqItems ho hd (wpAny_bind ?_))
 show wpAny _ _ (forIn items _ _) _ _ s
 rw [<- Array.forIn_toList]
 refine wpAny_forIn_list _ (fun rest r s'=>r.1=none/\s'=s/\ ∀ v∈rest,carriedByValue v=true) _ ?_ ?_ _ _ ⟨rfl,rfl,hi.byValue⟩
 ·rintro v rest r s' ⟨hr,rfl,hall⟩
  rw [eqIsQuiet_byValue _ (hall v List.mem_cons_self)]
  refine wpAny_bind (wpAny_pure ?_)
  simp only [Bool.not_true,Bool.false_eq_true,if_false]
  exact wpAny_pure ⟨rfl,rfl,fun u hu'=>hall u (List.mem_cons_of_mem _ hu')⟩
 ·rintro ⟨r1,r2⟩ s' ⟨hr,rfl,_⟩
  simp only at hr
  subst hr
  exact wpAny_pure h
theorem fN {p:List K×(K×K)} {a:Addr} {Q:Bool->Shared->Prop} (hk:IsTripKey knd s.heap p a) (h:Q true s):wpAny (model prog w) A (eqIsQuiet 8 (.ref a)) Q E s:=by
 have hT:=hk.typeIs
 obtain ⟨o,items,n,b,u,v,ho,_,hd,hi,hb,hu1,hv⟩:=hk
 unfold eqIsQuiet
 refine wpAny_bind (wpAny_specialOf hT F.slot_tuple_eq.lookup ?_)
 show wpAny _ _ (isInstance (.ref a) (.type "tuple") >>= _) _ _ s
 refine wpAny_bind (wpAny_isInstance hT isSubtype_tuple_tuple ?_)
 simp only [Bool.not_true,Bool.false_eq_true,if_false]
 refine wpAny_bind (wpAny_seqItems ho hd ?_)
 refine wpAny_bind ?_
 show wpAny _ _ (forIn items _ _) _ _ s
 rw [<- Array.forIn_toList,hi,List.forIn_cons]
 rw [eqIsQuiet_byValue _ (knd.byValue _ _ hu1)]
 refine wpAny_bind (wpAny_bind (wpAny_pure ?_))
 simp only [Bool.not_true,Bool.false_eq_true,if_false]
 refine wpAny_pure ?_
 show wpAny _ _ (forIn [v,Value.ref b] (none,()) _) _ _ _
 rw [List.forIn_cons,eqIsQuiet_byValue _ (knd.byValue _ _ hv)]
 refine wpAny_bind (wpAny_bind (wpAny_pure ?_))
 simp only [Bool.not_true,Bool.false_eq_true,if_false]
 refine wpAny_pure ?_
 show wpAny _ _ (forIn [Value.ref b] (none,()) _) _ _ _
 rw [List.forIn_cons]
 refine wpAny_bind (wpAny_bind (oh 6 hb ?_))
 simp only [Bool.not_true,Bool.false_eq_true,if_false]
 refine wpAny_pure ?_
 show wpAny _ _ (forIn [] _ _) _ _ _
 rw [List.forIn_nil]
 exact wpAny_pure (wpAny_pure h)
theorem lY {p q:List K×(K×K)} {a b:Addr} {R:Fin->Shared->Prop} (hu:A.units+4<cLine) (hx:IsTripKey knd s.heap p a) (hy:IsTripKey knd s.heap q b) (h:R (.done (.ret (.bool (decide (p=q))))) s):
  wpAny (model prog w) A (Builtin.«tuple.__eq__» ⟨[.ref a,.ref b],[]⟩) R E s:=by
 have hTb:=hy.typeIs
 obtain ⟨oa,xs,na,a1,u1,v1,hoa,_,hda,hia,hka,hua,hva⟩:=hx
 obtain ⟨ob,ys,nb,b1,u2,v2,hob,_,hdb,hib,hkb,hub,hvb⟩:=hy
 show wpAny _ _ (isInstance (.ref b) (.type "tuple") >>= _) _ _ s
 refine wpAny_bind (wpAny_isInstance hTb isSubtype_tuple_tuple ?_)
 simp only [Bool.not_true,Bool.false_eq_true,if_false]
 refine wpAny_bind (wpAny_tupleItemsOf hoa hda (wpAny_bind (wpAny_tupleItemsOf hob hdb (wpAny_bind ?_))))
 have hs:xs.size=ys.size:=by rw [<- Array.length_toList,<- Array.length_toList,hia,hib];rfl
 rw [hia,hib]
 show wpAny _ _ (forIn [(u1,u2),(v1,v2),(Value.ref a1,Value.ref b1)] (none,()) _) _ _ _
 rw [List.forIn_cons]
 refine wpAny_bind (wpAny_bind (knd.eqBool (a:=p.2.1) (b:=q.2.1) hua hub ?_))
 by_cases h1:p.2.1=q.2.1
 case neg=>
  rw [decide_eq_false h1]
  simp only [Bool.not_false,if_true]
  rw [decide_eq_false fun e=>h1 (congrArg (fun z=>z.2.1) e)]at h
  exact wpAny_bind (wpAny_pure (wpAny_pure (wpAny_pure (wpAny_pure h))))
 rw [decide_eq_true h1]
 simp only [Bool.not_true,Bool.false_eq_true,if_false]
 refine wpAny_pure ?_
 show wpAny _ _ (forIn [(v1,v2),(Value.ref a1,Value.ref b1)] (none,()) _) _ _ _
 rw [List.forIn_cons]
 refine wpAny_bind (wpAny_bind (knd.eqBool (a:=p.2.2) (b:=q.2.2) hva hvb ?_))
 by_cases h2:p.2.2=q.2.2
 case neg=>
  rw [decide_eq_false h2]
  simp only [Bool.not_false,if_true]
  rw [decide_eq_false fun e=>h2 (congrArg (fun z=>z.2.2) e)]at h
  exact wpAny_bind (wpAny_pure (wpAny_pure (wpAny_pure (wpAny_pure h))))
 rw [decide_eq_true h2]
 simp only [Bool.not_true,Bool.false_eq_true,if_false]
 refine wpAny_pure ?_
 show wpAny _ _ (forIn [(Value.ref a1,Value.ref b1)] (none,()) _) _ _ _
 rw [List.forIn_cons]
 refine wpAny_bind (wpAny_bind (wpAny_eqBool_tuple (by lia) hka hkb ?_))
 by_cases h3:p.1=q.1
 case neg=>
  rw [decide_eq_false h3]
  simp only [Bool.not_false,if_true]
  rw [decide_eq_false fun e=>h3 (congrArg Prod.fst e)]at h
  exact wpAny_bind (wpAny_pure (wpAny_pure (wpAny_pure (wpAny_pure h))))
 rw [decide_eq_true h3]
 simp only [Bool.not_true,Bool.false_eq_true,if_false]
 refine wpAny_pure ?_
 show wpAny _ _ (forIn [] _ _) _ _ _
 rw [List.forIn_nil]
 rw [decide_eq_true (Prod.ext h3 (Prod.ext h1 h2))]at h
 refine wpAny_pure (wpAny_pure ?_)
 show R (.done (.ret (.bool (xs.size==ys.size)))) s
 rw [hs,beq_self_eq_true]
 exact h
theorem io {p q:List K×(K×K)} {a b:Addr} {Q:Bool->Shared->Prop} (hu:A.units+8<cLine) (hx:IsTripKey knd s.heap p a) (hy:IsTripKey knd s.heap q b) (h:Q (decide (p=q)) s):
  wpAny (model prog w) A (eqBool (.ref a) (.ref b)) Q E s:=by
 unfold eqBool
 try with_reducible refine wpAny_holding ?_
 show wpAny _ _ (if (Value.ref a==Value.ref b)=true then _ else _) Q E s
 by_cases hab:(Value.ref a==Value.ref b)=true
 ·rw [if_pos hab]
  have e:a=b:=by have:=eq_of_beq hab;injection this
  subst e
  obtain rfl:=hx.inj hy
  exact wpAny_bind (wpAny_rule (wpAny_pure (by simpa using h)))
 ·rw [if_neg hab]
  exact wpAny_bind (wpAny_richCompare_same_room (op:=.Eq) hx.typeIs hy.typeIs F.slot_tuple_eq
   (wpAny_call_entry F.slot_tuple_eq hx.typeIs F.entry_tuple_eq (lY (by simp;lia) hx hy ⟨_,rfl,(fun e=>nomatch e),wpAny_truthy_bool h⟩) (F.args_tuple_eq_2 _ _)) (by lia))
end
noncomputable def fb {prog:Program} {w:World} {K:Type} [DecidableEq K] (knd:KeyKind prog w K):HeapKind prog w (List K×(K×K)) where
 is:=IsTripKey knd
 hash:=jB knd
 draws:=fun p=>1+1+ (p.1.length+1) +1
 room:=fun A=>A.units+8<cLine
 inj:=fun hx hy=>hx.inj hy
 keeps:=fun x ho hd hs=>x.keeps ho hd hs
 pyHash:=fun hu hk h=>im hu hk h
 eqBool:=fun hu hx hy h=>io hu hx hy h
 quiet:=fun hk h=>fN hk h
end PySem
namespace L2
open PySem PySem.Spec PyProof.Rows
abbrev Key:=Sum Int Str
noncomputable def lG:Key->Value->Bool
 | .inl k,v=>Value.isInt k v
 | .inr x,v=>Value.isStrOf x v
noncomputable def AG (w:World):Key->Int
 | .inl k=>hashInt k
 | .inr x=>hashStr w x
theorem cq: ∀ {k:Key} {v:Value},lG k v=true->(∃ i t,k=Sum.inl i/\v=Value.int i t)\/(∃ x t,k=Sum.inr x/\v=Value.str x t)
 | .inl i,v,h=>by
  obtain ⟨t,e⟩:=Value.isInt_shape (k:=i) (v:=v) h
  exact .inl ⟨i,t,rfl,e⟩
 | .inr x,v,h=>by
  obtain ⟨t,e⟩:=Value.isStrOf_shape (x:=x) (v:=v) h
  exact .inr ⟨x,t,rfl,e⟩
theorem tJ (i:Int) (t:Tok):lG (.inl i) (.int i t)=true:=by simp [lG,Value.isInt]
theorem bZ (x:Str) (t:Tok):lG (.inr x) (.str x t)=true:=by simp [lG,Value.isStrOf]
theorem yQ (a b:Int):decide ((Sum.inl a:Key)=Sum.inl b)=(a==b):=by
 by_cases e:a=b
 ·subst e;simp
 ·have h: ¬ (Sum.inl a:Key)=Sum.inl b:=fun q=>e (Sum.inl.inj q)
  rw [decide_eq_false h]
  exact (beq_eq_false_iff_ne.mpr e).symm
theorem yN (a b:Str):decide ((Sum.inr a:Key)=Sum.inr b)=decide (a=b):=by
 by_cases e:a=b
 ·subst e;simp
 ·have h: ¬ (Sum.inr a:Key)=Sum.inr b:=fun q=>e (Sum.inr.inj q)
  rw [decide_eq_false h,decide_eq_false e]
theorem yP (a:Int) (b:Str):decide ((Sum.inl a:Key)=Sum.inr b)=false:=decide_eq_false (fun q=>nomatch q)
theorem yO (a:Str) (b:Int):decide ((Sum.inr a:Key)=Sum.inl b)=false:=decide_eq_false (fun q=>nomatch q)
noncomputable def bd (prog:Program) (w:World):PySem.KeyKind prog w Key where
 is:=lG
 hash:=AG w
 inj:=fun v a b ha hb=>by
  rcases cq ha with ⟨i,t,rfl,rfl⟩ | ⟨x,t,rfl,rfl⟩
  ·rcases cq hb with ⟨j,u,rfl,e⟩ | ⟨y,u,rfl,e⟩
   ·injection e with e1 _;rw [e1]
   ·exact nomatch e
  ·rcases cq hb with ⟨j,u,rfl,e⟩ | ⟨y,u,rfl,e⟩
   ·exact nomatch e
   ·injection e with e1 _;rw [e1]
 byValue:=fun k v h=>by
  rcases cq h with ⟨i,t,rfl,rfl⟩ | ⟨x,t,rfl,rfl⟩ <;> rfl
 pyHash:=fun hv h=>by
  rcases cq hv with ⟨i,t,rfl,rfl⟩ | ⟨x,t,rfl,rfl⟩
  ·exact wpAny_pyHash_int h
  ·exact wpAny_pyHash_str h
 eqBool:=fun hu hv h=>by
  rcases cq hu with ⟨i,t,rfl,rfl⟩ | ⟨x,t,rfl,rfl⟩
  ·rcases cq hv with ⟨j,u,rfl,rfl⟩ | ⟨y,u,rfl,rfl⟩
   ·rw [yQ]at h;exact wpAny_eqBool_int h
   ·rw [yP]at h;exact SeqAt.EqAt.int_str i t y u _ _ _ _ h
  ·rcases cq hv with ⟨j,u,rfl,rfl⟩ | ⟨y,u,rfl,rfl⟩
   ·rw [yO]at h;exact SeqAt.EqAt.str_int x t j u _ _ _ _ h
   ·rw [yN]at h;exact wpAny_eqBool_str h
 «strs» :=fun k x t v h=>by
  rcases cq h with ⟨i,u,rfl,e⟩ | ⟨y,u,rfl,e⟩
  ·exact nomatch e
  ·injection e with e1 _
   subst e1
   cases v <;> rfl
theorem oF (prog:Program) (w:World) (i:Int) (t:Tok):(bd prog w).is (.inl i) (.int i t)=true:=tJ i t
theorem oE (prog:Program) (w:World) (x:Str) (t:Tok):(bd prog w).is (.inr x) (.str x t)=true:=bZ x t
inductive V where
 | non | bl (b:Bool) | int (i:Int) | str (x:Str) | byt (b:Array UInt8) | flt (b:UInt64) | ref (a:Addr) | ty (n:String)
 deriving DecidableEq
noncomputable def RelV:V->Value->Prop
 | .non,u=>u=Value.none
 | .bl b,u=>u=Value.bool b
 | .int i,u=> ∃ t,u=Value.int i t
 | .str x,u=> ∃ t,u=Value.str x t
 | .byt b,u=> ∃ t,u=Value.bytes b t
 | .flt b,u=> ∃ t,u=Value.float b t
 | .ref a,u=>u=Value.ref a
 | .ty n,u=>u=Value.type n
noncomputable abbrev Vals:List V->List Value->Prop:=Paired RelV
theorem Vals.length {xs:List V} {us:List Value} (r:Vals xs us):xs.length=us.length:=Paired.length r
theorem Vals.get: ∀ {xs:List V} {us:List Value} {i:Nat} {x:V},Vals xs us->xs[i]? =some x-> ∃ u,us[i]? =some u/\RelV x u
 | _,_,_,_,.nil,e=>by simp at e
 | _,_,0,_,.cons r _,e=>by simp at e;subst e;exact ⟨_,rfl,r⟩
 | _,_,i+1,x,.cons _ t,e=>by
  obtain ⟨u,h1,h2⟩:=Vals.get (i:=i) (x:=x) t (by simpa using e)
  exact ⟨u,by simpa using h1,h2⟩
theorem Vals.set {x:V} {u:Value} (r:RelV x u): ∀ {xs:List V} {us:List Value} (i:Nat),Vals xs us->Vals (xs.set i x) (us.set i u)
 | _,_,_,.nil=>.nil
 | _,_,0,.cons _ t=>.cons r t
 | _,_,i+1,.cons q t=>.cons q (Vals.set r i t)
theorem Vals.append: ∀ {xs ys:List V} {us ws:List Value},Vals xs us->Vals ys ws->Vals (xs++ys) (us++ws)
 | _,_,_,_,.nil,s=>s
 | _,_,_,_,.cons r t,s=>.cons r (Vals.append t s)
theorem Vals.take: ∀ {xs:List V} {us:List Value} (n:Nat),Vals xs us->Vals (xs.take n) (us.take n)
 | _,_,0,_=>.nil
 | _,_,_+1,.nil=>.nil
 | _,_,n+1,.cons r t=>.cons r (Vals.take n t)
theorem Vals.drop: ∀ {xs:List V} {us:List Value} (n:Nat),Vals xs us->Vals (xs.drop n) (us.drop n)
 | _,_,0,r=>r
 | _,_,_+1,.nil=>.nil
 | _,_,n+1,.cons _ t=>Vals.drop n t
theorem Vals.none_of: ∀ {xs:List V} {us:List Value} {i:Nat},Vals xs us->xs[i]? =none->us[i]? =none:=fun {xs us i} r e=>by
 have h1:=r.length
 have h2:xs.length<=i:=List.getElem?_eq_none_iff.mp e
 exact List.getElem?_eq_none_iff.mpr (by lia)
noncomputable def RelO:Option V->Option Value->Prop
 | some v,some u=>RelV v u
 | none,none=>True
 | _,_=>False
noncomputable def KV {κ:Type}:List (κ×V)->List (κ×Value)->Prop:=Paired fun (p:κ×V) (q:κ×Value)=>p.1=q.1/\RelV p.2 q.2
noncomputable def kV:Key->V
 | .inl i=>.int i
 | .inr x=>.str x
inductive HO where
 /-- a list -/
 | lst (xs:List V)
 /-- a tuple (never changes) -/
 | tup (xs:List V)
 /-- a dict whose keys are ints and texts; one whose keys are tuples of ints and texts (the empty one is both) -/
 | dK (kvs:List (Key×V)) | dT (kvs:List (List Key×V)) | dP (kvs:List ((List Key×(Key×Key))×V))
 /-- a set of ints: its members, its size -/
 | set (S:Int->Bool) (n:Nat)
 /-- an instance of the class at C, its dict at dx, its attributes -/
 | ins (C dx:Addr) (fs:List (Str×V))
 /-- the dict of the instance at x -/
 | own (x:Addr)
 /-- the dict of an exception -/
 | xd (fs:List (Str×V))
 /-- a bound method, f of x -/
 | met (f x:Addr)
 /-- a range object lo, lo + 1, .. below hi -/
 | rng (lo hi:Int)
 /-- a thing that is known to the object (the script; a dict while a loop walks it): read, never written while it is so -/
 | frz (o:Obj) (u:HO)
 /-- a code object's table -/
 | tbl (ps:Array Value)
 /-- any other thing, by what is true of its one object (a def of one's own: SetO a S n := HO.ext fun h => ..) -/
 | ext (φ:Heap->Prop)
abbrev Hp:=Addr->Option HO
noncomputable def upd (H:Hp) (a:Addr) (o:HO):Hp:=fun b=>if b=a then some o else H b
theorem ab {H:Hp} {a:Addr} {o:HO}:upd H a o a=some o:=by unfold upd;rw [if_pos rfl]
theorem am {H:Hp} {a b:Addr} {o:HO} (h:b≠a):upd H a o b=H b:=by unfold upd;rw [if_neg h]
theorem eJ {H:Hp} {a:Addr} {o u:HO}:upd (upd H a o) a u=upd H a u:=by
 funext b;unfold upd;split <;> rfl
theorem xP {H:Hp} {a b:Addr} {o u:HO} (h:H a=some o) (h':H b=some u) (d:o≠u):a≠b:=by
 intro e;subst e;rw [h]at h';exact d (Option.some.inj h')
theorem aj {H:Hp} {a b:Addr} {o:HO} (h:H a=some o) (h':H b=none):a≠b:=by
 intro e;subst e;rw [h]at h';cases h'
section
variable (P:Program) (w:World)
noncomputable def ObjOk (H:Hp) (h:Heap) (a:Addr):HO->Prop
 | .lst xs=>xs.length<=sizeLine/\ ∃ (its:List Value) (n:Nat),Vals xs its/\h.get? a=some {cls:=.type "list",data:=.seq its.toArray n}
 | .tup xs=>xs.length<=sizeLine/\ ∃ its:List Value,Vals xs its/\IsTup h a its.toArray
 | .dK kvs=>kvs.length<=sizeLine/\(a==sysModules)=false/\ ∃ vs,KV kvs vs/\h.DictOf (bd P w) a vs
 | .dT kvs=>kvs.length<=sizeLine/\(a==sysModules)=false/\ ∃ xs:List (List Key×Addr×Value),
   Paired (fun (p:List Key×V) (q:List Key×Addr×Value)=>p.1=q.1/\H q.2.1=some (.tup (p.1.map kV))/\RelV p.2 q.2.2) kvs xs/\
   ∃ o es ep,h.get? a=some o/\o.ExactDict/\o.data=.dict es ep/\es.toList=xs.map (entryOfKey (tupleKind (bd P w)))/\(xs.map (·.1)).Nodup
 | .dP kvs=>kvs.length<=sizeLine/\(a==sysModules)=false/\ ∃ xs:List ((List Key×(Key×Key))×Addr×Value),
   Paired (fun (p:(List Key×(Key×Key))×V) (q:(List Key×(Key×Key))×Addr×Value)=>p.1=q.1/\(∃ b,H q.2.1=some (.tup [kV p.1.2.1,kV p.1.2.2,.ref b])/\H b=some (.tup (p.1.1.map kV)))/\RelV p.2 q.2.2) kvs xs/\
   ∃ o es ep,h.get? a=some o/\o.ExactDict/\o.data=.dict es ep/\es.toList=xs.map (entryOfKey (fb (bd P w)))/\(xs.map (·.1)).Nodup
 | .set S n=>h.SetOf (intKind P w) a S n
 | .ins C dx fs=>H dx=some (.own a)/\fs.length<=1000/\dx≠a/\h.get? a=some (PySem.W.instObj C dx)/\
   ∃ mA,h.Ns1 dx mA/\(∀ f,RelO (fs.lookup f) (mA f))/\PySem.Within mA (fs.map (·.1))
 | .own _=> ∃ o,h.get? a=some o
 | .xd fs=> ∃ mA,h.Ns1 a mA/\ ∀ f,RelO (fs.lookup f) (mA f)
 | .rng lo hi=> ∃ t u v,h.get? a=some {cls:=.type "range",data:=.fields #[.int lo t,.int hi u,.int 1 v]}
 | .frz o u=>h.get? a=some o/\ObjOk H h a u
 | .tbl ps=>h.get? a=some {cls:=.none,data:=.fields ps}
 | .met f x=>h.get? a=some (PySem.W.methodObj (.ref f) (.ref x))
 | .ext φ=>φ h/\(∃ o,h.get? a=some o)/\ ∀ h1 h2:Heap,φ h1->(∀ o,h1.get? a=some o->h2.get? a=some o)->φ h2
def HOk (H:Hp) (h:Heap):Prop:= ∀ a o,H a=some o->ObjOk P w H h a o
end
section
variable {P:Program} {w:World} {H H':Hp} {h h':Heap} {a:Addr} {o:HO}
theorem ObjOk.lt (x:ObjOk P w H h a o):a<h.objs.size:=by
 cases o with
 | lst xs=>obtain ⟨_,_,_,_,e⟩:=x;exact Heap.lt_size e
 | tup xs=>obtain ⟨_,_,_,p⟩:=x;exact p.lt
 | dK kvs=>obtain ⟨_,_,_,_,o,_,_,e,_⟩:=x;exact Heap.lt_size e
 | dT kvs=>obtain ⟨_,_,_,_,o,_,_,e,_⟩:=x;exact Heap.lt_size e
 | dP kvs=>obtain ⟨_,_,_,_,o,_,_,e,_⟩:=x;exact Heap.lt_size e
 | set S n=>obtain ⟨o,_,_,_,e,_⟩:=x;exact Heap.lt_size e
 | ins C dx fs=>obtain ⟨_,_,_,e,_⟩:=x;exact Heap.lt_size e
 | own y=>obtain ⟨_,e⟩:=x;exact Heap.lt_size e
 | xd fs=>obtain ⟨_,⟨_,_,_,e,_⟩,_⟩:=x;exact Heap.lt_size e
 | rng lo hi=>obtain ⟨_,_,_,e⟩:=x;exact Heap.lt_size e
 | frz ob u=>obtain ⟨e,_⟩:=x;exact Heap.lt_size e
 | tbl ps=>exact Heap.lt_size (show h.get? a=some _ from x)
 | met f y=>exact Heap.lt_size (show h.get? a=some _ from x)
 | ext φ=>obtain ⟨_,⟨_,e⟩,_⟩:=x;exact Heap.lt_size e
theorem Paired.mapP {α β:Type} {F G:α->β->Prop}: ∀ {l₁:List α} {l₂:List β},Paired F l₁ l₂->(∀ a b,F a b->G a b)->Paired G l₁ l₂
 | _,_,.nil,_=>.nil
 | _,_,.cons r t,f=>.cons (f _ _ r) (Paired.mapP t f)
theorem ObjOk.stay (x:ObjOk P w H h a o) (k: ∀ b u,(b=a\/H b=some (.own a))->h.get? b=some u->h'.get? b=some u)
  (ho: ∀ b,H b=some (.own a)->H' b=some (.own a)) (ht: ∀ b xs,H b=some (.tup xs)->H' b=some (.tup xs)):ObjOk P w H' h' a o:=by
 induction o with
 | lst xs=>obtain ⟨z,its,n,r,e⟩:=x;exact ⟨z,its,n,r,k _ _ (.inl rfl) e⟩
 | tup xs=>obtain ⟨z,its,r,ob,e,c⟩:=x;exact ⟨z,its,r,ob,k _ _ (.inl rfl) e,c⟩
 | dK kvs=>obtain ⟨z,y,vs,r,ob,es,ep,e,c⟩:=x;exact ⟨z,y,vs,r,ob,es,ep,k _ _ (.inl rfl) e,c⟩
 | dT kvs=>
  obtain ⟨z,y,xs,r,ob,es,ep,e,c⟩:=x
  exact ⟨z,y,xs,Paired.mapP r fun p q z=>⟨z.1,ht _ _ z.2.1,z.2.2⟩,ob,es,ep,k _ _ (.inl rfl) e,c⟩
 | dP kvs=>
  obtain ⟨z,y,xs,r,ob,es,ep,e,c⟩:=x
  exact ⟨z,y,xs,Paired.mapP r fun p q z=>⟨z.1,let ⟨b,e1,e2⟩:=z.2.1;⟨b,ht _ _ e1,ht _ _ e2⟩,z.2.2⟩,ob,es,ep,k _ _ (.inl rfl) e,c⟩
 | set S n=>obtain ⟨ob,es,ep,t,e,c⟩:=x;exact ⟨ob,es,ep,t,k _ _ (.inl rfl) e,c⟩
 | ins C dx fs=>
  obtain ⟨d,z,ne,e,mA,⟨od,es,ep,e2,c⟩,r⟩:=x
  exact ⟨ho _ d,z,ne,k _ _ (.inl rfl) e,mA,⟨od,es,ep,k _ _ (.inr d) e2,c⟩,r⟩
 | own y=>obtain ⟨ob,e⟩:=x;exact ⟨ob,k _ _ (.inl rfl) e⟩
 | xd fs=>obtain ⟨mA,⟨od,es,ep,e,c⟩,r⟩:=x;exact ⟨mA,⟨od,es,ep,k _ _ (.inl rfl) e,c⟩,r⟩
 | rng lo hi=>obtain ⟨t,u,v,e⟩:=x;exact ⟨t,u,v,k _ _ (.inl rfl) e⟩
 | frz ob u ih=>obtain ⟨e,q⟩:=x;exact ⟨k _ _ (.inl rfl) e,ih q⟩
 | tbl ps=>
  have e:h.get? a=some {cls:=.none,data:=.fields ps}:=x
  show h'.get? a=some {cls:=.none,data:=.fields ps}
  exact k a _ (.inl rfl) e
 | met f y=>
  have e:h.get? a=some (PySem.W.methodObj (.ref f) (.ref y)):=x
  show h'.get? a=some (PySem.W.methodObj (.ref f) (.ref y))
  exact k a _ (.inl rfl) e
 | ext φ=>obtain ⟨p,⟨o,e⟩,st⟩:=x;exact ⟨st _ _ p fun o q=>k _ _ (.inl rfl) q,⟨o,k _ _ (.inl rfl) e⟩,st⟩
theorem HOk.lt (x:HOk P w H h) (e:H a=some o):a<h.objs.size:=(x a o e).lt
theorem HOk.fresh (x:HOk P w H h) (e:h.objs.size<=a):H a=none:=by
 cases q:H a with
 | none=>rfl
 | some u=>exact absurd (Nat.lt_of_lt_of_le (x.lt q) e) (Nat.lt_irrefl _)
theorem HOk.kept (x:HOk P w H h) (k: ∀ b u,h.get? b=some u->h'.get? b=some u):HOk P w H h':=fun a o e=>
 (x a o e).stay (fun b u _ q=>k b u q) (fun _ q=>q) fun _ _ q=>q
theorem HOk.laid (x:HOk P w H h) (k: ∀ b u,h.get? b=some u->h'.get? b=some u) (hp:h.objs.size<=a) (new:ObjOk P w (upd H a o) h' a o):HOk P w (upd H a o) h':=fun b u e=>by
 have hn:=x.fresh hp
 by_cases hb:b=a
 ·subst hb;rw [ab]at e;cases e;exact new
 ·rw [am hb]at e
  exact (x b u e).stay (fun c v _ q=>k c v q) (fun c q=>by rw [am (aj q hn)];exact q) fun c xs q=>by rw [am (aj q hn)];exact q
end
def Rd (H:Hp) (a:Addr) (u:HO):Prop:=H a=some u\/ ∃ o,H a=some (.frz o u)
theorem Rd.ok {P:Program} {w:World} {H:Hp} {h:Heap} {a:Addr} {u:HO} (r:Rd H a u) (x:HOk P w H h):ObjOk P w H h a u:=by
 rcases r with r | ⟨o,r⟩
 ·exact x a u r
 ·obtain ⟨_,q⟩:=x a _ r
  exact q
noncomputable def Mut:Option HO->Prop
 | some (.lst _)=>True
 | some (.dK _)=>True
 | some (.dT _)=>True
 | some (.dP _)=>True
 | some (.set _ _)=>True
 | some (.ins _ _ _)=>True
 | some (.ext _)=>True
 | _=>False
section
variable {P:Program} {w:World} {H:Hp} {h h':Heap} {x e:Addr} {o':HO}
theorem HOk.write (ok:HOk P w H h) (mu:Mut (H x)) (he:e=x\/H e=some (.own x)) (k: ∀ b u,b≠e->h.get? b=some u->h'.get? b=some u) (heo: ∃ u,h'.get? e=some u)
  (new:ObjOk P w (upd H x o') h' x o'):HOk P w (upd H x o') h':=fun b u q=>by
 have nown: ∀ c y,H c=some (.own y)->c≠x:=fun c y r z=>by subst z;rw [r]at mu;exact mu
 have ntup: ∀ c xs,H c=some (.tup xs)->c≠x:=fun c xs r z=>by subst z;rw [r]at mu;exact mu
 by_cases hb:b=x
 ·subst hb;rw [ab]at q;cases q;exact new
 ·rw [am hb]at q
  by_cases hbe:b=e
  ·have q':H b=some (.own x):=by
    rcases he with z | z
    ·exact absurd (hbe.trans z) hb
    ·rw [hbe];exact z
   rw [q]at q';cases q'
   obtain ⟨v,hv⟩:=heo
   exact ⟨v,by rw [hbe];exact hv⟩
  ·refine (ok b u q).stay (fun c v hc r=>k c v ?_ r) (fun c r=>by rw [am (nown c b r)];exact r) fun c xs r=>by rw [am (ntup c xs r)];exact r
   rcases hc with rfl | hc
   ·exact hbe
   ·rintro rfl
    rcases he with z | z
    ·exact nown c b hc z
    ·rw [hc]at z;cases z;exact hb rfl
end
structure Un (fs ex:List Addr) (H H':Hp) (h h':Heap):Prop where
 keep: ∀ b o,h.get? b=some o->H b=none->b∉fs->b∉ex->h'.get? b=some o
 slot: ∀ b o,h.get? b=some o->H b=none->b∈fs->b∉ex-> ∃ sl,h'.get? b=some {o with slots:=sl}
 free: ∀ b o,h.get? b=some o->H b=none->b∉ex->H' b=none
 there: ∀ b o,h.get? b=some o->b∉ex-> ∃ o',h'.get? b=some o'
 tups: ∀ b xs,H b=some (.tup xs)->H' b=some (.tup xs)
 frzs: ∀ b o u,H b=some (.frz o u)->H' b=some (.frz o u)
 tbls: ∀ b ps,H b=some (.tbl ps)-> ∃ more,H' b=some (.tbl (ps++more))
section
variable {fs fs' ex ex':List Addr} {H H1 H2:Hp} {h h1 h2 h':Heap} {a x e:Addr} {o:HO}
theorem Un.any (u:Un fs ex H H1 h h1) {b:Addr} {ob:Obj} (q:h.get? b=some ob) (n:H b=none) (hx:b∉ex): ∃ sl,h1.get? b=some {ob with slots:=sl}:=by
 by_cases hb:b∈fs
 ·exact u.slot b ob q n hb hx
 ·exact ⟨ob.slots,u.keep b ob q n hb hx⟩
theorem Un.kept (k: ∀ b u,h.get? b=some u->h'.get? b=some u):Un fs ex H H h h':=
 ⟨fun b ob q _ _ _=>k b ob q,fun b ob q _ _ _=>⟨ob.slots,k b ob q⟩,fun _ _ _ n _=>n,fun b ob q _=>⟨ob,k b ob q⟩,fun _ _ q=>q,fun _ _ _ q=>q,fun _ ps q=>⟨#[],by rw [q];simp⟩⟩
theorem Un.refl:Un fs ex H H h h:=Un.kept fun _ _ q=>q
theorem Un.laid (k: ∀ b u,h.get? b=some u->h'.get? b=some u) (hp:h.objs.size<=a) (hn:H a=none):Un fs ex H (upd H a o) h h' where
 keep:=fun b u q _ _ _=>k b u q
 slot:=fun b u q _ _ _=>⟨u.slots,k b u q⟩
 free:=fun b u q n _=>by rw [am (Nat.ne_of_lt (Nat.lt_of_lt_of_le (Heap.lt_size q) hp))];exact n
 there:=fun b u q _=>⟨u,k b u q⟩
 tups:=fun b xs q=>by rw [am (aj q hn)];exact q
 frzs:=fun b u xs q=>by rw [am (aj q hn)];exact q
 tbls:=fun b ps q=>⟨#[],by rw [am (aj q hn),q];simp⟩
theorem Un.write (mu:Mut (H x)) (he:e=x\/H e=some (.own x)) (k: ∀ b u,b≠e->h.get? b=some u->h'.get? b=some u) (heo: ∃ u,h'.get? e=some u):Un fs ex H (upd H x o) h h':=by
 have hx: ∀ b,H b=none->b≠x:=fun b n z=>by subst z;rw [n]at mu;exact mu
 have hb: ∀ b,H b=none->b≠e:=fun b n z=>by
  subst z
  rcases he with r | r
  ·exact hx b n r
  ·rw [n]at r;cases r
 have hm: ∀ b u,H b=some u-> ¬ Mut (some u)->b≠x:=fun b u q nm z=>by subst z;rw [q]at mu;exact nm mu
 refine ⟨fun b u q n _ _=>k b u (hb b n) q,fun b u q n _ _=>⟨u.slots,k b u (hb b n) q⟩,fun b u q n _=>by rw [am (hx b n)];exact n,fun b u q _=>?_,
  fun b xs q=>by rw [am (hm b _ q fun z=>z)];exact q,fun b u xs q=>by rw [am (hm b _ q fun z=>z)];exact q,fun b ps q=>⟨#[],by rw [am (hm b _ q fun z=>z),q];simp⟩⟩
 by_cases hbe:b=e
 ·subst hbe;exact heo
 ·exact ⟨u,k b u hbe q⟩
end
noncomputable def trk (h:Heap) (H:Hp):List Addr:=(List.range h.objs.size).filter fun a=>(H a).isSome
noncomputable def nq (h:Heap) (H:Hp):Heap:=PySem.W.hideAll h (trk h H)
theorem tP (h:Heap) (H:Hp):(nq h H).objs.size=h.objs.size:=PySem.W.hideAll_size _ _
theorem vK {h:Heap} {H:Hp} {b:Addr} {o:Obj} (e:h.get? b=some o) (n:H b=none):(nq h H).get? b=some o:=
 PySem.W.hideAll_get _ e fun hm=>by
  have q:(H b).isSome=true:=(List.mem_filter.mp hm).2
  rw [n]at q;simp at q
theorem wX {h:Heap} {H:Hp} {b:Addr} {o:Obj} (e:(nq h H).get? b=some o):h.get? b=some o/\H b=none:=by
 have e':h.get? b=some o:=PySem.W.of_hideAll (trk h H) e
 refine ⟨e',?_⟩
 cases q:H b with
 | none=>rfl
 | some x=>
  have hm:b∈trk h H:=List.mem_filter.mpr ⟨List.mem_range.mpr (Heap.lt_size e'),by simp [q]⟩
  have z:(nq h H).get? b=none:=PySem.W.hideAll_none (trk h H) hm
  rw [z]at e;cases e
structure Mod (K:W.Frag) (mg:Str->Option Value) (base:Heap):Prop where
 kin:K.In base
 glob:base.Ns mainGlobals mg
 blt: ∃ mb,base.Ns builtinsNs mb/\ ∀ x:Str,x≠"__name__"->mb x=bootBuiltins x
 nolimit:base.NoLimit
structure Cx where
 prog:Program
 w:World
 K:PySem.W.Frag
 mg:Str->Option Value
 base:Heap
 A:Around
 N:List Str
 s₀:Shared
 H₀:Hp
 env:Env
 outer:List Env
 stack:List Env
 ex:List Addr
 fn:Str->Bool
 calm:Bool
 pn:List (Addr×Obj)
 xe:Value->Shared->Prop
noncomputable def frs (l:List Env):List Addr:=l.filterMap (·.frame)
noncomputable abbrev Cx.fs (X:Cx):List Addr:=frs X.outer
def Vis (sc:Scope) (x:Str):Prop:=sc.names.lookup x=some .local\/sc.names.lookup x=some .cell\/sc.names.lookup x=some .free
def Loc (sc:Scope) (x:Str):Prop:=sc.names.lookup x=some .local\/sc.names.lookup x=some .cell
def AY (env:Env) (h:Heap) (m:Str->Option Value) (x:Str) (u:Value):Prop:=
 (env.kindOf x=some .local/\m x=some u)\/((env.kindOf x=some .cell\/env.kindOf x=some .free)/\ ∃ c,env.cells.lookup x=some c/\h.IsCell c (some u))
structure Cx.Ok (X:Cx):Prop where
 mod:Mod X.K X.mg X.base
 kind:X.env.scope.kind=.function
 glob:X.env.globals=mainGlobals
 blt:X.env.builtins=builtinsNs
 above:X.s₀.heap.objs.size<=X.env.locals
 inj: ∀ x y c,X.env.cells.lookup x=some c->X.env.cells.lookup y=some c->x=y
 has: ∀ x,(X.env.kindOf x=some .cell\/X.env.kindOf x=some .free)-> ∃ c,X.env.cells.lookup x=some c
 cab: ∀ x c,X.fn x=true->X.env.cells.lookup x=some c->X.s₀.heap.objs.size<=c
 hd:X.calm=true->X.A.handled=none
 frames:X.A.frames=some X.stack
 stk:X.stack=X.outer\/(X.stack=X.env::X.outer/\X.env.frame=some X.env.locals)
 exf: ∀ b∈X.ex,b≠X.env.locals/\ ∀ x c,X.env.cells.lookup x=some c->c≠b
 bs: ∀ b o,X.base.get? b=some o->X.s₀.heap.get? b=some o/\X.H₀ b=none
 bsz:X.base.objs.size<=X.s₀.heap.objs.size
 noex: ∀ b o,X.base.get? b=some o->b∉X.ex
 exfs: ∀ b∈X.ex,b∉X.fs
 funs:X.s₀.heap.FunFrames X.base X.outer
 frf: ∀ b∈X.fs,X.H₀ b=none
structure Inv (X:Cx) (pins:List (Addr×Obj)) (Z:List (Option V)) (H:Hp) (s:Shared):Prop where
 ok:X.Ok
 os:s.os=X.s₀.os
 bare:AllBare s.gens
 base:Un X.fs X.ex X.H₀ H X.s₀.heap s.heap
 loc: ∃ m,s.heap.Ns X.env.locals m/\ ∀ (i:Nat) (x:Str) (v:V),X.N[i]? =some x->Z[i]? =some (some v)->Vis X.env.scope x-> ∃ u,RelV v u/\AY X.env s.heap m x u
 cell: ∀ x c,X.env.cells.lookup x=some c-> ∃ v,s.heap.IsCell c v
 free:H X.env.locals=none
 freeC: ∀ x c,X.env.cells.lookup x=some c->H c=none
 pin: ∀ p∈X.pn++pins,s.heap.get? p.1=some p.2/\H p.1=none/\p.1≠X.env.locals/\p.1∉X.fs/\ ∀ v,p.2.data≠ .cell v
 hok:HOk X.prog X.w H s.heap
 len:Z.length=X.N.length
section
variable {X:Cx} {pins:List (Addr×Obj)} {Z:List (Option V)} {H H':Hp} {s:Shared} {h':Heap}
theorem Cx.Ok.nofr (ok:X.Ok) {b:Addr} {o:Obj} (e:X.base.get? b=some o):b∉X.fs:=fun hb=>by
 have:=(ok.funs.mem hb).1
 rw [e]at this;cases this
theorem Inv.bs (I:Inv X pins Z H s): ∀ b o,X.base.get? b=some o->s.heap.get? b=some o/\H b=none:=fun b o e=>
 ⟨I.base.keep b o (I.ok.bs b o e).1 (I.ok.bs b o e).2 (I.ok.nofr e) (I.ok.noex b o e),I.base.free b o (I.ok.bs b o e).1 (I.ok.bs b o e).2 (I.ok.noex b o e)⟩
theorem Inv.bk (I:Inv X pins Z H s): ∀ b o,X.base.get? b=some o->s.heap.get? b=some o:=fun b o e=>(I.bs b o e).1
theorem Inv.mod (I:Inv X pins Z H s):Mod X.K X.mg X.base:=I.ok.mod
theorem Inv.kIn (I:Inv X pins Z H s):X.K.In s.heap:=I.ok.mod.kin.keeps I.bk
theorem Inv.lt (I:Inv X pins Z H s):X.env.locals<s.heap.objs.size:=let ⟨_,hn,_⟩:=I.loc;hn.lt
theorem Inv.sz (I:Inv X pins Z H s):X.s₀.heap.objs.size<=s.heap.objs.size:=Nat.le_trans I.ok.above (Nat.le_of_lt I.lt)
theorem Inv.nofs (I:Inv X pins Z H s) {a:Addr} (h:s.heap.objs.size<=a):a∉X.fs:=fun hb=>by
 obtain ⟨_,o,ho,_⟩:=I.ok.funs.mem hb
 exact absurd (Nat.lt_of_lt_of_le (Heap.lt_size ho) (Nat.le_trans I.sz h)) (Nat.lt_irrefl _)
theorem Inv.cne (I:Inv X pins Z H s): ∀ x c,X.env.cells.lookup x=some c->c≠X.env.locals:=fun x c e z=>by
 obtain ⟨v,o,ho,hd⟩:=I.cell x c e
 obtain ⟨m,⟨o',es,ep,ho',hd',_⟩,_⟩:=I.loc
 rw [z,ho']at ho;cases ho;rw [hd']at hd;cases hd
theorem Inv.funs (I:Inv X pins Z H s):s.heap.FunFrames X.base X.outer:=by
 have all: ∀ (l:List Env),(∀ b∈frs l,b∈X.fs)->X.s₀.heap.FunFrames X.base l->s.heap.FunFrames X.base l:=by
  intro l
  induction l with
  | nil=>intro _ _;trivial
  | cons env r ih=>
   intro hs hl
   obtain ⟨hk,⟨L,o,hf,hn,ho,hd⟩,hr⟩:=hl
   have hL:L∈X.fs:=hs L (by unfold frs;rw [List.filterMap_cons,hf];exact List.mem_cons_self)
   obtain ⟨sl,e⟩:=I.base.slot L o ho (I.ok.frf L hL) hL fun z=>I.ok.exfs L z hL
   exact ⟨hk,⟨L,_,hf,hn,e,hd⟩,ih (fun b hb=>hs b (by unfold frs;rw [List.filterMap_cons,hf];exact List.mem_cons_of_mem _ hb)) hr⟩
 exact all X.outer (fun _ hb=>hb) I.ok.funs
theorem Inv.stack (I:Inv X pins Z H s):s.heap.FunFrames X.base X.stack:=by
 rcases I.ok.stk with e | ⟨e,hf⟩
 ·rw [e];exact I.funs
 ·rw [e]
  obtain ⟨m,hn,_⟩:=I.loc
  refine .cons (by rw [I.ok.kind];decide) hf hn ?_ I.funs
  exact Heap.get?_none_of_le (Nat.le_trans I.ok.bsz I.ok.above)
theorem Inv.stkSub (I:Inv X pins Z H s): ∀ b∈frs X.stack,b∈X.env.locals::X.fs:=fun b hb=>by
 rcases I.ok.stk with e | ⟨e,hf⟩
 ·rw [e]at hb;exact List.mem_cons_of_mem _ hb
 ·rw [e]at hb
  unfold frs at hb
  rw [List.filterMap_cons,hf]at hb
  exact hb
theorem Inv.stkFree (I:Inv X pins Z H s): ∀ b∈frs X.stack,H b=none:=fun b hb=>by
 rcases List.mem_cons.mp (I.stkSub b hb)with e | hb
 ·rw [e];exact I.free
 ·obtain ⟨_,o,ho,_⟩:=I.ok.funs.mem hb
  exact I.base.free b o ho (I.ok.frf b hb) fun z=>I.ok.exfs b z hb
theorem Inv.step {g':Array GenState} {t':Nat} {d':Drawn} {ch:List Addr} (I:Inv X pins Z H s)
  (hch: ∀ b∈ch,(b∈X.ex\/X.s₀.heap.objs.size<=b)/\b≠X.env.locals/\(∀ x c,X.env.cells.lookup x=some c->c≠b)/\ ∀ p∈X.pn++pins,p.1≠b)
  (keep: ∀ b o,b≠X.env.locals->b∉X.fs->b∉ch->s.heap.get? b=some o->H b=none->h'.get? b=some o)
  (slot: ∀ b o,b≠X.env.locals->b∈X.fs->b∉ch->s.heap.get? b=some o->H b=none-> ∃ sl,h'.get? b=some {o with slots:=sl}) (free: ∀ b o,b∉ch->s.heap.get? b=some o->H b=none->H' b=none)
  (there: ∀ b o,b∉ch->s.heap.get? b=some o-> ∃ o',h'.get? b=some o')
  (tups: ∀ b xs,H b=some (.tup xs)->H' b=some (.tup xs)) (frzs: ∀ b o u,H b=some (.frz o u)->H' b=some (.frz o u)) (tbls: ∀ b ps,H b=some (.tbl ps)-> ∃ more,H' b=some (.tbl (ps++more)))
  (ns: ∀ m,s.heap.Ns X.env.locals m->h'.Ns X.env.locals m) (hok:HOk X.prog X.w H' h') (hg:AllBare g'):
  Inv X pins Z H' {s with heap:=h',gens:=g',drawn:=d',toks:=t'}:=by
 have neL: ∀ b o,X.s₀.heap.get? b=some o->b≠X.env.locals:=fun b o e=>Nat.ne_of_lt (Nat.lt_of_lt_of_le (Heap.lt_size e) I.ok.above)
 have neC: ∀ b o,X.s₀.heap.get? b=some o->b∉X.ex->b∉ch:=fun b o e hx hb=>by
  rcases (hch b hb).1 with z | z
  ·exact hx z
  ·exact absurd (Nat.lt_of_lt_of_le (Heap.lt_size e) z) (Nat.lt_irrefl _)
 have cellK: ∀ x c,X.env.cells.lookup x=some c-> ∀ v,s.heap.IsCell c v->h'.IsCell c v:=fun x c e v ⟨o,ho,hd⟩=>by
  have nch:c∉ch:=fun z=>(hch c z).2.2.1 x c e rfl
  by_cases hc:c∈X.fs
  ·obtain ⟨sl,q⟩:=slot c o (I.cne x c e) hc nch ho (I.freeC x c e)
   exact ⟨_,q,hd⟩
  ·exact ⟨o,keep c o (I.cne x c e) hc nch ho (I.freeC x c e),hd⟩
 refine ⟨I.ok,I.os,hg,⟨fun b o e n hb hx=>?_,fun b o e n hb hx=>?_,fun b o e n hx=>?_,fun b o e hx=>?_,fun b xs e=>tups b xs (I.base.tups b xs e),fun b o xs e=>frzs b o xs (I.base.frzs b o xs e),fun b ps e=>?_⟩,?_,fun x c e=>?_,?_,fun x c e=>?_,fun p hp=>?_,hok,I.len⟩
 ·exact keep b o (neL b o e) hb (neC b o e hx) (I.base.keep b o e n hb hx) (I.base.free b o e n hx)
 ·obtain ⟨sl,e1⟩:=I.base.slot b o e n hb hx
  obtain ⟨sl',e2⟩:=slot b _ (neL b o e) hb (neC b o e hx) e1 (I.base.free b o e n hx)
  exact ⟨sl',e2⟩
 ·obtain ⟨o',e1⟩:=I.base.there b o e hx
  exact free b o' (neC b o e hx) e1 (I.base.free b o e n hx)
 ·obtain ⟨o',e1⟩:=I.base.there b o e hx
  exact there b o' (neC b o e hx) e1
 ·obtain ⟨m1,e1⟩:=I.base.tbls b ps e
  obtain ⟨m2,e2⟩:=tbls b _ e1
  exact ⟨m1++m2,by rw [e2,Array.append_assoc]⟩
 ·obtain ⟨m,hn,hl⟩:=I.loc
  refine ⟨m,ns m hn,fun i x v e1 e2 e3=>?_⟩
  obtain ⟨u,r,l⟩:=hl i x v e1 e2 e3
  refine ⟨u,r,?_⟩
  rcases l with l | ⟨k,c,e,z⟩
  ·exact .inl l
  ·exact .inr ⟨k,c,e,cellK x c e _ z⟩
 ·obtain ⟨v,z⟩:=I.cell x c e
  exact ⟨v,cellK x c e v z⟩
 ·obtain ⟨m,⟨o,_,_,ho,_⟩,_⟩:=I.loc
  exact free _ o (fun z=>(hch _ z).2.1 rfl) ho I.free
 ·obtain ⟨v,o,ho,hd⟩:=I.cell x c e
  exact free c o (fun z=>(hch c z).2.2.1 x c e rfl) ho (I.freeC x c e)
 ·obtain ⟨e,n,ne,nf,d⟩:=I.pin p hp
  have nch:p.1∉ch:=fun z=>(hch p.1 z).2.2.2 p hp rfl
  exact ⟨keep p.1 p.2 ne nf nch e n,free p.1 p.2 nch e n,ne,nf,d⟩
theorem Inv.un {t':Nat} (I:Inv X pins Z H s) (u:Un X.fs [] H H' s.heap h') (hok:HOk X.prog X.w H' h'):Inv X pins Z H' {s with heap:=h',toks:=t'}:=by
 obtain ⟨m,⟨o,es,ep,ho,r⟩,_⟩:=id I.loc
 obtain ⟨sl,hL⟩:=u.any ho I.free (by simp)
 exact I.step (g':=s.gens) (d':=s.drawn) (ch:=[]) (fun _ z=>nomatch z) (fun b o _ hb _ e n=>u.keep b o e n hb (by simp)) (fun b o _ hb _ e n=>u.slot b o e n hb (by simp)) (fun b o _ e n=>u.free b o e n (by simp)) (fun b o _ e=>u.there b o e (by simp)) u.tups u.frzs u.tbls (fun m' hm=>by
  obtain ⟨o',es',ep',ho',r'⟩:=hm
  rw [ho]at ho';cases ho'
  exact ⟨_,es',ep',hL,r'⟩) hok I.bare
theorem Inv.call {g':Array GenState} {t':Nat} {d':Drawn} {ch:List Addr} (I:Inv X pins Z H s) (u:Un (frs X.stack) ch H H' s.heap h') (hok:HOk X.prog X.w H' h') (hg:AllBare g')
  (hch: ∀ b∈ch,(b∈X.ex\/X.s₀.heap.objs.size<=b)/\b≠X.env.locals/\(∀ x c,X.env.cells.lookup x=some c->c≠b)/\ ∀ p∈X.pn++pins,p.1≠b):
  Inv X pins Z H' {s with heap:=h',gens:=g',drawn:=d',toks:=t'}:=by
 obtain ⟨m,⟨o,es,ep,ho,r⟩,_⟩:=id I.loc
 obtain ⟨sl,hL⟩:=u.any ho I.free fun z=>(hch _ z).2.1 rfl
 exact I.step (ch:=ch) hch (fun b o hL hb hc e n=>u.keep b o e n (fun z=>(List.mem_cons.mp (I.stkSub b z)).elim hL hb) hc) (fun b o _ _ hc e n=>u.any e n hc) (fun b o hc e n=>u.free b o e n hc) (fun b o hc e=>u.there b o e hc) u.tups u.frzs u.tbls (fun m' hm=>by
  obtain ⟨o',es',ep',ho',r'⟩:=hm
  rw [ho]at ho';cases ho'
  exact ⟨_,es',ep',hL,r'⟩) hok hg
theorem Inv.turned {t':Nat} {it:Addr} (I:Inv X pins Z H s) (k: ∀ b o,b≠it->s.heap.get? b=some o->h'.get? b=some o) (hn:H it=none) (hL:it≠X.env.locals)
  (h1:it∈X.ex\/X.s₀.heap.objs.size<=it) (h2: ∀ x c,X.env.cells.lookup x=some c->c≠it) (h3: ∀ p∈X.pn++pins,p.1≠it):Inv X pins Z H {s with heap:=h',toks:=t'}:=by
 have nit: ∀ b u,H b=some u->b≠it:=fun b u e z=>by rw [z,hn]at e;cases e
 refine I.step (g':=s.gens) (d':=s.drawn) (ch:=[it]) (fun b hb=>?_) (fun b o _ _ hc e _=>k b o (fun z=>hc (by simp [z])) e) (fun b o _ _ hc e _=>⟨o.slots,k b o (fun z=>hc (by simp [z])) e⟩) (fun _ _ _ _ n=>n)
  (fun b o hc e=>⟨o,k b o (fun z=>hc (by simp [z])) e⟩) (fun _ _ e=>e) (fun _ _ _ e=>e) (fun b ps e=>⟨#[],by rw [e];simp⟩) (fun m hm=>?_) (fun b u e=>?_) I.bare
 ·have e:b=it:=by simpa using hb
  subst e
  exact ⟨h1,hL,h2,h3⟩
 ·obtain ⟨o,es,ep,ho,r⟩:=hm
  exact ⟨o,es,ep,k _ o (Ne.symm hL) ho,r⟩
 ·refine (I.hok b u e).stay (fun c v hc q=>k c v ?_ q) (fun _ q=>q) fun _ _ q=>q
  rcases hc with z | z
  ·rw [z];exact nit b u e
  ·exact nit c _ z
theorem Inv.tok (I:Inv X pins Z H s) (t:Nat):Inv X pins Z H {s with toks:=t}:=I.un (h':=s.heap) (t':=t) Un.refl I.hok
theorem Inv.kept {t':Nat} (I:Inv X pins Z H s) (k: ∀ b u,s.heap.get? b=some u->h'.get? b=some u):Inv X pins Z H {s with heap:=h',toks:=t'}:=I.un (Un.kept k) (I.hok.kept k)
theorem Inv.laid {a:Addr} {o:HO} {t':Nat} (I:Inv X pins Z H s) (k: ∀ b u,s.heap.get? b=some u->h'.get? b=some u) (hp:s.heap.objs.size<=a) (new:ObjOk X.prog X.w (upd H a o) h' a o):
  Inv X pins Z (upd H a o) {s with heap:=h',toks:=t'}:=I.un (Un.laid k hp (I.hok.fresh hp)) (I.hok.laid k hp new)
theorem Inv.write {x e:Addr} {o:HO} {t':Nat} (I:Inv X pins Z H s) (mu:Mut (H x)) (he:e=x\/H e=some (.own x)) (k: ∀ b u,b≠e->s.heap.get? b=some u->h'.get? b=some u) (heo: ∃ u,h'.get? e=some u)
  (new:ObjOk X.prog X.w (upd H x o) h' x o):Inv X pins Z (upd H x o) {s with heap:=h',toks:=t'}:=I.un (Un.write mu he k heo) (I.hok.write mu he k heo new)
theorem Inv.pins_of {pins':List (Addr×Obj)} (I:Inv X pins Z H s) (h: ∀ p∈pins',s.heap.get? p.1=some p.2/\H p.1=none/\p.1≠X.env.locals/\p.1∉X.fs/\ ∀ v,p.2.data≠ .cell v):Inv X pins' Z H s:=
 ⟨I.ok,I.os,I.bare,I.base,I.loc,I.cell,I.free,I.freeC,fun p hp=>(List.mem_append.mp hp).elim (fun z=>I.pin p (List.mem_append_left _ z)) (h p),I.hok,I.len⟩
theorem fj {N:List Str} (hN:N.Nodup) {i j:Nat} {x:Str} (a:N[i]? =some x) (b:N[j]? =some x):i=j:=by
 obtain ⟨h1,e1⟩:=List.getElem?_eq_some_iff.mp a
 obtain ⟨h2,e2⟩:=List.getElem?_eq_some_iff.mp b
 exact (List.getElem_inj hN).mp (e1.trans e2.symm)
theorem iQ {M:Model} {A:Around} {E:Value->Shared->Prop} {i:Nat} {x:Str} {v:V} {u:Value} {Q:Unit->Shared->Prop} (I:Inv X pins Z H s) (hN:X.N.Nodup) (hi:X.N[i]? =some x) (hx:Loc X.env.scope x) (r:RelV v u)
  (h: ∀ s',Inv X pins (Z.set i (some v)) H s'->(∃ a,Heap.SameBut a s.heap s'.heap/\(a=X.env.locals\/X.env.cells.lookup x=some a))->Q () s') (hf:X.fn x=true\/X.env.scope.names.lookup x=some .local:=by first | exact .inl rfl | exact .inr rfl | assumption):wpAny M A (storeName X.env x u) Q E s:=by
 obtain ⟨m,hn,hl⟩:=id I.loc
 have hcls:(X.env.scope.kind== .class||(X.env.scope.kind== .module&&X.env.locals !=X.env.globals))=false:=by rw [I.ok.kind];rfl
 have hiZ:i<Z.length:=by rw [I.len];exact (List.getElem?_eq_some_iff.mp hi).1
 have cne:=I.cne
 have tracked: ∀ {a:Addr} {h':Heap},(∃ o,s.heap.get? a=some o/\H a=none)->Heap.SameBut a s.heap h'->HOk X.prog X.w H h':=fun {a h'} ha hs b ob e=>by
  obtain ⟨_,_,hfree⟩:=ha
  refine (I.hok b ob e).stay (fun c w' hc q=>(hs.2 c ?_).trans q) (fun _ q=>q) fun _ _ q=>q
  rintro rfl
  rcases hc with rfl | hc
  ·rw [hfree]at e;cases e
  ·rw [hfree]at hc;cases hc
 rcases hx with hk | hk
 ·refine wpAny_storeName_local hk hn (fun h' hn' hs=>?_) hcls
  obtain ⟨oL,_,_,hoL,_⟩:=id hn
  refine h _ ⟨I.ok,I.os,I.bare,⟨fun b o e n hb hx=>?_,fun b o e n hb hx=>?_,I.base.free,fun b o e hx=>?_,I.base.tups,I.base.frzs,I.base.tbls⟩,⟨_,hn',fun j y v' e1 e2 e3=>?_⟩,fun y c e=>?_,I.free,I.freeC,fun p hp=>?_,tracked ⟨oL,hoL,I.free⟩ hs,by simpa using I.len⟩ ⟨_,hs,.inl rfl⟩
  ·exact (hs.2 b (Nat.ne_of_lt (Nat.lt_of_lt_of_le (Heap.lt_size e) I.ok.above))).trans (I.base.keep b o e n hb hx)
  ·obtain ⟨sl,e1⟩:=I.base.slot b o e n hb hx
   exact ⟨sl,(hs.2 b (Nat.ne_of_lt (Nat.lt_of_lt_of_le (Heap.lt_size e) I.ok.above))).trans e1⟩
  ·obtain ⟨o',e1⟩:=I.base.there b o e hx
   exact ⟨o',(hs.2 b (Nat.ne_of_lt (Nat.lt_of_lt_of_le (Heap.lt_size e) I.ok.above))).trans e1⟩
  ·by_cases hj:j=i
   ·subst hj
    rw [hi]at e1;cases e1
    rw [List.getElem?_set_self hiZ]at e2
    cases e2
    exact ⟨u,r,.inl ⟨hk,by simp⟩⟩
   ·rw [List.getElem?_set_ne (Ne.symm hj)]at e2
    obtain ⟨u',r',q⟩:=hl j y v' e1 e2 e3
    refine ⟨u',r',?_⟩
    rcases q with ⟨k,e⟩ | ⟨k,c,e,z⟩
    ·refine .inl ⟨k,?_⟩
     have:y≠x:=fun e=>hj (fj hN e1 (e▸hi))
     simp [this,e]
    ·exact .inr ⟨k,c,e,z.sameBut hs (cne y c e)⟩
  ·obtain ⟨w',z⟩:=I.cell y c e
   exact ⟨w',z.sameBut hs (cne y c e)⟩
  ·obtain ⟨e,n,ne,nf,d⟩:=I.pin p hp
   exact ⟨(hs.2 p.1 ne).trans e,n,ne,nf,d⟩
 ·have hfn:X.fn x=true:=by
   rcases hf with z | z
   ·exact z
   ·rw [z]at hk;cases hk
  obtain ⟨c,hc⟩:=I.ok.has x (.inl hk)
  obtain ⟨w',z⟩:=I.cell x c hc
  refine wpAny_storeName_cell I.ok.kind hk hc z (fun h' hc' hs=>?_)
  obtain ⟨oc,hoc,hocd⟩:=id z
  refine h {s with heap:=h'} ⟨I.ok,I.os,I.bare,⟨fun b o e n hb hx=>?_,fun b o e n hb hx=>?_,I.base.free,fun b o e hx=>?_,I.base.tups,I.base.frzs,I.base.tbls⟩,⟨m,hn.sameBut hs (Ne.symm (cne x c hc)),fun j y v' e1 e2 e3=>?_⟩,fun y c' e=>?_,I.free,I.freeC,fun p hp=>?_,tracked ⟨oc,hoc,I.freeC x c hc⟩ hs,by simpa using I.len⟩ ⟨c,hs,.inr hc⟩
  ·exact (hs.2 b (Nat.ne_of_lt (Nat.lt_of_lt_of_le (Heap.lt_size e) (I.ok.cab x c hfn hc)))).trans (I.base.keep b o e n hb hx)
  ·obtain ⟨sl,e1⟩:=I.base.slot b o e n hb hx
   exact ⟨sl,(hs.2 b (Nat.ne_of_lt (Nat.lt_of_lt_of_le (Heap.lt_size e) (I.ok.cab x c hfn hc)))).trans e1⟩
  ·obtain ⟨o',e1⟩:=I.base.there b o e hx
   exact ⟨o',(hs.2 b (Nat.ne_of_lt (Nat.lt_of_lt_of_le (Heap.lt_size e) (I.ok.cab x c hfn hc)))).trans e1⟩
  ·by_cases hj:j=i
   ·subst hj
    rw [hi]at e1;cases e1
    rw [List.getElem?_set_self hiZ]at e2
    cases e2
    exact ⟨u,r,.inr ⟨.inl hk,c,hc,hc'⟩⟩
   ·rw [List.getElem?_set_ne (Ne.symm hj)]at e2
    obtain ⟨u',r',q⟩:=hl j y v' e1 e2 e3
    refine ⟨u',r',?_⟩
    rcases q with q | ⟨k,c',e,z'⟩
    ·exact .inl q
    ·refine .inr ⟨k,c',e,z'.sameBut hs ?_⟩
     rintro rfl
     exact hj (fj hN e1 (I.ok.inj _ _ _ e hc▸hi))
  ·by_cases hcc:c'=c
   ·subst hcc;exact ⟨_,hc'⟩
   ·obtain ⟨w2,z2⟩:=I.cell y c' e
    exact ⟨w2,z2.sameBut hs hcc⟩
  ·obtain ⟨e,n,ne,nf,d⟩:=I.pin p hp
   refine ⟨(hs.2 p.1 ?_).trans e,n,ne,nf,d⟩
   intro q
   rw [q,hoc]at e
   have q':oc=p.2:=Option.some.inj e
   exact d w' (by rw [<- q'];exact hocd)
theorem nM {M:Model} {A:Around} {E:Value->Shared->Prop} {i:Nat} {x:Str} {v:V} {u:Value} {Q:Unit->Shared->Prop} (I:Inv X pins Z H s) (hN:X.N.Nodup) (hi:X.N[i]? =some x) (hx:Loc X.env.scope x) (r:RelV v u)
  (h: ∀ s',Inv X pins (Z.set i (some v)) H s'->Q () s') (hf:X.fn x=true\/X.env.scope.names.lookup x=some .local:=by first | exact .inl rfl | exact .inr rfl | assumption):wpAny M A (storeName X.env x u) Q E s:=
 iQ I hN hi hx r (fun s' I' _=>h s' I') hf
theorem Inv.call' {s':Shared} {ch:List Addr} (I:Inv X pins Z H s) (ho:s'.os=s.os) (u:Un (frs X.stack) ch H H' s.heap s'.heap) (hok:HOk X.prog X.w H' s'.heap) (hg:AllBare s'.gens)
  (hch: ∀ b∈ch,(b∈X.ex\/X.s₀.heap.objs.size<=b)/\b≠X.env.locals/\(∀ x c,X.env.cells.lookup x=some c->c≠b)/\ ∀ p∈X.pn++pins,p.1≠b):Inv X pins Z H' s':=by
 obtain ⟨h',g',d',t',o'⟩:=s'
 have e:o'=s.os:=ho
 subst e
 exact I.call (g':=g') (t':=t') (d':=d') u hok hg hch
end
abbrev XK:=Value->Option Addr->Hp->Prop
abbrev St:=List (Option V)
abbrev VK:=V->Hp->Prop
abbrev TE:=St->Hp->VK->Prop
abbrev TT:=St->Hp->(Bool->Hp->Prop)->Prop
abbrev TA:=St->Hp->(List V->Hp->Prop)->Prop
structure cH where
 nx:St->Hp->Prop
 rt:VK
 bk:St->Hp->Prop:=fun _ _=>False
 ct:St->Hp->Prop:=fun _ _=>False
abbrev TS:=cH->St->Hp->Prop
inductive EP (X:Cx) (pins:List (Addr×Obj)) (Z:St) (Q:VK) (u:Value) (s':Shared):Prop
 | mk: ∀ v H',(Inv X pins Z H' s')->(RelV v u)->(Q v H')->EP X pins Z Q u s'
def TP (X:Cx) (pins:List (Addr×Obj)) (Z:St) (Q:Bool->Hp->Prop) (b:Bool) (s':Shared):Prop:= ∃ H',Inv X pins Z H' s'/\Q b H'
inductive AP (X:Cx) (pins:List (Addr×Obj)) (Z:St) (Q:List V->Hp->Prop) (us:List Value) (s':Shared):Prop
 | mk: ∀ vs H',(Inv X pins Z H' s')->(Vals vs us)->(Q vs H')->AP X pins Z Q us s'
def SP (X:Cx) (pins:List (Addr×Obj)) (D:cH) (f:Flow) (s':Shared):Prop:=
 match f with
 | .next=> ∃ Z' H',Inv X pins Z' H' s'/\D.nx Z' H'
 | .brk=> ∃ Z' H',Inv X pins Z' H' s'/\D.bk Z' H'
 | .cont=> ∃ Z' H',Inv X pins Z' H' s'/\D.ct Z' H'
 | .ret u=> ∃ v Z' H',Inv X pins Z' H' s'/\RelV v u/\D.rt v H'
def PE (X:Cx) (e:Expr) (t:TE):Prop:=
 ∀ (pins:List (Addr×Obj)) (s:Shared) (Z:St) (H:Hp) (Q:VK),Inv X pins Z H s->t Z H Q->wpAny (model X.prog X.w) X.A (eval e X.env) (EP X pins Z Q) X.xe s
def PT (X:Cx) (e:Expr) (t:TT):Prop:=
 ∀ (pins:List (Addr×Obj)) (s:Shared) (Z:St) (H:Hp) (Q:Bool->Hp->Prop),Inv X pins Z H s->t Z H Q->wpAny (model X.prog X.w) X.A (isTrue e X.env (eval e X.env)) (TP X pins Z Q) X.xe s
def PW (X:Cx) (e:Expr) (t:TT):Prop:=
 ∀ (whole:Sem Value) (pins:List (Addr×Obj)) (s:Shared) (Z:St) (H:Hp) (Q:Bool->Hp->Prop),Inv X pins Z H s->t Z H Q->wpAny (model X.prog X.w) X.A (isTrue e X.env whole) (TP X pins Z Q) X.xe s
theorem PW.pt {X:Cx} {e:Expr} {t:TT} (h:PW X e t):PT X e t:=h _
def PA (X:Cx) (es:List Expr) (t:TA):Prop:=
 ∀ (pos:Pos) (pins:List (Addr×Obj)) (s:Shared) (Z:St) (H:Hp) (Q:List V->Hp->Prop),Inv X pins Z H s->t Z H Q->wpAny (model X.prog X.w) X.A (spliced (backTo pos (starEach es X.env))) (AP X pins Z Q) X.xe s
def PS (X:Cx) (st:Stmt) (t:TS):Prop:=
 ∀ (pins:List (Addr×Obj)) (s:Shared) (Z:St) (H:Hp) (D:cH),Inv X pins Z H s->t D Z H->wpAny (model X.prog X.w) X.A (exec st X.env) (SP X pins D) X.xe s
def PSs (X:Cx) (st:List Stmt) (t:TS):Prop:=
 ∀ (pins:List (Addr×Obj)) (s:Shared) (Z:St) (H:Hp) (D:cH),Inv X pins Z H s->t D Z H->wpAny (model X.prog X.w) X.A (execs st X.env) (SP X pins D) X.xe s
theorem thn {α:Type} {t:Sem α} {Q Q':α->Shared->Prop} {M:Model} {A:Around} {E:Value->Shared->Prop} {s:Shared} (h:wpAny M A t Q E s) (hQ: ∀ a s,Q a s->Q' a s):wpAny M A t Q' E s:=wpAny_mono h hQ fun _ _ x=>x
section
variable {X:Cx}
inductive jF (i:Nat) (Z:St) (H:Hp) (Q:VK):Prop
 | mk: ∀ v,(Z[i]? =some (some v))->(Q v H)->jF i Z H Q
def tC (v:V):TE:=fun _ H Q=>Q v H
theorem yq {i:Nat} {x:Str} {pos:Pos} (hN:X.N[i]? =some x) (hv:Vis X.env.scope x) (hd:(x==("__debug__":Str))=false:=by decide) (hcd:(x==("__classdict__":Str))=false:=by decide):PE X (.Name x pos) (jF i):=by
 intro pins s Z H Q I h
 obtain ⟨v,e,h⟩:=h
 obtain ⟨m,hn,hl⟩:=I.loc
 obtain ⟨u,r,l⟩:=hl i x v hN e hv
 have fin:EP X pins Z Q u s:=⟨v,H,I,r,h⟩
 rcases l with ⟨hk,hm⟩ | ⟨hk,c,hc,hcell⟩
 ·exact wpAny_Name (wpAny_loadName_local I.ok.kind hk hn hm fin) hd
 ·rcases hk with hk | hk
  ·exact wpAny_Name (wpAny_loadName_cell I.ok.kind hk hc hcell fin) hd
  ·exact wpAny_Name (wpAny_loadName_free I.ok.kind hk hc hcell fin hcd) hd
theorem ad {i j pos}:PE X (.Constant (.int i) j pos) (tC (.int i)):=fun _ _ _ H _ I h=>wpAny_Constant_int ⟨.int i,H,I.tok _,⟨_,rfl⟩,h⟩
theorem eg {b j pos}:PE X (.Constant (.bool b) j pos) (tC (.bl b)):=fun _ _ _ H _ I h=>Constant_bool ⟨.bl b,H,I,rfl,h⟩
theorem uQ {j pos}:PE X (.Constant .none j pos) (tC .non):=fun _ _ _ H _ I h=>Constant_none ⟨.non,H,I,rfl,h⟩
theorem aX {x j pos}:PE X (.Constant (.str x) j pos) (tC (.str x)):=fun _ _ _ H _ I h=>Calls.Constant_str ⟨.str x,H,I.tok _,⟨_,rfl⟩,h⟩
def Gl (X:Cx) (x:Str):Prop:=X.env.kindOf x=some .globalImplicit
theorem nj {E:Value->Shared->Prop} {pins:List (Addr×Obj)} {s:Shared} {Z:St} {H:Hp} {x:Str} {u:Value} {pos:Pos} {Q:Value->Shared->Prop} (I:Inv X pins Z H s) (hg:Gl X x) (hm:X.mg x=some u) (h:Q u s)
  (hd:(x==("__debug__":Str))=false:=by decide):wpAny (model X.prog X.w) X.A (eval (.Name x pos) X.env) Q E s:=
 Calls.Name_function_global I.ok.kind hg (Calls.loadGlobal_global (by rw [I.ok.glob];exact I.mod.glob.keeps I.bk) hm h) hd
theorem ig {E:Value->Shared->Prop} {pins:List (Addr×Obj)} {s:Shared} {Z:St} {H:Hp} {x:Str} {u:Value} {pos:Pos} {Q:Value->Shared->Prop} (I:Inv X pins Z H s) (hg:Gl X x) (hm:X.mg x=none) (hv:bootBuiltins x=some u) (h:Q u s)
  (hn:x≠"__name__":=by decide) (hd:(x==("__debug__":Str))=false:=by decide):wpAny (model X.prog X.w) X.A (eval (.Name x pos) X.env) Q E s:=by
 obtain ⟨mb,h1,h2⟩:=I.mod.blt
 exact Calls.Name_function_global I.ok.kind hg (Calls.loadGlobal_builtin (by rw [I.ok.glob];exact I.mod.glob.keeps I.bk) hm (by rw [I.ok.blt];exact h1.keeps I.bk) ((h2 x hn).trans hv) h) hd
theorem rj {x:Str} {v:V} {u:Value} {pos:Pos} (hg:Gl X x) (hm:X.mg x=some u) (r:RelV v u) (hd:(x==("__debug__":Str))=false:=by decide):PE X (.Name x pos) (tC v):=
 fun _ _ _ H _ I h=>nj I hg hm ⟨v,H,I,r,h⟩ hd
theorem wP {x:Str} {v:V} {u:Value} {pos:Pos} (hg:Gl X x) (hm:X.mg x=none) (hv:bootBuiltins x=some u) (r:RelV v u) (hn:x≠"__name__":=by decide) (hd:(x==("__debug__":Str))=false:=by decide):PE X (.Name x pos) (tC v):=
 fun _ _ _ H _ I h=>ig I hg hm hv ⟨v,H,I,r,h⟩ hn hd
variable {a b:Expr} {ta tb:TE} {pos:Pos}
def PC (X:Cx) (op:CmpOp) (a b:Expr) (t:TE):Prop:=
 ∀ (pins:List (Addr×Obj)) (s:Shared) (Z:St) (H:Hp) (Q:VK),Inv X pins Z H s->t Z H Q->
  wpAny (model X.prog X.w) X.A (eval a X.env) (fun v s₁=>wpAny (model X.prog X.w) X.A (eval b X.env) (fun u s₂=>wpAny (model X.prog X.w) X.A (compareOp op v u) (EP X pins Z Q) X.xe s₂) X.xe s₁) X.xe s
inductive rBl  (x:V) (H1:Hp) (Q:(Bool->Hp->Prop)):Prop
 | mk: ∀ c,(x=.bl c)->(Q c H1)->rBl x H1 Q
def tB (t:TE):TT:=fun Z H Q=>t Z H fun x H1=>rBl x H1 Q
theorem jX {op:CmpOp} {t:TE} (h:PC X op a b t) (h1:behindInMarks op b=false:=by first | exact nobehind _ (by decide) (by decide) | rfl):PE X (.Compare a [op] [b] pos) t:=fun pins s Z H Q I hw=>wpAny_Compare1 (h pins s Z H Q I hw) h1
theorem yn {op:CmpOp} {t:TE} (h:PC X op a b t) (h1:behindInMarks op b=false:=by first | exact nobehind _ (by decide) (by decide) | rfl):PT X (.Compare a [op] [b] pos) (tB t):=by
 intro pins s Z H Q I hw
 refine wpAny_isTrue_Compare1 (thn (h pins s Z H _ I hw) fun v s1 h1=>thn h1 fun u s2 h2=>thn h2 fun c s3 ⟨x,H1,I1,r1,q1⟩=>?_) h1
 obtain ⟨d,rfl,q⟩:=q1
 cases r1
 exact wpAny_truthy_bool ⟨H1,I1,q⟩
theorem dE {e:Expr} {t:TE} (h:PE X e t) (he: ∀ whole,isTrue e X.env whole=(do let v <- whole;standAt e.pos;holding [v] (truthy v)):=by intro _;rfl):PT X e (tB t):=by
 intro pins s Z H Q I hw
 refine isTrue_plain (thn (h pins s Z H _ I hw) fun v s1 ⟨x,H1,I1,r1,q1⟩=>?_) (he _)
 obtain ⟨d,rfl,q⟩:=q1
 cases r1
 exact wpAny_truthy_bool ⟨H1,I1,q⟩
variable {tA tB':TT} {rest:List Expr}
def Az (t u:TT):TT:=fun Z H Q=>t Z H fun c H1=>if c=true then u Z H1 Q else Q false H1
def tOr (t u:TT):TT:=fun Z H Q=>t Z H fun c H1=>if c=true then Q true H1 else u Z H1 Q
def Au (t:TT):TT:=fun Z H Q=>t Z H fun c H1=>Q (!c) H1
theorem fA (ha:PT X a tA):PW X (.BoolOp .And [a] pos) tA:=by
 intro wh pins s Z H Q I h
 refine isTrue_and (thn (ha pins s Z H Q I h) fun c s1 e=>?_)
 cases c with
 | true=>exact isTrue_and_nil e
 | false=>exact e
theorem hU (ha:PT X a tA):PW X (.BoolOp .Or [a] pos) tA:=by
 intro wh pins s Z H Q I h
 refine isTrue_or (thn (ha pins s Z H Q I h) fun c s1 e=>?_)
 cases c with
 | false=>exact isTrue_or_nil e
 | true=>exact e
theorem hV (ha:PT X a tA) (hb:PW X (.BoolOp .And (b::rest) pos) tB'):PW X (.BoolOp .And (a::b::rest) pos) (Az tA tB'):=by
 intro wh pins s Z H Q I h
 refine isTrue_and (thn (ha pins s Z H _ I h) fun c s1 ⟨H1,I1,q1⟩=>?_)
 cases c with
 | true=>exact hb wh pins s1 Z H1 Q I1 q1
 | false=>exact ⟨H1,I1,q1⟩
theorem jU (ha:PT X a tA) (hb:PW X (.BoolOp .Or (b::rest) pos) tB'):PW X (.BoolOp .Or (a::b::rest) pos) (tOr tA tB'):=by
 intro wh pins s Z H Q I h
 refine isTrue_or (thn (ha pins s Z H _ I h) fun c s1 ⟨H1,I1,q1⟩=>?_)
 cases c with
 | true=>exact ⟨H1,I1,q1⟩
 | false=>exact hb wh pins s1 Z H1 Q I1 q1
theorem i4 (ha:PT X a tA):PT X (.UnaryOp .Not a pos) (Au tA):=by
 intro pins s Z H Q I h
 exact isTrue_not (ha pins s Z H (fun c H1=>Q (!c) H1) I h)
def qO (ta tb:TE):TE:=fun Z H Q=>ta Z H fun x H1=> ∃ c,x=.bl c/\if c=true then tb Z H1 Q else Q (.bl false) H1
def xW (ta tb:TE):TE:=fun Z H Q=>ta Z H fun x H1=> ∃ c,x=.bl c/\if c=true then Q (.bl true) H1 else tb Z H1 Q
theorem dZ {op} {t:TE} (h:PE X a t):PE X (.BoolOp op [a] pos) t:=fun pins s Z H Q I hw=>BoolOp_one (h pins s Z H Q I hw)
theorem eV (ha:PE X a ta) (hb:PE X (.BoolOp .And (b::rest) pos) tb):PE X (.BoolOp .And (a::b::rest) pos) (qO ta tb):=by
 intro pins s Z H Q I h
 refine BoolOp_and (thn (ha pins s Z H _ I h) fun v s1 ⟨x,H1,I1,r1,q1⟩=>?_)
 obtain ⟨c,rfl,q1⟩:=q1
 cases r1
 refine wpAny_truthy_bool ?_
 cases c with
 | true=>exact hb pins s1 Z H1 Q I1 q1
 | false=>exact ⟨.bl false,H1,I1,rfl,q1⟩
theorem rh (ha:PE X a ta) (hb:PE X (.BoolOp .Or (b::rest) pos) tb):PE X (.BoolOp .Or (a::b::rest) pos) (xW ta tb):=by
 intro pins s Z H Q I h
 refine BoolOp_or (thn (ha pins s Z H _ I h) fun v s1 ⟨x,H1,I1,r1,q1⟩=>?_)
 obtain ⟨c,rfl,q1⟩:=q1
 cases r1
 refine wpAny_truthy_bool ?_
 cases c with
 | false=>exact hb pins s1 Z H1 Q I1 q1
 | true=>exact ⟨.bl true,H1,I1,rfl,q1⟩
def tIf (t:TT) (ta tb:TE):TE:=fun Z H Q=>t Z H fun c H1=>if c=true then ta Z H1 Q else tb Z H1 Q
theorem ga {c:Expr} (hc:PT X c tA) (ha:PE X a ta) (hb:PE X b tb):PE X (.IfExp c a b pos) (tIf tA ta tb):=by
 intro pins s Z H Q I h
 refine wpAny_IfExp (thn (hc pins s Z H _ I h) fun d s1 ⟨H1,I1,q1⟩=>?_)
 cases d with
 | true=>exact ha pins s1 Z H1 Q I1 q1
 | false=>exact hb pins s1 Z H1 Q I1 q1
end
def SqL (K:W.Frag) (H:Hp) (a:Addr) (xs:List V):Prop:=
 Rd H a (.lst xs)\/
  ∃ (o:Obj) (its:Array Value) (n:Nat),K.lookup a=some o/\o.cls=.type "list"/\o.dict=none/\o.data=.seq its n/\its.size<=sizeLine/\Vals xs its.toList
def SqT (K:W.Frag) (H:Hp) (a:Addr) (xs:List V):Prop:=
 Rd H a (.tup xs)\/
  ∃ (o:Obj) (its:Array Value) (n:Nat),K.lookup a=some o/\o.cls=.type "tuple"/\o.data=.seq its n/\its.size<=sizeLine/\Vals xs its.toList
noncomputable def AV:Value->Option V
 | .none=>some .non
 | .bool b=>some (.bl b)
 | .int i _=>some (.int i)
 | .str x _=>some (.str x)
 | .bytes b _=>some (.byt b)
 | .float b _=>some (.flt b)
 | .ref a=>some (.ref a)
 | .type n=>some (.ty n)
 | _=>none
theorem RelV.abs {x:V} {u:Value} (r:RelV x u):AV u=some x:=by
 cases x with
 | non=>cases r;rfl
 | bl _=>cases r;rfl
 | int _=>obtain ⟨t,rfl⟩:=r;rfl
 | str _=>obtain ⟨t,rfl⟩:=r;rfl
 | byt _=>obtain ⟨t,rfl⟩:=r;rfl
 | flt _=>obtain ⟨t,rfl⟩:=r;rfl
 | ref _=>cases r;rfl
 | ty _=>cases r;rfl
theorem RelV.inj {x y:V} {u:Value} (r:RelV x u) (q:RelV y u):x=y:=Option.some.inj (r.abs.symm.trans q.abs)
theorem Vals.inj: ∀ {xs ys:List V} {us:List Value},Vals xs us->Vals ys us->xs=ys
 | _,_,_,.nil,.nil=>rfl
 | _,_,_,.cons r t,.cons r' t'=>by rw [r.inj r',Vals.inj t t']
section
variable {X:Cx} {pins:List (Addr×Obj)} {Z:St} {H:Hp} {s:Shared} {a:Addr} {xs ys:List V}
theorem SqL.of {K:W.Frag} (h:H a=some (.lst xs)):SqL K H a xs:=.inl (.inl h)
theorem SqT.of {K:W.Frag} (h:H a=some (.tup xs)):SqT K H a xs:=.inl (.inl h)
theorem Inv.list (I:Inv X pins Z H s) (h:SqL X.K H a xs): ∃ its:List Value,Vals xs its/\PlainL s.heap a its.toArray/\xs.length<=sizeLine:=by
 rcases h with h | ⟨o,its,n,hk,hc,hd,hs,hz,r⟩
 ·obtain ⟨z,its,n,r,e⟩:=h.ok I.hok
  exact ⟨its,r,⟨_,n,e,rfl,rfl,rfl⟩,z⟩
 ·refine ⟨its.toList,r,⟨o,n,I.kIn a o hk,hc,hd,by simpa using hs⟩,?_⟩
  have e:=r.length
  simp only [Array.length_toList]at e
  lia
theorem Inv.tuple (I:Inv X pins Z H s) (h:SqT X.K H a xs): ∃ its:List Value,Vals xs its/\IsTup s.heap a its.toArray/\xs.length<=sizeLine:=by
 rcases h with h | ⟨o,its,n,hk,hc,hs,hz,r⟩
 ·obtain ⟨z,its,r,p⟩:=h.ok I.hok
  exact ⟨its,r,p,z⟩
 ·refine ⟨its.toList,r,⟨o,I.kIn a o hk,hc,n,by simpa using hs⟩,?_⟩
  have e:=r.length
  simp only [Array.length_toList]at e
  lia
theorem Inv.list_inj (I:Inv X pins Z H s) (h:SqL X.K H a xs) (h':SqL X.K H a ys):xs=ys:=by
 obtain ⟨its,r,⟨o,n,e,_,_,d⟩,_⟩:=I.list h
 obtain ⟨its',r',⟨o',n',e',_,_,d'⟩,_⟩:=I.list h'
 rw [e]at e';cases e'
 rw [d]at d'
 injection d' with d1 _
 have:its=its':=by simpa using congrArg Array.toList d1
 subst this
 exact r.inj r'
theorem Inv.tuple_inj (I:Inv X pins Z H s) (h:SqT X.K H a xs) (h':SqT X.K H a ys):xs=ys:=by
 obtain ⟨its,r,⟨o,e,_,n,d⟩,_⟩:=I.tuple h
 obtain ⟨its',r',⟨o',e',_,n',d'⟩,_⟩:=I.tuple h'
 rw [e]at e';cases e'
 rw [d]at d'
 injection d' with d1 _
 have:its=its':=by simpa using congrArg Array.toList d1
 subst this
 exact r.inj r'
end
noncomputable abbrev Cx.wish (X:Cx) (E:Value->Shared->Prop):Cx:={X with xe:=E}
noncomputable abbrev Cx.nox (X:Cx):Cx:=X.wish fun _ _=>False
theorem Cx.Ok.wish {X:Cx} (ok:X.Ok) (E:Value->Shared->Prop):(X.wish E).Ok:=
 ⟨ok.mod,ok.kind,ok.glob,ok.blt,ok.above,ok.inj,ok.has,ok.cab,ok.hd,ok.frames,ok.stk,ok.exf,ok.bs,ok.bsz,ok.noex,ok.exfs,ok.funs,ok.frf⟩
theorem Cx.Ok.unwish {X:Cx} {E:Value->Shared->Prop} (ok:(X.wish E).Ok):X.Ok:=
 ⟨ok.mod,ok.kind,ok.glob,ok.blt,ok.above,ok.inj,ok.has,ok.cab,ok.hd,ok.frames,ok.stk,ok.exf,ok.bs,ok.bsz,ok.noex,ok.exfs,ok.funs,ok.frf⟩
section
variable {X:Cx} {pins:List (Addr×Obj)} {Z:St} {H:Hp} {s:Shared} {E:Value->Shared->Prop}
theorem Inv.wish (I:Inv X pins Z H s) (E:Value->Shared->Prop):Inv (X.wish E) pins Z H s:=⟨I.ok.wish E,I.os,I.bare,I.base,I.loc,I.cell,I.free,I.freeC,I.pin,I.hok,I.len⟩
theorem Inv.unwish (I:Inv (X.wish E) pins Z H s):Inv X pins Z H s:=⟨I.ok.unwish,I.os,I.bare,I.base,I.loc,I.cell,I.free,I.freeC,I.pin,I.hok,I.len⟩
theorem SP.unwish {D:cH} {f:Flow} {s':Shared} (h:SP (X.wish E) pins D f s'):SP X pins D f s':=by
 cases f with
 | next=>obtain ⟨Z',H',I,q⟩:=h;exact ⟨Z',H',I.unwish,q⟩
 | brk=>obtain ⟨Z',H',I,q⟩:=h;exact ⟨Z',H',I.unwish,q⟩
 | cont=>obtain ⟨Z',H',I,q⟩:=h;exact ⟨Z',H',I.unwish,q⟩
 | ret u=>obtain ⟨v,Z',H',I,r,q⟩:=h;exact ⟨v,Z',H',I.unwish,r,q⟩
theorem PSs.nox {st:List Stmt} {t:TS} (h:PSs X.nox st t):PSs X st t:=fun pins s Z H D I hw=>
 wpAny_mono (h pins s Z H D (I.wish _) hw) (fun _ _ q=>q.unwish) fun _ _ z=>False.elim z
end
section
variable {X:Cx} {st:Stmt} {rest:List Stmt} {t u:TS} {e:Expr} {te:TE} {pos:Pos}
def ui:TS:=fun D Z H=>D.nx Z H
def wv (t u:TS):TS:=fun D Z H=>t {D with nx:=u D} Z H
theorem aK:PSs X [] ui:=fun _ _ Z H _ I h=>wpAny_execs_nil ⟨Z,H,I,h⟩
theorem ae (h1:PS X st t) (h2:PSs X rest u):PSs X (st::rest) (wv t u):=by
 intro pins s Z H D I h
 refine wpAny_execs_cons (thn (h1 pins s Z H {D with nx:=u D} I h) fun f s1 q=>?_)
 cases f with
 | next=>
  obtain ⟨Z',H',I',q⟩:=q
  exact h2 pins s1 Z' H' D I' q
 | ret v=>exact q
 | brk=>exact q
 | cont=>exact q
theorem ai (h1:PS X st t):PSs X [st] t:=by
 intro pins s Z H D I h
 refine wpAny_execs_cons (thn (h1 pins s Z H D I h) fun f s1 q=>?_)
 cases f with
 | next=>exact wpAny_execs_nil q
 | ret v=>exact q
 | brk=>exact q
 | cont=>exact q
theorem Inv.quiet {pins:List (Addr×Obj)} {Z:St} {H:Hp} {s:Shared} (I:Inv X pins Z H s):interactive X.env=false:=by simp [interactive,I.ok.kind]
def zE (te:TE):TS:=fun D Z H=>te Z H fun _ H1=>D.nx Z H1
theorem cJ (he:PE X e te) (hs:swapsWith e none pos.line X.env=pure false:=by rfl):PS X (.Expr e pos) (zE te):=by
 intro pins s Z H D I h
 exact wpAny_Expr_any (thn (he pins s Z H _ I h) fun v s1 ⟨x,H1,I1,r1,q1⟩=>⟨Z,H1,I1,q1⟩) I.quiet hs
def xV (te:TE):TS:=fun D Z H=>te Z H D.rt
theorem ax (he:PE X e te):PS X (.Return (some e) pos) (xV te):=by
 intro pins s Z H D I h
 exact wpAny_Return_some (thn (he pins s Z H _ I h) fun v s1 ⟨x,H1,I1,r1,q1⟩=>⟨x,Z,H1,I1,r1,q1⟩)
def Av (c:TT) (t u:TS):TS:=fun D Z H=>c Z H fun b H1=>if b=true then t D Z H1 else u D Z H1
theorem aY {c:Expr} {a b:List Stmt} {tc:TT} (hc:PT X c tc) (ha:PSs X a t) (hb:PSs X b u):PS X (.If c a b pos) (Av tc t u):=by
 intro pins s Z H D I h
 refine wpAny_If (thn (hc pins s Z H _ I h) fun d s1 ⟨H1,I1,q1⟩=>?_)
 cases d with
 | true=>exact ha pins s1 Z H1 D I1 q1
 | false=>exact hb pins s1 Z H1 D I1 q1
def xX:TS:=fun _ _ _=>False
theorem lq {sts:List Stmt}:PSs X sts xX:=fun _ _ _ _ _ _ h=>h.elim
end
abbrev TG:=V->St->Hp->(St->Hp->Prop)->Prop
abbrev TGs:=List V->St->Hp->(St->Hp->Prop)->Prop
def PG (X:Cx) (target:Expr) (t:TG):Prop:=
 ∀ (pins:List (Addr×Obj)) (s:Shared) (Z:St) (H:Hp) (v:V) (u:Value) (Q:St->Hp->Prop),Inv X pins Z H s->RelV v u->t v Z H Q->
  wpAny (model X.prog X.w) X.A (assign target X.env u) (fun _ s'=> ∃ Z' H',Inv X pins Z' H' s'/\Q Z' H') X.xe s
def PGs (X:Cx) (ts:List Expr) (t:TGs):Prop:=
 ∀ (pins:List (Addr×Obj)) (s:Shared) (Z:St) (H:Hp) (vs:List V) (us:List Value) (Q:St->Hp->Prop),Inv X pins Z H s->Vals vs us->t vs Z H Q->
  wpAny (model X.prog X.w) X.A (assignInOrder ((assignEach ts X.env).map (·.2)) us) (fun _ s'=> ∃ Z' H',Inv X pins Z' H' s'/\Q Z' H') X.xe s
abbrev zn:=V->V->V->Hp->(Hp->Prop)->Prop
def Ar (X:Cx) (t:zn):Prop:=
 ∀ (pins:List (Addr×Obj)) (s:Shared) (Z:St) (H:Hp) (o i v:V) (ov iv u:Value) (Q:Hp->Prop),Inv X pins Z H s->RelV o ov->RelV i iv->RelV v u->t o i v H Q->
  wpAny (model X.prog X.w) X.A (setItem ov iv u) (fun _ s'=> ∃ H',Inv X pins Z H' s'/\Q H') X.xe s
section
variable {X:Cx} {pos:Pos}
noncomputable def gU (i:Nat):TG:=fun v Z H Q=>Q (Z.set i (some v)) H
theorem aH {i:Nat} {x:Str} (hN:X.N.Nodup) (hi:X.N[i]? =some x) (hx:Loc X.env.scope x) (hf:X.fn x=true\/X.env.scope.names.lookup x=some .local:=by first | exact .inl rfl | exact .inr rfl | assumption):PG X (.Name x pos) (gU i):=by
 intro pins s Z H v u Q I r h
 exact wpAny_assign_Name (nM I hN hi hx r (fun s' I'=>⟨_,H,I',h⟩) hf)
noncomputable def Aj:TGs:=fun vs Z H Q=>vs=[]/\Q Z H
inductive rE (t:TG) (u:TGs) (vs:List V) (Z:St) (H:Hp) (Q:(St->Hp->Prop)):Prop
 | mk: ∀ v r,(vs=v::r)->(t v Z H fun Z' H'=>u r Z' H' Q)->rE t u vs Z H Q
theorem dv:PGs X [] Aj:=by
 intro pins s Z H vs us Q I r h
 obtain ⟨e,h⟩:=h
 subst e
 cases r
 exact assignInOrder_nil ⟨Z,H,I,h⟩
theorem aT {e:Expr} {es:List Expr} {t:TG} {u:TGs} (h1:PG X e t) (h2:PGs X es u)
  (hs:(assignEach (e::es) X.env).map (·.2)=assign e X.env::(assignEach es X.env).map (·.2):=by rfl):PGs X (e::es) (rE t u):=by
 intro pins s Z H vs us Q I r h
 obtain ⟨v,vr,e1,h⟩:=h
 subst e1
 cases r with
 | cons r rr=>
  rw [hs]
  refine assignInOrder_cons (thn (h1 pins s Z H _ _ _ I r h) fun _ s1 ⟨Z1,H1,I1,q1⟩=>?_)
  exact h2 pins s1 Z1 H1 _ _ Q I1 rr q1
inductive yY (K:W.Frag) (n:Nat) (t:TGs) (v:V) (Z:St) (H:Hp) (Q:(St->Hp->Prop)):Prop
 | mk: ∀ a xs,(v=.ref a)->(SqT K H a xs)->(xs.length=n)->(t xs Z H Q)->yY K n t v Z H Q
theorem eU {es:List Expr} {k:Nat} {t:TGs} {n:Nat} (hc:X.calm=true) (h:PGs X es t)
  (hn:(assignEach es X.env).length=n:=by rfl) (hst:(assignEach es X.env).findIdx? (·.1)=none:=by rfl):PG X (.Tuple es k pos) (yY X.K n t):=by
 intro pins s Z H v u Q I r hw
 obtain ⟨a,xs,e1,hq,hl,hw⟩:=hw
 subst e1
 cases r
 obtain ⟨its,rv,ht,hz⟩:=I.tuple hq
 refine assign_Tuple_tuple (I.ok.hd hc) ht (by simp [hn,<- hl,rv.length]) hst fun h' hx=>?_
 have I1:Inv X pins Z H {s with heap:=h'}:=I.kept (t':=s.toks) fun b o e=>hx b o (Nat.ne_of_lt (Heap.lt_size e)) e
 exact h pins _ Z H xs _ Q I1 (by simpa using rv) hw
noncomputable def AN (to ti:TE) (t:zn):TG:=fun v Z H Q=>to Z H fun o H1=>ti Z H1 fun i H2=>t o i v H2 fun H3=>Q Z H3
theorem yp {o i:Expr} {to ti:TE} {t:zn} (ho:PE X o to) (hi:PE X i ti) (hs:Ar X t)
  (ha: ∀ v,assign (.Subscript o i pos) X.env v=(do
   let ov <- holding [v] (eval o X.env)
   let iv <- holding [v,ov] (eval i X.env)
   standAt pos
   holding [v,ov,iv] (setItem ov iv v)
   release [v,ov,iv] []):=by intro _;rfl):PG X (.Subscript o i pos) (AN to ti t):=by
 intro pins s Z H v u Q I r h
 rw [ha]
 refine wpAny_bind (wpAny_holding (thn (ho pins s Z H _ I h) fun ov s1 ⟨x,H1,I1,r1,q1⟩=>?_))
 refine wpAny_bind (wpAny_holding (thn (hi pins s1 Z H1 _ I1 q1) fun iv s2 ⟨y,H2,I2,r2,q2⟩=>?_))
 refine wpAny_bind (wpAny_standAt (wpAny_bind (wpAny_holding (thn (hs pins s2 Z H2 x y v ov iv u _ I2 r1 r2 r q2) fun _ s3 ⟨H3,I3,q3⟩=>?_))))
 exact wpAny_release ⟨Z,H3,I3,q3⟩
def lZ (te:TE) (g:TG):TS:=fun D Z H=>te Z H fun x H1=>g x Z H1 D.nx
theorem pV {tg e:Expr} {te:TE} {g:TG} (he:PE X e te) (hg:PG X tg g) (hs:swapsWithSole [tg] e pos.line X.env=pure false:=by rfl) (hw:swappedStores [tg] e X.env=pure none:=by rfl)
  (h1:(assignEach [tg] X.env).map (·.2)=[assign tg X.env]:=by rfl):PS X (.Assign [tg] e pos) (lZ te g):=by
 intro pins s Z H D I h
 refine wpAny_Assign_stores (thn (he pins s Z H _ I h) fun v s1 ⟨x,H1,I1,r1,q1⟩=>?_) hs hw
 rw [h1]
 exact thn (hg pins s1 Z H1 x v _ I1 r1 q1) fun _ s2 q=>q
theorem aq {i:Nat} {x:Str} {e:Expr} {te:TE} {pos':Pos} (hN:X.N.Nodup) (hi:X.N[i]? =some x) (hx:Loc X.env.scope x) (he:PE X e te) (hs:swapsWith e (some (.Name x pos')) pos.line X.env=pure false:=by rfl) (hf:X.fn x=true\/X.env.scope.names.lookup x=some .local:=by first | exact .inl rfl | exact .inr rfl | assumption):
  PS X (.Assign [.Name x pos'] e pos) (lZ te (gU i)):=by
 intro pins s Z H D I h
 refine wpAny_Assign_Name (thn (he pins s Z H _ I h) fun v s1 ⟨y,H1,I1,r1,q1⟩=>?_) hs
 exact nM I1 hN hi hx r1 (fun s2 I2=>⟨_,H1,I2,q1⟩) hf
end
section
variable {X:Cx} {pos:Pos}
inductive pp (c:TT) (tb:TS) (D:cH) (Z:St) (H:Hp):Prop
 | mk: ∀ (W:Nat->St->Hp->Prop),((∃ m,W m Z H))->(∀ m Z H,W m Z H->c Z H fun b H1=>if b=true then ∃ N:St->Hp->Prop,(∀ Z' H',N Z' H'-> ∃ m',m'<m/\W m' Z' H')/\tb {D with nx:=N,ct:=N,bk:=D.nx} Z H1 else D.nx Z H1)->pp c tb D Z H
theorem jW {c:Expr} {body:List Stmt} {tc:TT} {tb:TS} (hp:PassesOwn (model X.prog X.w) X.A X.env X.xe) (hc:PT X c tc) (hb:PSs X body tb):PS X (.While c body [] pos) (pp tc tb):=by
 intro pins s Z H D I h
 obtain ⟨W,⟨m0,w0⟩,turn⟩:=h
 refine wpAny_While (codeAny_whileLoop (fun n s'=> ∃ Z' H',Inv X pins Z' H' s'/\W n Z' H') ?_ m0 ⟨Z,H,I,w0⟩)
 rintro n s1 ⟨Z1,H1,I1,w1⟩
 refine wpAny_passesOwn hp (thn (hc pins s1 Z1 H1 _ I1 (turn n Z1 H1 w1)) fun b s2 ⟨H2,I2,q2⟩=>?_)
 cases b with
 | true=>
  obtain ⟨N,hN,q2⟩:=q2
  rw [if_pos rfl]
  refine wpAny_passesOwn hp (thn (hb pins s2 Z1 H2 _ I2 q2) fun f s3 q3=>?_)
  cases f with
  | next=>
   obtain ⟨Z3,H3,I3,n3⟩:=q3
   obtain ⟨m',hm,w3⟩:=hN Z3 H3 n3
   exact ⟨m',hm,Z3,H3,I3,w3⟩
  | cont=>
   obtain ⟨Z3,H3,I3,n3⟩:=q3
   obtain ⟨m',hm,w3⟩:=hN Z3 H3 n3
   exact ⟨m',hm,Z3,H3,I3,w3⟩
  | brk=>exact q3
  | ret v=>exact q3
 | false=>
  rw [if_neg Bool.false_ne_true]
  exact wpAny_execs_nil ⟨Z1,H2,I2,q2⟩
end
structure It where
 go:Nat->Hp->Prop
 yld:Nat->Hp->V->Hp->Prop
 stop:Nat->Hp->Prop
def kq (X:Cx) (pins:List (Addr×Obj)) (H:Hp) (b:Addr):Prop:=
 H b=none/\b≠X.env.locals/\b∉X.fs/\(b∈X.ex\/X.s₀.heap.objs.size<=b)/\(∀ x c,X.env.cells.lookup x=some c->c≠b)/\ ∀ p∈X.pn++pins,p.1≠b
theorem Inv.fpOk {X:Cx} {pins:List (Addr×Obj)} {Z:St} {H H':Hp} {s:Shared} {b:Addr} (I:Inv X pins Z H s) (hb:s.heap.objs.size<=b) (hn:H' b=none):kq X pins H' b:=by
 refine ⟨hn,Nat.ne_of_gt (Nat.lt_of_lt_of_le I.lt hb),I.nofs hb,.inr (Nat.le_trans I.sz hb),fun x c e z=>?_,fun p hp z=>?_⟩
 ·obtain ⟨v,q⟩:=I.cell x c e
  exact absurd (Nat.lt_of_lt_of_le q.lt (by rw [z];exact hb)) (Nat.lt_irrefl _)
 ·exact absurd (Nat.lt_of_lt_of_le (Heap.lt_size (I.pin p hp).1) (by rw [z];exact hb)) (Nat.lt_irrefl _)
structure tX (P:Program) (w:World) (K:W.Frag) (tg:Expr) (J:It) (fp:List Addr) (it:Addr) (tn:Nat->Heap->Prop):Prop where
 mem:it∈fp
 obj: ∀ i h,tn i h-> ∀ b∈fp,∃ o,h.get? b=some o/\ ∀ v,o.data≠ .cell v
 keep: ∀ i h h',tn i h->(∀ b∈fp,∀ o,h.get? b=some o->h'.get? b=some o)->tn i h'
 item: ∀ (X:Cx),X.prog=P->X.w=w->X.K=K->X.calm=true-> ∀ (i:Nat) (pins:List (Addr×Obj)) (s:Shared) (Z:St) (H:Hp) (E:Value->Shared->Prop),Inv X pins Z H s->(∀ b∈fp,kq X pins H b)->tn i s.heap->J.go i H->
  wpAny (model P w) X.A (pyNext (.ref it)) (fun r s1=> ∃ u,r=some u/\
   wpAny (model P w) X.A (letOwnedTupleGo tg (.ref it) u) (fun _ s2=> ∃ x H',Inv X pins Z H' s2/\RelV x u/\J.yld i H x H'/\tn (i+1) s2.heap/\ ∀ b∈fp,H' b=none) E s1) E s
 done: ∀ (X:Cx),X.prog=P->X.w=w->X.K=K->X.calm=true-> ∀ (i:Nat) (pins:List (Addr×Obj)) (s:Shared) (Z:St) (H:Hp) (E:Value->Shared->Prop),Inv X pins Z H s->(∀ b∈fp,kq X pins H b)->tn i s.heap->J.stop i H->
  wpAny (model P w) X.A (pyNext (.ref it)) (fun r s1=>r=none/\Inv X pins Z H s1) E s
 self: ∀ (A:Around) (i:Nat) (s:Shared) (Q:Value->Shared->Prop) (E:Value->Shared->Prop),tn i s.heap->Q (.ref it) s->wpAny (model P w) A (pyIter (.ref it)) Q E s
abbrev TI:=St->Hp->(It->Hp->Prop)->Prop
inductive PIE (X:Cx) (pins:List (Addr×Obj)) (Z:St) (tg:Expr) (R:It->Hp->Prop) (itv:Value) (s2:Shared):Prop
 | mk: ∀ (it:Addr) (fp:List Addr) (tn:Nat->Heap->Prop) (J:It) (H':Hp),(itv=.ref it)->(Inv X pins Z H' s2)->(tX X.prog X.w X.K tg J fp it tn)->(tn 0 s2.heap)->((∀ b∈fp,kq X pins H' b))->(R J H')->PIE X pins Z tg R itv s2
def PI (X:Cx) (tg iter:Expr) (wi:TI):Prop:=
 ∀ (pins:List (Addr×Obj)) (s:Shared) (Z:St) (H:Hp) (R:It->Hp->Prop),Inv X pins Z H s->wi Z H R->
  wpAny (model X.prog X.w) X.A (eval iter X.env) (fun v s1=>wpAny (model X.prog X.w) X.A (pyIter v) (PIE X pins Z tg R) X.xe s1) X.xe s
theorem vN {M:Model} {A:Around} {E:Value->Shared->Prop} {s:Shared} {tg:Expr} {it:Addr} {u:Value} {o:Obj} {n:String} {vs:Array Value} {Q:Unit->Shared->Prop} (ho:s.heap.get? it=some o) (hc:o.cls=.type n) (hd:o.data=.fields vs)
  (hn:["enumerate","zip","dict_itemiterator","dict_reverseitemiterator","odict_iterator","itertools.zip_longest","itertools.pairwise"].contains n=false) (hQ:Q () s):wpAny M A (letOwnedTupleGo tg (.ref it) u) Q E s:=by
 unfold letOwnedTupleGo
 cases tg <;> first
  | exact wpAny_pure hQ
  | (cases u <;> first
    | exact wpAny_pure hQ
    | (refine wpAny_bind (wpAny_load ho ?_)
       rw [hc,hd]
       show wpAny M A (if (["enumerate","zip","dict_itemiterator","dict_reverseitemiterator","odict_iterator","itertools.zip_longest","itertools.pairwise"].contains n&&vs[0]? ==some (rawInt _))=true then _ else _) Q E s
       rw [if_neg (by intro h;rw [hn,Bool.false_and]at h;cases h)]
       exact wpAny_pure hQ))
noncomputable def Itl (K:W.Frag) (a:Addr):It:=
 ⟨fun i H=> ∃ xs x,SqL K H a xs/\xs[i]? =some x,fun i H x H'=>H'=H/\ ∀ xs,SqL K H a xs->xs[i]? =some x,fun i H=> ∃ xs,SqL K H a xs/\xs.length<=i⟩
noncomputable def Itt (K:W.Frag) (a:Addr):It:=
 ⟨fun i H=> ∃ xs x,SqT K H a xs/\xs[i]? =some x,fun i H x H'=>H'=H/\ ∀ xs,SqT K H a xs->xs[i]? =some x,fun i H=> ∃ xs,SqT K H a xs/\xs.length<=i⟩
noncomputable def Itr (lo:Int) (n:Nat):It:=⟨fun i _=>i<n,fun i H x H'=>H'=H/\x=.int (lo+i),fun i _=>n<=i⟩
theorem rV {P:Program} {w:World} {K:W.Frag} {tg:Expr} (a it:Addr):tX P w K tg (Itl K a) [it] it (fun i h=>h.IsListIter it a i) where
 mem:=by simp
 obj:=fun i h st b hb=>by
  have e:b=it:=by simpa using hb
  subst e
  obtain ⟨o,e,c,d⟩:=st
  exact ⟨o,e,fun v z=>by rw [d]at z;cases z⟩
 keep:=fun i h h' st k=>st.at fun o e=>k it (by simp) o e
 item:=by
  intro X hP hw hK hc i pins s Z H E I hf st hg
  subst hP hw hK
  obtain ⟨xs,x,hq,hx⟩:=hg
  obtain ⟨its,rv,p,hz⟩:=I.list hq
  obtain ⟨u,hu,ru⟩:=rv.get hx
  obtain ⟨f0,f1,f2,f3,f4,f5⟩:=hf it (by simp)
  refine wpAny_pyNext_list_item st p.isList (x:=u) (by simpa using hu) fun h' st' sb=>?_
  have I1:Inv X pins Z H {s with heap:=h'}:=I.turned (t':=s.toks) (fun b o hb e=>(sb.2 b hb).trans e) f0 f1 f3 f4 f5
  obtain ⟨o,e,c,d⟩:=id st'
  exact ⟨u,rfl,vN (s:={s with heap:=h'}) e c d (by decide) ⟨x,H,I1,ru,⟨rfl,fun ys hy=>by rw [I.list_inj hy hq];exact hx⟩,st',fun b hb=>(hf b hb).1⟩⟩
 done:=by
  intro X hP hw hK hc i pins s Z H E I hf st hg
  subst hP hw hK
  obtain ⟨xs,hq,hx⟩:=hg
  obtain ⟨its,rv,p,hz⟩:=I.list hq
  obtain ⟨f0,f1,f2,f3,f4,f5⟩:=hf it (by simp)
  have hl:=rv.length
  exact wpAny_pyNext_list_end (I.ok.hd hc) st p.isList (by simp;lia) fun h' eb=>⟨rfl,I.turned (t':=s.toks) (fun b o hb e=>eb b o hb e) f0 f1 f3 f4 f5⟩
 self:=fun _ _ _ _ _ st h=>wpAny_pyIter_listiter st h
theorem ph {P:Program} {w:World} {K:W.Frag} {tg:Expr} (a it:Addr):tX P w K tg (Itt K a) [it] it (fun i h=>h.IsTupleIter it a i) where
 mem:=by simp
 obj:=fun i h st b hb=>by
  have e:b=it:=by simpa using hb
  subst e
  obtain ⟨o,e,c,d⟩:=st
  exact ⟨o,e,fun v z=>by rw [d]at z;cases z⟩
 keep:=fun i h h' st k=>st.at fun o e=>k it (by simp) o e
 item:=by
  intro X hP hw hK hc i pins s Z H E I hf st hg
  subst hP hw hK
  obtain ⟨xs,x,hq,hx⟩:=hg
  obtain ⟨its,rv,p,hz⟩:=I.tuple hq
  obtain ⟨u,hu,ru⟩:=rv.get hx
  obtain ⟨f0,f1,f2,f3,f4,f5⟩:=hf it (by simp)
  refine wpAny_pyNext_tuple_item st (show s.heap.IsTuple a its.toArray from p) (x:=u) (by simpa using hu) fun h' st' sb=>?_
  have I1:Inv X pins Z H {s with heap:=h'}:=I.turned (t':=s.toks) (fun b o hb e=>(sb.2 b hb).trans e) f0 f1 f3 f4 f5
  obtain ⟨o,e,c,d⟩:=id st'
  exact ⟨u,rfl,vN (s:={s with heap:=h'}) e c d (by decide) ⟨x,H,I1,ru,⟨rfl,fun ys hy=>by rw [I.tuple_inj hy hq];exact hx⟩,st',fun b hb=>(hf b hb).1⟩⟩
 done:=by
  intro X hP hw hK hc i pins s Z H E I hf st hg
  subst hP hw hK
  obtain ⟨xs,hq,hx⟩:=hg
  obtain ⟨its,rv,p,hz⟩:=I.tuple hq
  obtain ⟨f0,f1,f2,f3,f4,f5⟩:=hf it (by simp)
  have hl:=rv.length
  exact wpAny_pyNext_tuple_end (I.ok.hd hc) st (show s.heap.IsTuple a its.toArray from p) (by simp;lia) fun h' eb=>⟨rfl,I.turned (t':=s.toks) (fun b o hb e=>eb b o hb e) f0 f1 f3 f4 f5⟩
 self:=fun _ _ _ _ _ st h=>wpAny_pyIter_tupleiter st h
theorem pi {P:Program} {w:World} {K:W.Frag} {tg:Expr} (it:Addr) (lo:Int) (n:Nat):tX P w K tg (Itr lo n) [it] it (fun i h=>IsRangeIter h it (lo+ (i:Nat) *1) ((n:Int) - (i:Nat)) 1) where
 mem:=by simp
 obj:=fun i h st b hb=>by
  have e:b=it:=by simpa using hb
  subst e
  exact ⟨_,st,fun v z=>by
   have z':Data.fields _=Data.cell v:=z
   cases z'⟩
 keep:=fun i h h' st k=>k it (by simp) _ st
 item:=by
  intro X hP hw hK hc i pins s Z H E I hf st hg
  subst hP hw hK
  obtain ⟨f0,f1,f2,f3,f4,f5⟩:=hf it (by simp)
  have W:=Walks.range (prog:=X.prog) (w:=X.w) (I.ok.hd hc) it lo 1 n
  refine W.item i s _ _ hg st fun v h' tk hv st' kk=>?_
  obtain ⟨t,rfl⟩:=hv
  have I1:Inv X pins Z H {s with heap:=h',toks:=tk}:=I.turned (fun b o hb e=>kk b o (by simpa using hb) e) f0 f1 f3 f4 f5
  refine ⟨_,rfl,vN (s:={s with heap:=h',toks:=tk}) (n:="range_iterator") st' rfl rfl (by decide) ⟨.int (lo+i),H,I1,⟨t,?_⟩,⟨rfl,rfl⟩,st',fun b hb=>(hf b hb).1⟩⟩
  rw [Int.mul_one]
 done:=by
  intro X hP hw hK hc i pins s Z H E I hf st hg
  subst hP hw hK
  obtain ⟨f0,f1,f2,f3,f4,f5⟩:=hf it (by simp)
  exact wpAny_pyNext_range_end (I.ok.hd hc) st (by have:n<=i:=hg;lia) fun h' eb=>⟨rfl,I.turned (t':=s.toks) (fun b o hb e=>eb b o hb e) f0 f1 f3 f4 f5⟩
 self:=fun _ _ _ _ _ st h=>wpAny_pyIter_rangeiter st h
section
variable {X:Cx} {tg:Expr}
noncomputable def Ae (K:W.Frag) (tl:TE):TI:=fun Z H R=>tl Z H fun x H1=> ∃ a,x=.ref a/\(∃ xs,SqL K H1 a xs)/\R (Itl K a) H1
noncomputable def yW (K:W.Frag) (tl:TE):TI:=fun Z H R=>tl Z H fun x H1=> ∃ a,x=.ref a/\(∃ xs,SqT K H1 a xs)/\R (Itt K a) H1
theorem bu {l:Expr} {tl:TE} (hl:PE X l tl):PI X tg l (Ae X.K tl):=by
 intro pins s Z H R I h
 refine thn (hl pins s Z H _ I h) fun v s1 ⟨x,H1,I1,r1,q1⟩=>?_
 obtain ⟨a,e,⟨xs,hq⟩,q⟩:=q1
 subst e
 cases r1
 obtain ⟨its,rv,p,hz⟩:=I1.list hq
 refine wpAny_pyIter_list p.isList ?_
 refine ⟨s1.heap.objs.size,[s1.heap.objs.size],_,_,H1,rfl,I1.kept (t':=s1.toks) fun b o e=>Heap.get?_push_of_some _ e,rV a _,⟨_,Heap.get?_push_size _ rfl,rfl,rfl⟩,fun b hb=>?_,q⟩
 have e:b=s1.heap.objs.size:=by simpa using hb
 subst e
 exact I1.fpOk (Nat.le_refl _) (I1.hok.fresh (Nat.le_refl _))
theorem cf {l:Expr} {tl:TE} (hl:PE X l tl):PI X tg l (yW X.K tl):=by
 intro pins s Z H R I h
 refine thn (hl pins s Z H _ I h) fun v s1 ⟨x,H1,I1,r1,q1⟩=>?_
 obtain ⟨a,e,⟨xs,hq⟩,q⟩:=q1
 subst e
 cases r1
 obtain ⟨its,rv,p,hz⟩:=I1.tuple hq
 refine wpAny_pyIter_tuple (show s1.heap.IsTuple a its.toArray from p) ?_
 refine ⟨s1.heap.objs.size,[s1.heap.objs.size],_,_,H1,rfl,I1.kept (t':=s1.toks) fun b o e=>Heap.get?_push_of_some _ e,ph a _,⟨_,Heap.get?_push_size _ rfl,rfl,rfl⟩,fun b hb=>?_,q⟩
 have e:b=s1.heap.objs.size:=by simpa using hb
 subst e
 exact I1.fpOk (Nat.le_refl _) (I1.hok.fresh (Nat.le_refl _))
theorem og {pins:List (Addr×Obj)} {Z:St} {H:Hp} {s:Shared} {R:It->Hp->Prop} {E:Value->Shared->Prop} {lo hi:Int} {t u v:Tok} {tk:Nat} (I:Inv X pins Z H s) (h1: -(2^62)<=lo) (h2:lo<2^62) (h3: -(2^62)<=hi) (h4:hi<2^62)
  (q:R (Itr lo (hi-lo).toNat) H):wpAny (model X.prog X.w) X.A (pyIter (.ref s.heap.objs.size)) (PIE X pins Z tg R) E {s with heap:=s.heap.push {cls:=.type "range",data:=.fields #[.int lo t,.int hi u,.int 1 v]},toks:=tk}:=by
 refine wpAny_pyIter_range (IsRange.new ..) (small_one h1 h2 h3 h4) ?_
 have I1:Inv X pins Z H {s with heap:=s.heap.push {cls:=.type "range",data:=.fields #[.int lo t,.int hi u,.int 1 v]},toks:=tk}:=I.kept fun b o e=>Heap.get?_push_of_some _ e
 refine ⟨(s.heap.push {cls:=.type "range",data:=.fields #[.int lo t,.int hi u,.int 1 v]}).objs.size,[(s.heap.push {cls:=.type "range",data:=.fields #[.int lo t,.int hi u,.int 1 v]}).objs.size],_,_,H,rfl,
  I1.kept (t':=tk) fun b o e=>Heap.get?_push_of_some _ e,pi _ lo (hi-lo).toNat,?_,fun b hb=>?_,q⟩
 ·have e1:lo+ ((0:Nat):Int) *1=lo:=by simp
  have e2:(((hi-lo).toNat:Nat):Int) - ((0:Nat):Int)=Builtin.Range.rangeSize lo hi 1:=by rw [rangeSize_one];split <;> lia
  show IsRangeIter _ _ (lo+ ((0:Nat):Int) *1) ((((hi-lo).toNat:Nat):Int) - ((0:Nat):Int)) 1
  rw [e1,e2]
  exact Heap.get?_push_size _ rfl
 ·have e:b=(s.heap.push {cls:=.type "range",data:=.fields #[.int lo t,.int hi u,.int 1 v]}).objs.size:=by simpa using hb
  subst e
  exact I1.fpOk (Nat.le_refl _) (I1.hok.fresh (Nat.le_refl _))
noncomputable def Ad (ta:TA):TI:=fun Z H R=>ta Z H fun vs H1=> ∃ j:Int,vs=[.int j]/\ -(2^62)<=j/\j<2^62/\R (Itr 0 j.toNat) H1
noncomputable def Ac (ta:TA):TI:=fun Z H R=>ta Z H fun vs H1=> ∃ i j:Int,vs=[.int i,.int j]/\(-(2^62)<=i/\i<2^62/\ -(2^62)<=j/\j<2^62)/\R (Itr i (j-i).toNat) H1
theorem br {a:Expr} {ta:TA} {p pos:Pos} (hg:Gl X "range") (hm:X.mg "range"=none) (ha:PA X [a] ta) (hs:starEach [a] X.env=[(false,eval a X.env)]:=by rfl):PI X tg (.Call (.Name "range" p) [a] [] pos) (Ad ta):=by
 intro pins s Z H R I h
 refine Call_ (ig I hg hm boot_range (PyProof.Rows.callWith_type1 (thn (ha pos pins s Z H _ I h) fun us s1 ⟨vs,H1,I1,r1,q1⟩=>?_) hs rfl))
 obtain ⟨j,e,q1,q2,q⟩:=q1
 subst e
 cases r1 with
 | cons r rr=>
  cases rr
  obtain ⟨t,rfl⟩:=r
  exact call_range_1 (og I1 (by lia) (by lia) q1 q2 (by simpa using q))
theorem sG {a b:Expr} {ta:TA} {p pos:Pos} (hg:Gl X "range") (hm:X.mg "range"=none) (ha:PA X [a,b] ta) (hs:starEach [a,b] X.env=[(false,eval a X.env),(false,eval b X.env)]:=by rfl) (hs2:starEach [b] X.env=[(false,eval b X.env)]:=by rfl):
  PI X tg (.Call (.Name "range" p) [a,b] [] pos) (Ac ta):=by
 intro pins s Z H R I h
 refine Call_ (ig I hg hm boot_range (PyProof.Rows.callWith_type1 (thn (ha pos pins s Z H _ I h) fun us s1 ⟨vs,H1,I1,r1,q1⟩=>?_) (by rw [hs,hs2]) (by rw [hs2];rfl)))
 obtain ⟨i,j,e,⟨q1,q2,q3,q4⟩,q⟩:=q1
 subst e
 cases r1 with
 | cons r rr=>
  cases rr with
  | cons r' rr=>
   cases rr
   obtain ⟨t,rfl⟩:=r
   obtain ⟨t',rfl⟩:=r'
   exact call_range_2 (og I1 q1 q2 q3 q4 q)
def Aw (wi:TI) (g:TG) (tb:TS):TS:=fun D Z H=>wi Z H fun J H1=> ∃ W:Nat->Nat->St->Hp->Prop,(∃ m,W 0 m Z H1)/\ ∀ i m Z H,W i m Z H->
 (J.stop i H/\D.nx Z H)\/(J.go i H/\ ∃ N:St->Hp->Prop,(∀ Z' H',N Z' H'-> ∃ m',m'<m/\W (i+1) m' Z' H')/\ ∀ x H',J.yld i H x H'->g x Z H' fun Z2 H2=>tb {D with nx:=N,ct:=N,bk:=D.nx} Z2 H2)
noncomputable def mM (fp:List Addr) (h:Heap):List (Addr×Obj):=fp.filterMap fun b=>(h.get? b).map fun o=>(b,o)
theorem cu {fp:List Addr} {h:Heap} {b:Addr} {o:Obj} (hb:b∈fp) (e:h.get? b=some o):(b,o)∈mM fp h:=List.mem_filterMap.mpr ⟨b,hb,by rw [e];rfl⟩
theorem tq {fp:List Addr} {h:Heap} {p:Addr×Obj} (hp:p∈mM fp h):p.1∈fp/\h.get? p.1=some p.2:=by
 obtain ⟨b,hb,e⟩:=List.mem_filterMap.mp hp
 cases q:h.get? b with
 | none=>rw [q]at e;cases e
 | some o=>
  rw [q]at e
  have e':(b,o)=p:=Option.some.inj e
  subst e'
  exact ⟨hb,q⟩
theorem Inv.pinned {pins:List (Addr×Obj)} {Z:St} {H:Hp} {s:Shared} {fp:List Addr} (I:Inv X pins Z H s) (hf: ∀ b∈fp,kq X pins H b) (ho: ∀ b∈fp,∃ o,s.heap.get? b=some o/\ ∀ v,o.data≠ .cell v):Inv X (pins++mM fp s.heap) Z H s:=
 I.pins_of fun p hp=>(List.mem_append.mp hp).elim (fun z=>I.pin p (List.mem_append_right _ z)) fun z=>by
  obtain ⟨hb,e⟩:=tq z
  obtain ⟨f0,f1,f2,_⟩:=hf p.1 hb
  obtain ⟨o,e',d⟩:=ho p.1 hb
  rw [e]at e';cases e'
  exact ⟨e,f0,f1,f2,d⟩
theorem Inv.unpinned {pins pl:List (Addr×Obj)} {Z:St} {H:Hp} {s:Shared} (I:Inv X (pins++pl) Z H s):Inv X pins Z H s:=I.pins_of fun p hp=>I.pin p (List.mem_append_right _ (List.mem_append_left _ hp))
theorem bg {iter:Expr} {body:List Stmt} {wi:TI} {g:TG} {tb:TS} {pos:Pos} (hp:PassesOwn (model X.prog X.w) X.A X.env X.xe) (hc:X.calm=true) (hi:PI X tg iter wi) (hg:PG X tg g) (hb:PSs X body tb)
  (hs: ∀ x,foldedSetIterable iter X.env x=pure x:=by intro _;rfl):PS X (.For tg iter body [] pos) (Aw wi g tb):=by
 intro pins s Z H D I h
 refine wpAny_For (thn (hi pins s Z H _ I h) fun v s1 h1=>thn h1 fun itv s2 h2=>?_) hs
 obtain ⟨it,fp,tn,J,H2,e,I2,T,st2,f2,W,⟨m0,w0⟩,turn⟩:=h2
 subst e
 have stat: ∀ {H':Hp},(∀ b∈fp,H' b=none)-> ∀ b∈fp,kq X pins H' b:=fun hn b hb=>⟨hn b hb,(f2 b hb).2⟩
 refine codeAny_forLoop_any (fun n s'=> ∃ i Z' H',Inv X pins Z' H' s'/\tn i s'.heap/\(∀ b∈fp,H' b=none)/\W i n Z' H') ?_ m0 ⟨0,Z,H2,I2,st2,fun b hb=>(f2 b hb).1,w0⟩
 rintro n s3 ⟨i,Z3,H3,I3,st3,fr3,w3⟩
 rcases turn i n Z3 H3 w3 with ⟨stop,qn⟩ | ⟨go,N,hN,step⟩
 ·refine wpAny_passesOwn hp (thn (T.done X rfl rfl rfl hc i pins s3 Z3 H3 X.xe I3 (stat fr3) st3 stop) fun r s4 ⟨hr,I4⟩=>?_)
  subst hr
  exact wpAny_execs_nil ⟨Z3,H3,I4,qn⟩
 ·refine wpAny_passesOwn hp (thn (T.item X rfl rfl rfl hc i pins s3 Z3 H3 X.xe I3 (stat fr3) st3 go) fun r s4 ⟨u,hr,h4⟩=>?_)
  subst hr
  refine wpAny_passesOwn hp (thn h4 fun _ s5 ⟨x,H5,I5,r5,y5,st5,fr5⟩=>?_)
  have I5':=I5.pinned (stat fr5) (T.obj _ _ st5)
  refine wpAny_passesOwn hp (thn (hg _ s5 Z3 H5 x u _ I5' r5 (step x H5 y5)) fun _ s6 ⟨Z6,H6,I6,q6⟩=>?_)
  refine wpAny_passesOwn hp (thn (hb _ s6 Z6 H6 _ I6 q6) fun f s7 q7=>?_)
  have again: ∀ {Z7:St} {H7:Hp},Inv X (pins++mM fp s5.heap) Z7 H7 s7->N Z7 H7-> ∃ m,m<n/\ ∃ i Z' H',Inv X pins Z' H' s7/\tn i s7.heap/\(∀ b∈fp,H' b=none)/\W i m Z' H':=fun {Z7 H7} I7 n7=>by
   obtain ⟨m',hm,w7⟩:=hN Z7 H7 n7
   refine ⟨m',hm,i+1,Z7,H7,I7.unpinned,T.keep _ _ _ st5 fun b hb o e=>(I7.pin (b,o) (List.mem_append_right _ (List.mem_append_right _ (cu hb e)))).1,fun b hb=>?_,w7⟩
   obtain ⟨o,e,d⟩:=T.obj _ _ st5 b hb
   exact (I7.pin (b,o) (List.mem_append_right _ (List.mem_append_right _ (cu hb e)))).2.1
  cases f with
  | next=>obtain ⟨Z7,H7,I7,n7⟩:=q7;exact again I7 n7
  | cont=>obtain ⟨Z7,H7,I7,n7⟩:=q7;exact again I7 n7
  | brk=>obtain ⟨Z7,H7,I7,q7⟩:=q7;exact ⟨Z7,H7,I7.unpinned,q7⟩
  | ret v=>obtain ⟨x7,Z7,H7,I7,r7,q7⟩:=q7;exact ⟨x7,Z7,H7,I7.unpinned,r7,q7⟩
end
theorem dj {K:W.Frag} {a:Addr} {xs:List V} {g:TG} {tb:TS} {D:cH} {Z:St} {H:Hp} (Pv:Nat->St->Hp->Prop) (h0:Pv 0 Z H) (hl: ∀ i Z H,i<=xs.length->Pv i Z H->SqL K H a xs)
  (hs: ∀ i x Z H,xs[i]? =some x->Pv i Z H->g x Z H fun Z2 H2=>tb {D with nx:=Pv (i+1),ct:=Pv (i+1),bk:=D.nx} Z2 H2) (hd: ∀ Z H,Pv xs.length Z H->D.nx Z H):
  ∃ W:Nat->Nat->St->Hp->Prop,(∃ m,W 0 m Z H)/\ ∀ i m Z H,W i m Z H->
   ((Itl K a).stop i H/\D.nx Z H)\/((Itl K a).go i H/\ ∃ N:St->Hp->Prop,(∀ Z' H',N Z' H'-> ∃ m',m'<m/\W (i+1) m' Z' H')/\ ∀ x H',(Itl K a).yld i H x H'->g x Z H' fun Z2 H2=>tb {D with nx:=N,ct:=N,bk:=D.nx} Z2 H2):=by
 refine ⟨fun i m Z H=>m=xs.length-i/\i<=xs.length/\Pv i Z H,⟨xs.length,by simp,Nat.zero_le _,h0⟩,?_⟩
 rintro i m Z H ⟨rfl,hi,p⟩
 have q:=hl i Z H hi p
 by_cases hlt:i<xs.length
 ·refine .inr ⟨⟨xs,xs[i],q,by simp [hlt]⟩,Pv (i+1),fun Z' H' p'=>⟨xs.length- (i+1),by lia,rfl,hlt,p'⟩,fun x H' y=>?_⟩
  obtain ⟨e,y⟩:=y
  subst e
  exact hs i x Z _ (y xs q) p
 ·have e:i=xs.length:=by lia
  subst e
  exact .inl ⟨⟨xs,q,Nat.le_refl _⟩,hd Z H p⟩
theorem eR {K:W.Frag} {a:Addr} {xs:List V} {g:TG} {tb:TS} {D:cH} {Z:St} {H:Hp} (Pv:Nat->St->Hp->Prop) (h0:Pv 0 Z H) (hl: ∀ i Z H,i<=xs.length->Pv i Z H->SqT K H a xs)
  (hs: ∀ i x Z H,xs[i]? =some x->Pv i Z H->g x Z H fun Z2 H2=>tb {D with nx:=Pv (i+1),ct:=Pv (i+1),bk:=D.nx} Z2 H2) (hd: ∀ Z H,Pv xs.length Z H->D.nx Z H):
  ∃ W:Nat->Nat->St->Hp->Prop,(∃ m,W 0 m Z H)/\ ∀ i m Z H,W i m Z H->
   ((Itt K a).stop i H/\D.nx Z H)\/((Itt K a).go i H/\ ∃ N:St->Hp->Prop,(∀ Z' H',N Z' H'-> ∃ m',m'<m/\W (i+1) m' Z' H')/\ ∀ x H',(Itt K a).yld i H x H'->g x Z H' fun Z2 H2=>tb {D with nx:=N,ct:=N,bk:=D.nx} Z2 H2):=by
 refine ⟨fun i m Z H=>m=xs.length-i/\i<=xs.length/\Pv i Z H,⟨xs.length,by simp,Nat.zero_le _,h0⟩,?_⟩
 rintro i m Z H ⟨rfl,hi,p⟩
 have q:=hl i Z H hi p
 by_cases hlt:i<xs.length
 ·refine .inr ⟨⟨xs,xs[i],q,by simp [hlt]⟩,Pv (i+1),fun Z' H' p'=>⟨xs.length- (i+1),by lia,rfl,hlt,p'⟩,fun x H' y=>?_⟩
  obtain ⟨e,y⟩:=y
  subst e
  exact hs i x Z _ (y xs q) p
 ·have e:i=xs.length:=by lia
  subst e
  exact .inl ⟨⟨xs,q,Nat.le_refl _⟩,hd Z H p⟩
theorem cB {lo:Int} {n:Nat} {g:TG} {tb:TS} {D:cH} {Z:St} {H:Hp} (Pv:Nat->St->Hp->Prop) (h0:Pv 0 Z H)
  (hs: ∀ i Z H,i<n->Pv i Z H->g (.int (lo+i)) Z H fun Z2 H2=>tb {D with nx:=Pv (i+1),ct:=Pv (i+1),bk:=D.nx} Z2 H2) (hd: ∀ Z H,Pv n Z H->D.nx Z H):
  ∃ W:Nat->Nat->St->Hp->Prop,(∃ m,W 0 m Z H)/\ ∀ i m Z H,W i m Z H->
   ((Itr lo n).stop i H/\D.nx Z H)\/((Itr lo n).go i H/\ ∃ N:St->Hp->Prop,(∀ Z' H',N Z' H'-> ∃ m',m'<m/\W (i+1) m' Z' H')/\ ∀ x H',(Itr lo n).yld i H x H'->g x Z H' fun Z2 H2=>tb {D with nx:=N,ct:=N,bk:=D.nx} Z2 H2):=by
 refine ⟨fun i m Z H=>m=n-i/\i<=n/\Pv i Z H,⟨n,by simp,Nat.zero_le _,h0⟩,?_⟩
 rintro i m Z H ⟨rfl,hi,p⟩
 by_cases hlt:i<n
 ·refine .inr ⟨hlt,Pv (i+1),fun Z' H' p'=>⟨n- (i+1),by lia,rfl,hlt,p'⟩,fun x H' y=>?_⟩
  obtain ⟨e,y⟩:=y
  subst e y
  exact hs i Z _ hlt p
 ·have e:i=n:=by lia
  subst e
  exact .inl ⟨Nat.le_refl _,hd Z H p⟩
theorem nH {c:TT} {tb:TS} {D:cH} {Z:St} {H:Hp} (Pv:St->Hp->Prop) (μ:St->Hp->Nat) (h0:Pv Z H)
  (hs: ∀ Z H,Pv Z H->c Z H fun b H1=>if b=true then tb {D with nx:=fun Z' H'=>Pv Z' H'/\μ Z' H'<μ Z H,ct:=fun Z' H'=>Pv Z' H'/\μ Z' H'<μ Z H,bk:=D.nx} Z H1 else D.nx Z H1)
  (mono: ∀ Z H Q Q',(∀ b H1,Q b H1->Q' b H1)->c Z H Q->c Z H Q'):pp c tb D Z H:=by
 refine ⟨fun m Z H=>m=μ Z H/\Pv Z H,⟨_,rfl,h0⟩,?_⟩
 rintro m Z H ⟨rfl,p⟩
 refine mono Z H _ _ (fun b H1 q=>?_) (hs Z H p)
 cases b with
 | true=>exact ⟨_,fun Z' H' ⟨p',l⟩=>⟨_,l,rfl,p'⟩,q⟩
 | false=>exact q
abbrev R2:=V->V->Hp->VK->Prop
def OpR (X:Cx) (f:Value->Value->Sem Value) (r:R2):Prop:=
 ∀ (pins:List (Addr×Obj)) (s:Shared) (Z:St) (H:Hp) (x y:V) (v u:Value) (Q:VK),Inv X pins Z H s->RelV x v->RelV y u->r x y H Q->
  wpAny (model X.prog X.w) X.A (f v u) (EP X pins Z Q) X.xe s
def UnR (X:Cx) (f:Value->Sem Value) (r:V->Hp->VK->Prop):Prop:=
 ∀ (pins:List (Addr×Obj)) (s:Shared) (Z:St) (H:Hp) (x:V) (v:Value) (Q:VK),Inv X pins Z H s->RelV x v->r x H Q->
  wpAny (model X.prog X.w) X.A (f v) (EP X pins Z Q) X.xe s
def eG (X:Cx) (f:Value) (r:List V->Hp->VK->Prop):Prop:=
 ∀ (pins:List (Addr×Obj)) (s:Shared) (Z:St) (H:Hp) (xs:List V) (us:List Value) (Q:VK),Inv X pins Z H s->Vals xs us->r xs H Q->
  wpAny (model X.prog X.w) X.A (call f us) (EP X pins Z Q) X.xe s
def AW (X:Cx) (r:V->Hp->(Bool->Hp->Prop)->Prop):Prop:=
 ∀ (pins:List (Addr×Obj)) (s:Shared) (Z:St) (H:Hp) (x:V) (v:Value) (Q:Bool->Hp->Prop),Inv X pins Z H s->RelV x v->r x H Q->
  wpAny (model X.prog X.w) X.A (truthy v) (TP X pins Z Q) X.xe s
def tOp (r:R2) (ta tb:TE):TE:=fun Z H Q=>ta Z H fun x H1=>tb Z H1 fun y H2=>r x y H2 Q
def tUn (r:V->Hp->VK->Prop) (ta:TE):TE:=fun Z H Q=>ta Z H fun x H1=>r x H1 Q
inductive rI (C:Int->Int->Prop) (g:Int->Int->V) (x:V) (y:V) (H:Hp) (Q:VK):Prop
 | mk: ∀ i j,(x=.int i)->(y=.int j)->(C i j)->(Q (g i j) H)->rI C g x y H Q
inductive rI0 (g:Int->Int->V) (x:V) (y:V) (H:Hp) (Q:VK):Prop
 | mk: ∀ i j,(x=.int i)->(y=.int j)->(Q (g i j) H)->rI0 g x y H Q
inductive rU (g:Int->V) (x:V) (H:Hp) (Q:VK):Prop
 | mk: ∀ i,(x=.int i)->(Q (g i) H)->rU g x H Q
section
variable {X:Cx} {a b c:Expr} {ta tb tc:TE} {pos:Pos}
theorem zm (ha:PE X a ta) (hb:PE X b tb) {pins:List (Addr×Obj)} {s:Shared} {Z:St} {H:Hp} {R:V->V->Hp->Prop} (I:Inv X pins Z H s)
  (h:ta Z H fun x H1=>tb Z H1 fun y H2=>R x y H2) {Q:Value->Shared->Prop} {f:Value->Value->Sem Value}
  (hf: ∀ v u s2 x y H2,Inv X pins Z H2 s2->RelV x v->RelV y u->R x y H2->wpAny (model X.prog X.w) X.A (f v u) Q X.xe s2):
  wpAny (model X.prog X.w) X.A (eval a X.env) (fun v s₁=>wpAny (model X.prog X.w) X.A (eval b X.env) (fun u s₂=>wpAny (model X.prog X.w) X.A (f v u) Q X.xe s₂) X.xe s₁) X.xe s:=by
 refine thn (ha pins s Z H _ I h) fun v s1 ⟨x,H1,I1,r1,q1⟩=>?_
 refine thn (hb pins s1 Z H1 _ I1 q1) fun u s2 ⟨y,H2,I2,r2,q2⟩=>?_
 exact hf v u s2 x y H2 I2 r1 r2 q2
theorem aE {op:Operator} {r:R2} (ho:OpR X (binaryOp op) r) (ha:PE X a ta) (hb:PE X b tb):PE X (.BinOp a op b pos) (tOp r ta tb):=by
 intro pins s Z H Q I h
 exact wpAny_BinOp (zm ha hb I h fun v u s2 x y H2 I2 rx ry q=>ho pins s2 Z H2 x y v u Q I2 rx ry q)
theorem dY {op:UnaryOp} {r:V->Hp->VK->Prop} (ho:UnR X (unaryOp op) r) (ha:PE X a ta):PE X (.UnaryOp op a pos) (tUn r ta):=by
 intro pins s Z H Q I h
 exact UnaryOp_ (thn (ha pins s Z H _ I h) fun v s1 ⟨x,H1,I1,r1,q1⟩=>ho pins s1 Z H1 x v Q I1 r1 q1)
theorem opI {f:Value->Value->Sem Value} {C:Int->Int->Prop} {g:Int->Int->Int}
  (rule: ∀ (i j:Int) (t u:Tok) (s:Shared) (Q:Value->Shared->Prop) (E:Value->Shared->Prop),C i j->Q (.int (g i j) s.toks) {s with toks:=s.toks+1}->wpAny (model X.prog X.w) X.A (f (.int i t) (.int j u)) Q E s):
  OpR X f (rI C fun i j=>.int (g i j)):=by
 intro pins s Z H x y v u Q I rx ry h
 obtain ⟨i,j,rfl,rfl,hc,q⟩:=h
 obtain ⟨t,rfl⟩:=rx
 obtain ⟨t',rfl⟩:=ry
 exact rule i j t t' s _ _ hc ⟨.int (g i j),H,I.tok _,⟨_,rfl⟩,q⟩
theorem zV {f:Value->Value->Sem Value} {g:Int->Int->Int}
  (rule: ∀ (i j:Int) (t u:Tok) (s:Shared) (Q:Value->Shared->Prop) (E:Value->Shared->Prop),Q (.int (g i j) s.toks) {s with toks:=s.toks+1}->wpAny (model X.prog X.w) X.A (f (.int i t) (.int j u)) Q E s):
  OpR X f (rI0 fun i j=>.int (g i j)):=by
 intro pins s Z H x y v u Q I rx ry h
 obtain ⟨i,j,rfl,rfl,q⟩:=h
 obtain ⟨t,rfl⟩:=rx
 obtain ⟨t',rfl⟩:=ry
 exact rule i j t t' s _ _ ⟨.int (g i j),H,I.tok _,⟨_,rfl⟩,q⟩
theorem yD {f:Value->Value->Sem Value} {g:Int->Int->Bool}
  (rule: ∀ (i j:Int) (t u:Tok) (s:Shared) (Q:Value->Shared->Prop) (E:Value->Shared->Prop),Q (.bool (g i j)) s->wpAny (model X.prog X.w) X.A (f (.int i t) (.int j u)) Q E s):
  OpR X f (rI0 fun i j=>.bl (g i j)):=by
 intro pins s Z H x y v u Q I rx ry h
 obtain ⟨i,j,rfl,rfl,q⟩:=h
 obtain ⟨t,rfl⟩:=rx
 obtain ⟨t',rfl⟩:=ry
 exact rule i j t t' s _ _ ⟨.bl (g i j),H,I,rfl,q⟩
def A1 (i j:Int):Prop:=0<j/\j<1073741824
def A0 (i j:Int):Prop:=0<=j/\j<=1000000/\i.natAbs<2^64
def CMul (i j:Int):Prop:=(-(2^64) <i/\i<2^64)\/(-(2^64) <j/\j<2^64)
theorem CMul.ok {i j:Int} (h:CMul i j):IntMulOk i j:=by
 rcases h with ⟨h1,h2⟩ | ⟨h1,h2⟩
 ·exact .of_left (intBits_le_64 h1 h2)
 ·exact .of_right (intBits_le_64 h1 h2)
theorem bf:OpR X (binaryOp .Add) (rI0 fun i j=>.int (i+j)):=zV fun _ _ _ _ _ _ _ q=>add_int q
theorem fD:OpR X (binaryOp .Sub) (rI0 fun i j=>.int (i-j)):=zV fun _ _ _ _ _ _ _ q=>sub_int q
theorem dF:OpR X (binaryOp .Mult) (rI CMul fun i j=>.int (i*j)):=opI fun _ _ _ _ _ _ _ hc q=>mul_int q hc.ok
theorem mY:OpR X (binaryOp .FloorDiv) (rI A1 fun i j=>.int (i/j)):=opI fun i j _ _ _ _ _ hc q=>by
 have h1:(0:Int) <j:=hc.1
 have h2:j<1073741824:=hc.2
 exact floordiv_int (by lia) (by rw [Int.fdiv_eq_ediv_of_nonneg i (by lia)];exact q) (.inl (PyProof.noPylong_small (by lia)))
theorem cM:OpR X (binaryOp .Mod) (rI (fun _ j=>0<j) fun i j=>.int (i%j)):=opI fun i j _ _ _ _ _ hc q=>by
 have h1:(0:Int) <j:=hc
 exact mod_int' (by lia) (by rw [Int.fmod_eq_emod_of_nonneg i (by lia)];exact q)
theorem yx:OpR X (binaryOp .Pow) (rI A0 fun i j=>.int (i^j.toNat)):=opI fun _ _ _ _ _ _ _ hc q=>pow_int_small hc.1 hc.2.1 hc.2.2 q
theorem unI {f:Value->Sem Value} {g:Int->Int}
  (rule: ∀ (i:Int) (t:Tok) (s:Shared) (Q:Value->Shared->Prop) (E:Value->Shared->Prop),Q (.int (g i) s.toks) {s with toks:=s.toks+1}->wpAny (model X.prog X.w) X.A (f (.int i t)) Q E s):
  UnR X f (rU fun i=>.int (g i)):=by
 intro pins s Z H x v Q I rx h
 obtain ⟨i,rfl,q⟩:=h
 obtain ⟨t,rfl⟩:=rx
 exact rule i t s _ _ ⟨.int (g i),H,I.tok _,⟨_,rfl⟩,q⟩
theorem c7:UnR X (unaryOp .USub) (rU fun i=>.int (-i)):=unI fun _ _ _ _ _ q=>neg_int q
end
noncomputable def zG:V->V->Bool
 | .non,.non=>true | .non,.int _=>true | .int _,.non=>true | .non,.bl _=>true | .bl _,.non=>true | .non,.str _=>true | .str _,.non=>true
 | .int _,.int _=>true | .bl _,.bl _=>true | .str _,.str _=>true | .byt _,.byt _=>true
 | .int _,.str _=>true | .str _,.int _=>true | .bl _,.str _=>true | .str _,.bl _=>true
 | _,_=>false
def rEq:R2:=fun x y H Q=>zG x y=true/\Q (.bl (decide (x=y))) H
def rNe:R2:=fun x y H Q=>zG x y=true/\Q (.bl (!decide (x=y))) H
theorem rJ {i j:Int}:decide (V.int i=V.int j)=(i==j):=by
 rw [Bool.eq_iff_iff]
 simp
theorem vW {i j:Bool}:decide (V.bl i=V.bl j)=(i==j):=by
 rw [Bool.eq_iff_iff]
 simp
theorem rH {i j:Str}:decide (V.str i=V.str j)=(i==j):=by
 rw [Bool.eq_iff_iff]
 simp
theorem rK {i j:Array UInt8}:decide (V.byt i=V.byt j)=(i.toList==j.toList):=by
 rw [Bool.eq_iff_iff]
 cases i
 cases j
 simp
section
variable {X:Cx} {a b c:Expr} {ta tb tc:TE} {pos:Pos}
theorem a8 {pins:List (Addr×Obj)} {Z:St} {H:Hp} {s:Shared} {Q:VK} {k k':Bool} (I:Inv X pins Z H s) (q:Q (.bl k) H) (e:k=k'):EP X pins Z Q (.bool k') s:=by
 subst e
 exact ⟨.bl k,H,I,rfl,q⟩
theorem bq:OpR X (compareOp .Eq) rEq:=by
 intro pins s Z H x y v u Q I rx ry h
 obtain ⟨hs,q⟩:=h
 cases x with
 | non=>
  cases rx
  cases y with
  | non=>cases ry;exact PySem.EqNone.eq_none_none (a8 I q (by simp))
  | bl j=>cases ry;exact PySem.EqNone.eq_none_bool (a8 I q (by simp))
  | int j=>obtain ⟨t',rfl⟩:=ry;exact PySem.EqNone.eq_none_int (a8 I q (by simp))
  | str j=>obtain ⟨t',rfl⟩:=ry;exact PySem.EqNone.eq_none_str (a8 I q (by simp))
  | _=>exact absurd (show false=true from hs) Bool.false_ne_true
 | bl i=>
  cases rx
  cases y with
  | non=>cases ry;exact PySem.EqNone.eq_bool_none (a8 I q (by simp))
  | bl j=>cases ry;exact eq_bool (a8 I q vW)
  | str j=>obtain ⟨t',rfl⟩:=ry;exact PySem.EqMixed.eq_bool_str (a8 I q (by simp))
  | _=>exact absurd (show false=true from hs) Bool.false_ne_true
 | int i=>
  obtain ⟨t,rfl⟩:=rx
  cases y with
  | non=>cases ry;exact PySem.EqNone.eq_int_none (a8 I q (by simp))
  | int j=>obtain ⟨t',rfl⟩:=ry;exact eq_int (a8 I q rJ)
  | str j=>obtain ⟨t',rfl⟩:=ry;exact PySem.EqMixed.eq_int_str (a8 I q (by simp))
  | _=>exact absurd (show false=true from hs) Bool.false_ne_true
 | str i=>
  obtain ⟨t,rfl⟩:=rx
  cases y with
  | non=>cases ry;exact PySem.EqNone.eq_str_none (a8 I q (by simp))
  | bl j=>cases ry;exact PySem.EqMixed.eq_str_bool (a8 I q (by simp))
  | int j=>obtain ⟨t',rfl⟩:=ry;exact PySem.EqMixed.eq_str_int (a8 I q (by simp))
  | str j=>obtain ⟨t',rfl⟩:=ry;exact eq_str (a8 I q rH)
  | _=>exact absurd (show false=true from hs) Bool.false_ne_true
 | byt i=>
  obtain ⟨t,rfl⟩:=rx
  cases y with
  | byt j=>obtain ⟨t',rfl⟩:=ry;exact PySem.W.eq_bytes (a8 I q rK)
  | _=>exact absurd (show false=true from hs) Bool.false_ne_true
 | _=>cases y <;> exact absurd (show false=true from hs) Bool.false_ne_true
theorem zU:OpR X (compareOp .NotEq) rNe:=by
 intro pins s Z H x y v u Q I rx ry h
 obtain ⟨hs,q⟩:=h
 cases x with
 | non=>
  cases rx
  cases y with
  | non=>cases ry;exact PySem.EqNone.ne_none_none (a8 I q (by simp))
  | bl j=>cases ry;exact PySem.EqNone.ne_none_bool (a8 I q (by simp))
  | int j=>obtain ⟨t',rfl⟩:=ry;exact PySem.EqNone.ne_none_int (a8 I q (by simp))
  | str j=>obtain ⟨t',rfl⟩:=ry;exact PySem.EqNone.ne_none_str (a8 I q (by simp))
  | _=>exact absurd (show false=true from hs) Bool.false_ne_true
 | bl i=>
  cases rx
  cases y with
  | non=>cases ry;exact PySem.EqNone.ne_bool_none (a8 I q (by simp))
  | bl j=>cases ry;exact ne_bool (a8 I q (congrArg not vW))
  | str j=>obtain ⟨t',rfl⟩:=ry;exact PySem.EqMixed.ne_bool_str (a8 I q (by simp))
  | _=>exact absurd (show false=true from hs) Bool.false_ne_true
 | int i=>
  obtain ⟨t,rfl⟩:=rx
  cases y with
  | non=>cases ry;exact PySem.EqNone.ne_int_none (a8 I q (by simp))
  | int j=>obtain ⟨t',rfl⟩:=ry;exact ne_int (a8 I q (congrArg not rJ))
  | str j=>obtain ⟨t',rfl⟩:=ry;exact PySem.EqMixed.ne_int_str (a8 I q (by simp))
  | _=>exact absurd (show false=true from hs) Bool.false_ne_true
 | str i=>
  obtain ⟨t,rfl⟩:=rx
  cases y with
  | non=>cases ry;exact PySem.EqNone.ne_str_none (a8 I q (by simp))
  | bl j=>cases ry;exact PySem.EqMixed.ne_str_bool (a8 I q (by simp))
  | int j=>obtain ⟨t',rfl⟩:=ry;exact PySem.EqMixed.ne_str_int (a8 I q (by simp))
  | str j=>obtain ⟨t',rfl⟩:=ry;exact ne_str (a8 I q (congrArg not rH))
  | _=>exact absurd (show false=true from hs) Bool.false_ne_true
 | byt i=>
  obtain ⟨t,rfl⟩:=rx
  cases y with
  | byt j=>obtain ⟨t',rfl⟩:=ry;exact PySem.W.ne_bytes (a8 I q (congrArg not rK))
  | _=>exact absurd (show false=true from hs) Bool.false_ne_true
 | _=>cases y <;> exact absurd (show false=true from hs) Bool.false_ne_true
theorem fK:OpR X (compareOp .Lt) (rI0 fun i j=>.bl (decide (i<j))):=yD fun _ _ _ _ _ _ _ q=>lt_int q
theorem iB:OpR X (compareOp .Gt) (rI0 fun i j=>.bl (decide (j<i))):=yD fun _ _ _ _ _ _ _ q=>gt_int q
theorem xO:OpR X (compareOp .GtE) (rI0 fun i j=>.bl (decide (j<=i))):=yD fun _ _ _ _ _ _ _ q=>ge_int q
theorem ay (b:Expr) {op:CmpOp} (h:op≠ .In:=by decide) (h2:op≠ .NotIn:=by decide):behindInMarks op b=false:=by
 have e1:(op==CmpOp.In)=false:=by cases op <;> first | rfl | exact absurd rfl h
 have e2:(op==CmpOp.NotIn)=false:=by cases op <;> first | rfl | exact absurd rfl h2
 cases b <;> simp [behindInMarks,e1,e2]
theorem a7 {op:CmpOp} {r:R2} (ho:OpR X (compareOp op) r) (ha:PE X a ta) (hb:PE X b tb) (hm:behindInMarks op b=false):PE X (.Compare a [op] [b] pos) (tOp r ta tb):=by
 intro pins s Z H Q I h
 exact wpAny_Compare1 (zm ha hb I h fun v u s2 x y H2 I2 rx ry q=>ho pins s2 Z H2 x y v u Q I2 rx ry q) hm
def xI (t:TE):TT:=fun Z H Q=>t Z H fun x H'=>rBl x H' Q
theorem aw {op:CmpOp} {r:R2} (ho:OpR X (compareOp op) r) (ha:PE X a ta) (hb:PE X b tb) (hm:behindInMarks op b=false):PT X (.Compare a [op] [b] pos) (xI (tOp r ta tb)):=by
 intro pins s Z H Q I h
 refine wpAny_isTrue_Compare1 (thn (ha pins s Z H _ I h) fun v s1 ⟨x,H1,I1,r1,q1⟩=>thn (hb pins s1 Z H1 _ I1 q1) fun u s2 ⟨y,H2,I2,r2,q2⟩=>
  thn (ho pins s2 Z H2 x y v u _ I2 r1 r2 q2) fun c s3 ⟨z,H3,I3,r3,k,e,q3⟩=>?_) hm
 subst e
 cases r3
 exact wpAny_truthy_bool ⟨H3,I3,q3⟩
def x6 (r r':R2) (ta tb tc:TE):TE:=fun Z H Q=>ta Z H fun x H1=>tb Z H1 fun y H2=>r x y H2 fun z H3=> ∃ k,z=.bl k/\
 (if k=true then tc Z H3 fun w' H4=>r' y w' H4 Q else Q (.bl false) H3)
theorem uN {op op':CmpOp} {r r':R2} (ho:OpR X (compareOp op) r) (ho':OpR X (compareOp op') r') (ha:PE X a ta) (hb:PE X b tb) (hc:PE X c tc)
  (hm:lastMarks [op,op'] [b,c]=false:=by with_unfolding_all rfl):PT X (.Compare a [op,op'] [b,c] pos) (xI (x6 r r' ta tb tc)):=by
 intro pins s Z H Q I h
 refine isTrue_chain (thn (ha pins s Z H _ I h) fun v s1 ⟨x,H1,I1,r1,q1⟩=>test_link (thn (hb pins s1 Z H1 _ I1 q1) fun u s2 ⟨y,H2,I2,r2,q2⟩=>
  thn (ho pins s2 Z H2 x y v u _ I2 r1 r2 q2) fun d s3 ⟨z,H3,I3,r3,k,e,q3⟩=>?_)) hm
 subst e
 cases r3
 refine wpAny_truthy_bool ?_
 cases k with
 | false=>
  obtain ⟨k',e',q'⟩:=q3
  cases e'
  exact ite_ff ⟨H3,I3,q'⟩
 | true=>
  refine ite_tt (test_last (thn (hc pins s3 Z H3 _ I3 q3) fun w' s4 ⟨z',H4,I4,r4,q4⟩=>thn (ho' pins s4 Z H4 y z' u w' _ I4 r2 r4 q4) fun d' s5 ⟨z2,H5,I5,r5,k2,e2,q5⟩=>?_))
  subst e2
  cases r5
  exact wpAny_truthy_bool ⟨H5,I5,q5⟩
def Aq (K:W.Frag) (x:V) (H:Hp) (k:Bool):Prop:=
 match x with
 | .non=>k=false
 | .bl b=>k=b
 | .int i=>k=(i !=0)
 | .str y=>y.length<=sizeLine/\k=((y.length:Int)!=0)
 | .byt y=>y.size<=sizeLine/\k=((y.size:Int)!=0)
 | .ref p=>(∃ xs,SqL K H p xs/\k= !xs.isEmpty)\/(∃ xs,SqT K H p xs/\k= !xs.isEmpty)\/ ∃ kvs,H p=some (.dK kvs)/\k= !kvs.isEmpty
 | _=>False
theorem ql {κ:Type} {kvs:List (κ×V)} {vs:List (κ×Value)} (r:KV kvs vs):(!vs.isEmpty)= !kvs.isEmpty:=by
 cases r <;> rfl
theorem j8 {xs:List V} {its:List Value} (r:Vals xs its):(!its.toArray.isEmpty)= !xs.isEmpty:=by
 cases r <;> simp
theorem ja:(sizeLine:Nat) <2^63:=by rw [sizeLine_eq];decide
theorem xU:AW X (fun x H Q=> ∃ k,Aq X.K x H k/\Q k H):=by
 intro pins s Z H x v Q I rx h
 obtain ⟨k,e,q⟩:=h
 have hl:=ja
 have hs:sizeLine=16777216:=sizeLine_eq
 cases x with
 | non=>
  cases rx
  have e':k=false:=e
  subst e'
  exact truthy_none ⟨H,I,q⟩
 | bl b=>
  cases rx
  have e':k=b:=e
  subst e'
  exact wpAny_truthy_bool ⟨H,I,q⟩
 | int i=>
  obtain ⟨t,rfl⟩:=rx
  have e':k=(i !=0):=e
  subst e'
  exact PySem.P.truthy_int ⟨H,I,q⟩
 | str y=>
  obtain ⟨t,rfl⟩:=rx
  obtain ⟨hy,e'⟩:y.length<=sizeLine/\k=((y.length:Int)!=0):=e
  subst e'
  exact PySem.P.truthy_str (by lia) ⟨H,I.tok _,q⟩
 | byt y=>
  obtain ⟨t,rfl⟩:=rx
  obtain ⟨hy,e'⟩:y.size<=sizeLine/\k=((y.size:Int)!=0):=e
  subst e'
  exact PySem.W.truthy_bytes (by lia) ⟨H,I.tok _,q⟩
 | ref p=>
  cases rx
  have e':(∃ xs,SqL X.K H p xs/\k= !xs.isEmpty)\/(∃ xs,SqT X.K H p xs/\k= !xs.isEmpty)\/ ∃ kvs,H p=some (.dK kvs)/\k= !kvs.isEmpty:=e
  rcases e' with ⟨xs,hx,e'⟩ | ⟨xs,hx,e'⟩ | ⟨kvs,hx,e'⟩
  ·subst e'
   obtain ⟨its,r,pl,hz⟩:=I.list hx
   have hlen:=r.length
   exact wpAny_truthy_list pl.isList (by simp only [List.size_toArray];lia) ⟨H,I.tok _,by rw [j8 r];exact q⟩
  ·subst e'
   obtain ⟨its,r,pl,hz⟩:=I.tuple hx
   have hlen:=r.length
   exact truthy_tuple pl (by simp only [List.size_toArray];lia) ⟨H,I.tok _,by rw [j8 r];exact q⟩
  ·subst e'
   obtain ⟨hz,hS,vs,r,m⟩:kvs.length<=sizeLine/\(p==sysModules)=false/\ ∃ vs,KV kvs vs/\s.heap.DictOf (bd X.prog X.w) p vs:=I.hok p _ hx
   have hlen:kvs.length=vs.length:=Paired.length r
   exact wpAny_truthy_dict hS m (by lia) ⟨H,I.tok _,by rw [ql r];exact q⟩
 | _=>exact (show False from e).elim
theorem jV (ha:PE X a ta) (he: ∀ whole,isTrue a X.env whole=(do let v <- whole;standAt a.pos;holding [v] (truthy v))):
  PT X a (fun Z H Q=>ta Z H fun x H'=> ∃ k,Aq X.K x H' k/\Q k H'):=by
 intro pins s Z H Q I h
 exact isTrue_plain (thn (ha pins s Z H _ I h) fun v s1 ⟨x,H1,I1,r1,q1⟩=>xU pins s1 Z H1 x v Q I1 r1 q1) (he _)
theorem ic:OpR X (binaryOp .Add) (fun x y H Q=> ∃ i j,x=.str i/\y=.str j/\i.length+j.length<=sizeLine/\Q (.str (i++j)) H):=by
 intro pins s Z H x y v u Q I rx ry h
 obtain ⟨i,j,rfl,rfl,hz,q⟩:=h
 obtain ⟨t,rfl⟩:=rx
 obtain ⟨t',rfl⟩:=ry
 exact add_str (fun t' tk=>⟨.str (i++j),H,I.tok _,⟨_,rfl⟩,q⟩) hz
theorem fO {x:V} {us:List Value} (r:Vals [x] us): ∃ u,us=[u]/\RelV x u:=by
 cases r with
 | cons r1 r2=>cases r2;exact ⟨_,rfl,r1⟩
theorem qI {x y:V} {us:List Value} (r:Vals [x,y] us): ∃ u w',us=[u,w']/\RelV x u/\RelV y w':=by
 cases r with
 | cons r1 r2=>
  cases r2 with
  | cons r3 r4=>cases r4;exact ⟨_,_,rfl,r1,r3⟩
theorem lN (hc:X.calm=true):eG X (.builtin "max") (fun xs H Q=> ∃ i j,xs=[.int i,.int j]/\Q (.int (if j>i then j else i)) H):=by
 intro pins s Z H xs us Q I r h
 obtain ⟨i,j,rfl,q⟩:=h
 obtain ⟨u,w',rfl,⟨t,rfl⟩,⟨t',rfl⟩⟩:=qI r
 refine max_two_ints (I.ok.hd hc) fun h' tk k=>⟨_,H,I.kept k,?_,q⟩
 by_cases hj:j>i
 ·rw [if_pos hj,if_pos hj];exact ⟨_,rfl⟩
 ·rw [if_neg hj,if_neg hj];exact ⟨_,rfl⟩
theorem je (hc:X.calm=true):eG X (.builtin "min") (fun xs H Q=> ∃ i j,xs=[.int i,.int j]/\Q (.int (if j<i then j else i)) H):=by
 intro pins s Z H xs us Q I r h
 obtain ⟨i,j,rfl,q⟩:=h
 obtain ⟨u,w',rfl,⟨t,rfl⟩,⟨t',rfl⟩⟩:=qI r
 refine min_two_ints (I.ok.hd hc) fun h' tk k=>⟨_,H,I.kept k,?_,q⟩
 by_cases hj:j<i
 ·rw [if_pos hj,if_pos hj];exact ⟨_,rfl⟩
 ·rw [if_neg hj,if_neg hj];exact ⟨_,rfl⟩
theorem ft:eG X (.type "int") (fun xs H Q=>(∃ i,xs=[.int i]/\Q (.int i) H)\/ ∃ k,xs=[.bl k]/\Q (.int (if k then 1 else 0)) H):=by
 intro pins s Z H xs us Q I r h
 rcases h with ⟨i,rfl,q⟩ | ⟨k,rfl,q⟩
 ·obtain ⟨u,rfl,t,rfl⟩:=fO r
  exact call_int_int ⟨.int i,H,I,⟨_,rfl⟩,q⟩
 ·obtain ⟨u,rfl,r1⟩:=fO r
  cases r1
  exact call_int_bool ⟨.int (if k then 1 else 0),H,I.tok _,⟨_,rfl⟩,q⟩
end
structure ObjM (h:Heap) (x dx C:Addr) (mA:Str->Option Value):Prop where
 obj:h.get? x=some (PySem.W.instObj C dx)
 ns:h.Ns1 dx mA
 ne:dx≠x
theorem tG {h:Heap} {dx:Addr} {mA:Str->Option Value} (n:h.Ns1 dx mA): ∃ od,h.get? dx=some od/\ ∀ name,PySem.W.lookIn name od=some (mA name):=by
 obtain ⟨o,es,ep,ho,hd,hk,_,hm⟩:=n
 refine ⟨o,ho,fun name=>?_⟩
 have e:=hm name
 unfold nsFind findBy at e
 rw [<- Array.find?_toList]at e
 unfold PySem.W.lookIn
 rw [hd]
 dsimp only
 split
 ·rename_i y q
  rw [q]at e
  exact congrArg some e
 ·rename_i q
  rw [q]at e
  have a:es.toList.any (·.refKey)=false:=by
   rw [List.any_eq_false]
   intro y hy
   obtain ⟨z,t,hkey⟩:=hk y (Array.mem_toList_iff.mp hy)
   simp [DictEntry.refKey,hkey]
  have a': ¬ es.toList.any (·.refKey)=true:=by rw [a];exact Bool.false_ne_true
  rw [if_neg a']
  exact congrArg some e
theorem ObjM.look {h:Heap} {x dx C:Addr} {mA:Str->Option Value} (I:ObjM h x dx C mA): ∃ od,PySem.W.InstAt h x (PySem.W.instObj C dx) C (some od)/\ ∀ name,PySem.W.lookIn name od=some (mA name):=
 let ⟨od,ho,hl⟩:=tG I.ns
 ⟨od,⟨I.obj,rfl,rfl,ho⟩,hl⟩
theorem RelO.some_of {v:V} {o:Option Value} (r:RelO (some v) o): ∃ u,o=some u/\RelV v u:=by
 cases o with
 | none=>exact (show False from r).elim
 | some u=>exact ⟨u,rfl,r⟩
section
variable {P:Program} {w:World} {H H':Hp} {h h':Heap} {a C dx:Addr} {fs fs':List (Str×V)}
theorem xm (hok:HOk P w H h) (e:H a=some (.ins C dx fs)): ∃ mA,ObjM h a dx C mA/\(∀ f,RelO (fs.lookup f) (mA f))/\PySem.Within mA (fs.map (·.1))/\fs.length<=1000/\H dx=some (.own a):=by
 obtain ⟨d,z,ne,ob,mA,n,r,q⟩:=(show ObjOk P w H h a (.ins C dx fs)from hok a _ e)
 exact ⟨mA,⟨ob,n,ne⟩,r,q,z,d⟩
end
structure Cls (K:W.Frag) (C:Addr):Prop where
 pg:PySem.W.plainGet K C Str.empty=true
 hd:PySem.W.hasDictIn K C=true
 po:PySem.W.plainOver K C=true
 sa:PySem.W.findIn K (.ref C) "__setattr__"=some (some (.builtin "object.__setattr__"))
theorem Cls.get {K:W.Frag} {C:Addr} (c:Cls K C) (f:Str):PySem.W.plainGet K C f=true:=c.pg
section
variable {X:Cx} {pins:List (Addr×Obj)} {Z:St} {H:Hp} {s:Shared} {A:Around} {E:Value->Shared->Prop} {Q:Value->Shared->Prop} {c:Value} {b:Bool}
inductive iM (K:W.Frag) (H:Hp):V->Value->Prop where
 | non:iM K H .non (.type "NoneType")
 | bl (x:Bool):iM K H (.bl x) (.type "bool")
 | int (i:Int):iM K H (.int i) (.type "int")
 | str (x:Str):iM K H (.str x) (.type "str")
 | flt (x:UInt64):iM K H (.flt x) (.type "float")
 | lst {a:Addr} {xs:List V} (e:H a=some (.lst xs)):iM K H (.ref a) (.type "list")
 | frz {a:Addr} {o:Obj} {xs:List V} (e:H a=some (.frz o (.lst xs))):iM K H (.ref a) (.type "list")
 | tup {a:Addr} {xs:List V} (e:H a=some (.tup xs)):iM K H (.ref a) (.type "tuple")
 | dK {a:Addr} {kvs:List (Key×V)} (e:H a=some (.dK kvs)):iM K H (.ref a) (.type "dict")
 | dT {a:Addr} {kvs:List (List Key×V)} (e:H a=some (.dT kvs)):iM K H (.ref a) (.type "dict")
 | ins {a C dx:Addr} {fs:List (Str×V)} (e:H a=some (.ins C dx fs)) (cl:Cls K C) (ha:PySem.W.findIn K (.ref C) "__class__"=some (some (.builtin "object.__class__")))
   (hn:PySem.W.specialIn K (.builtin "object.__class__") "__get__"=some (some (.builtin "getset_descriptor.__get__"))) (htk:PySem.W.takesIn K (.builtin "object.__class__")=some true)
   (hm:PySem.W.mroIn K C (.type "object")=some true):iM K H (.ref a) (.ref C)
theorem tL {x:V} {u t:Value} (I:Inv X pins Z H s) (rx:RelV x u) (ty:iM X.K H x t) (e:PySem.W.kitOne X.K t c=some b) (h: ∀ tk,Q (.bool b) {s with toks:=tk}):
  wpAny (model X.prog X.w) A (call (.builtin "isinstance") [u,c]) Q E s:=by
 cases ty with
 | non=>cases (show u=Value.none from rx);exact PySem.W.kia_one PySem.W.kitx_none I.kIn True.intro e (fun z=>nomatch z) h
 | bl y=>cases (show u=Value.bool y from rx);exact PySem.W.kia_one PySem.W.kitx_bool I.kIn True.intro e (fun z=>nomatch z) h
 | int i=>obtain ⟨t,q⟩:=(show ∃ t,u=Value.int i t from rx);cases q;exact PySem.W.kia_one PySem.W.kitx_int I.kIn True.intro e (fun z=>nomatch z) h
 | str y=>obtain ⟨t,q⟩:=(show ∃ t,u=Value.str y t from rx);cases q;exact PySem.W.kia_one PySem.W.kitx_str I.kIn True.intro e (fun z=>nomatch z) h
 | flt y=>obtain ⟨t,q⟩:=(show ∃ t,u=Value.float y t from rx);cases q;exact PySem.W.kia_one PySem.W.kitx_float I.kIn True.intro e (fun z=>nomatch z) h
 | @lst a xs ea=>
  cases (show u=Value.ref a from rx)
  obtain ⟨_,_,n,_,h1⟩:=(show ObjOk X.prog X.w H s.heap a (.lst xs)from I.hok a _ ea)
  exact PySem.W.kia_one PySem.W.kitx_list I.kIn ⟨_,h1,rfl⟩ e (fun z=>nomatch z) h
 | @frz a ob xs ea=>
  cases (show u=Value.ref a from rx)
  obtain ⟨_,_,_,n,_,h1⟩:=(show ObjOk X.prog X.w H s.heap a (.frz ob (.lst xs))from I.hok a _ ea)
  exact PySem.W.kia_one PySem.W.kitx_list I.kIn ⟨_,h1,rfl⟩ e (fun z=>nomatch z) h
 | @tup a xs ea=>
  cases (show u=Value.ref a from rx)
  obtain ⟨_,_,_,p⟩:=(show ObjOk X.prog X.w H s.heap a (.tup xs)from I.hok a _ ea)
  obtain ⟨o,h1,h2,_⟩:=p
  exact PySem.W.kia_one PySem.W.kitx_tuple I.kIn ⟨o,h1,h2⟩ e (fun z=>nomatch z) h
 | @dK a kvs ea=>
  cases (show u=Value.ref a from rx)
  obtain ⟨_,_,vs,_,p⟩:=(show ObjOk X.prog X.w H s.heap a (.dK kvs)from I.hok a _ ea)
  obtain ⟨o,es,ep,h1,h2,_⟩:=p
  exact PySem.W.kia_one PySem.W.kitx_dict I.kIn ⟨o,h1,h2.1⟩ e (fun z=>nomatch z) h
 | @dT a kvs ea=>
  cases (show u=Value.ref a from rx)
  obtain ⟨_,_,xs,_,o,es,ep,h1,h2,_⟩:=(show ObjOk X.prog X.w H s.heap a (.dT kvs)from I.hok a _ ea)
  exact PySem.W.kia_one PySem.W.kitx_dict I.kIn ⟨o,h1,h2.1⟩ e (fun z=>nomatch z) h
 | @ins a C dx fs ea cl ha hn htk hm=>
  cases (show u=Value.ref a from rx)
  obtain ⟨mA,O,_⟩:=xm I.hok ea
  obtain ⟨od,J,_⟩:=O.look
  exact PySem.W.kia_one (PySem.W.kitx_own (cl.get _) cl.hd ha hn htk hm) I.kIn J e (fun z=>nomatch z) h
end
structure Room (k:Nat) (A:Around):Prop where
 hd:A.handled=none
 dp:A.depth+3*k+5<recursionLimit
 un:A.units+16*k+200<cLine
theorem Room.mono {j k:Nat} {A:Around} (r:Room k A) (h:j<=k):Room j A:=⟨r.hd,by have:=r.dp;lia,by have:=r.un;lia⟩
theorem Room.deeper {k:Nat} {A:Around} (r:Room (k+1) A) (env:Env):Room k (A.deeper env):=
 ⟨r.hd,by have:=r.dp;show A.depth+1+3*k+5<_;lia,by have:=r.un;show A.units+3+16*k+200<_;lia⟩
theorem Room.depth {k:Nat} {A:Around} (r:Room k A):A.depth<recursionLimit:=by have:=r.dp;lia
theorem Room.units {k:Nat} {A:Around} (r:Room k A):A.units+64<cLine:=by have:=r.un;lia
theorem Room.units0 {k:Nat} {A:Around} (r:Room k A):A.units<cLine:=by have:=r.un;lia
def rX:TA:=fun _ H Q=>Q [] H
def ir (ta:TE) (tr:TA):TA:=fun Z H Q=>ta Z H fun x H1=>tr Z H1 fun xs H2=>Q (x::xs) H2
section
variable {X:Cx} {e:Expr} {es:List Expr} {te:TE} {t:TA} {pos:Pos}
theorem ac:PA X [] rX:=fun _ _ _ _ H Q I h=>Calls.spliced_nil ⟨[],H,I,.nil,h⟩
theorem aa (ha:PE X e te) (hr:PA X es t) (hs:starEach (e::es) X.env=(false,eval e X.env)::starEach es X.env:=by rfl):PA X (e::es) (ir te t):=by
 intro pos pins s Z H Q I h
 rw [hs]
 show wpAny _ _ (spliced ((false,eval e X.env)::backTo pos (starEach es X.env))) _ _ s
 refine Calls.spliced_cons (thn (ha pins s Z H _ I h) fun u s1 ⟨x,H1,I1,r1,q1⟩=>?_)
 exact thn (hr pos pins s1 Z H1 _ I1 q1) fun us s2 ⟨xs,H2,I2,r2,q2⟩=>⟨x::xs,H2,I2,.cons r1 r2,q2⟩
def zB (t:TA):TE:=fun Z H Q=>t Z H fun xs H1=>xs.length<=sizeLine/\ ∀ p,H1 p=none->Q (.ref p) (upd H1 p (.tup xs))
def xY (t:TA):TE:=fun Z H Q=>t Z H fun xs H1=>xs.length<=sizeLine/\ ∀ p,H1 p=none->Q (.ref p) (upd H1 p (.lst xs))
theorem aP {x1} (h:PA X es t):PE X (.Tuple es x1 pos) (zB t):=by
 intro pins s Z H Q I hq
 refine wpAny_Tuple_spliced (thn (h pos pins s Z H _ I hq) fun us s1 ⟨xs,H1,I1,r,z,q⟩=>⟨by rw [<- r.length];exact z,?_⟩)
 have hf:H1 s1.heap.objs.size=none:=I1.hok.fresh (Nat.le_refl _)
 refine ⟨.ref s1.heap.objs.size,upd H1 s1.heap.objs.size (.tup xs),I1.laid (t':=s1.toks) (fun b u e=>Heap.get?_push_of_some _ e) (Nat.le_refl _) ?_,rfl,q _ hf⟩
 exact ⟨z,us,r,⟨_,Heap.get?_push_size _ rfl,rfl,_,rfl⟩⟩
theorem aU (h:PA X es t):PE X (.List es pos) (xY t):=by
 intro pins s Z H Q I hq
 refine wpAny_List_spliced (thn (h pos pins s Z H _ I hq) fun us s1 ⟨xs,H1,I1,r,z,q⟩=>⟨by rw [<- r.length];exact z,?_⟩)
 have hf:H1 s1.heap.objs.size=none:=I1.hok.fresh (Nat.le_refl _)
 refine ⟨.ref s1.heap.objs.size,upd H1 s1.heap.objs.size (.lst xs),I1.laid (t':=s1.toks) (fun b u e=>Heap.get?_push_of_some _ e) (Nat.le_refl _) ?_,rfl,q _ hf⟩
 exact ⟨z,us,0,r,Heap.get?_push_size _ rfl⟩
end
abbrev Sp:=List V->Hp->VK->XK->Prop
abbrev CXT:=List Env->Hp->Shared->XK->Value->Shared->Prop
structure xG (P:Program) (w:World) (K:W.Frag) (mg:Str->Option Value) (base:Heap) (A:Around) (outer:List Env) (s:Shared) (H:Hp):Prop where
 frames:A.frames=some outer
 mod:Mod K mg base
 bs: ∀ b o,base.get? b=some o->s.heap.get? b=some o/\H b=none
 bsz:base.objs.size<=s.heap.objs.size
 funs:s.heap.FunFrames base outer
 frf: ∀ b∈frs outer,H b=none
 hok:HOk P w H s.heap
 bare:AllBare s.gens
inductive CE (outer:List Env) (P:Program) (w:World) (H:Hp) (s:Shared) (Q:VK) (u:Value) (s':Shared):Prop
 | mk: ∀ v H',(s'.os=s.os)->(AllBare s'.gens)->(Un (frs outer) [] H H' s.heap s'.heap)->(HOk P w H' s'.heap)->(RelV v u)->(Q v H')->CE outer P w H s Q u s'
def CR (CX:CXT) (outer:List Env) (P:Program) (w:World) (H:Hp) (s:Shared) (Q:VK) (E:XK) (r:Result) (s':Shared):Prop:=
 match r with
 | .ok (.ret u)=>CE outer P w H s Q u s'
 | .ok _=>False
 | .error e=>CX outer H s E e s'
structure FnOk (P:Program) (w:World) (K:W.Frag) (mg:Str->Option Value) (base:Heap) (CX:CXT) (k:Nat) (f:Addr) (fd:FuncData) (ps:List Str) (sp:Sp):Prop where
 len: ∀ vs H Q E,sp vs H Q E->vs.length=ps.length
 run: ∀ (A:Around) (outer:List Env) (s:Shared) (H:Hp) (args:Args) (us:List Value) (vs:List V) (Q:VK) (E:XK),Room k A->xG P w K mg base A outer s H->BindsTo s fd args (ps.zip us)->Vals vs us->sp vs H Q E->
  codeAny (model P w) A (.call (.ref f) args) (CR CX outer P w H s Q E) s
section
variable {X:Cx} {pins:List (Addr×Obj)} {Z:St} {H:Hp} {s s':Shared}
theorem Inv.env0 (I:Inv X pins Z H s):xG X.prog X.w X.K X.mg X.base X.A X.stack s H:=
 ⟨I.ok.frames,I.ok.mod,I.bs,Nat.le_trans I.ok.bsz I.sz,I.stack,I.stkFree,I.hok,I.bare⟩
theorem Inv.after {Q:VK} {u:Value} (I:Inv X pins Z H s) (h:CE X.stack X.prog X.w H s Q u s'):EP X pins Z Q u s':=by
 obtain ⟨v,H',os,bare,un,hok,r,q⟩:=h
 obtain ⟨hh,g,d,t,os'⟩:=s'
 obtain rfl:os'=s.os:=os
 exact ⟨v,H',I.call (h':=hh) (g':=g) (d':=d) (t':=t) (ch:=[]) un hok bare (fun b z=>absurd z (by simp)),r,q⟩
end
def qN (sp:Sp) (dvs:List V) (E:XK) (t:TA):TE:=fun Z H Q=>t Z H fun vs H1=>sp (vs++dvs) H1 Q E
def Binds (K:W.Frag) (fd:FuncData) (ps:List Str) (ds:List Value):Prop:=
 ∀ (s:Shared) (us:List Value),K.In s.heap->(us++ds).length=ps.length->BindsTo s fd ⟨us,[]⟩ (ps.zip (us++ds))
theorem Binds.all {K:W.Frag} {fd:FuncData} {ps:List Str} (h: ∀ us:List Value,us.length=ps.length->bindArgs fd ⟨us,[]⟩=pure (ps.zip us)):Binds K fd ps []:=fun s us _ hl=>by
 rw [List.append_nil]at hl ⊢
 exact .of_eq (h us hl)
def nE (CX:CXT) (X:Cx) (E:XK):Prop:= ∀ (pins:List (Addr×Obj)) (Z:St) (H:Hp) (s:Shared) (e:Value) (s':Shared),Inv X pins Z H s->CX X.stack H s E e s'->X.xe e s'
section
variable {X:Cx} {CX:CXT} {k:Nat} {f C:Addr} {fd:FuncData} {ps:List Str} {sp:Sp} {dvs:List V} {ds:List Value} {E:XK} {x m:Str} {p pos apos:Pos} {e o:Expr} {es:List Expr} {ta:TE} {t:TA}
theorem uF {pins:List (Addr×Obj)} {Z:St} {H:Hp} {s:Shared} {Q:VK} {us:List Value} {vs:List V} (F:FnOk X.prog X.w X.K X.mg X.base CX k f fd ps sp) (hr:Room k X.A) (hb:Binds X.K fd ps ds) (hd:Vals dvs ds) (hx:nE CX X E)
  (I:Inv X pins Z H s) (r:Vals vs us) (h:sp (vs++dvs) H Q E):wpAny (model X.prog X.w) X.A (call (.ref f) us) (EP X pins Z Q) X.xe s:=by
 have r2:Vals (vs++dvs) (us++ds):=r.append hd
 have hl:(us++ds).length=ps.length:=by rw [<- r2.length];exact F.len _ _ _ _ h
 refine wpAny_call (codeAny_mono (F.run X.A X.stack s H ⟨us,[]⟩ (us++ds) (vs++dvs) Q E hr I.env0 (hb s us I.kIn hl) r2 h) fun r s' hq=>?_)
 cases r with
 | error e=>exact hx pins Z H s e s' I hq
 | ok fl=>
  cases fl with
  | ret u=>exact I.after hq
  | next=>exact False.elim hq
  | brk=>exact False.elim hq
  | cont=>exact False.elim hq
theorem ak (F:FnOk X.prog X.w X.K X.mg X.base CX k f fd ps sp) (hr:Room k X.A) (hg:Gl X x) (hm:X.mg x=some (.ref f)) (hk:PySem.W.keepIn X.K (.ref f)=true) (hb:Binds X.K fd ps ds) (hd:Vals dvs ds) (hx:nE CX X E)
  (ha:PA X (e::es) t) (hdb:(x==("__debug__":Str))=false:=by decide) (he:starEach (e::es) X.env=(false,eval e X.env)::starEach es X.env:=by rfl) (hpl:(backTo pos (starEach es X.env)).any (·.1)=false:=by rfl):
  PE X (.Call (.Name x p) (e::es) [] pos) (qN sp dvs E t):=by
 intro pins s Z H Q I h
 refine wpAny_Call_Name_kw (nj I hg hm ?_ hdb)
 refine PySem.W.callWith_K (h₀:=X.base) I.ok.mod.kin hk (thn (ha pos pins s Z H _ I h) fun us s1 ⟨vs,H1,I1,r,q⟩=>⟨I1.kIn,?_⟩) he hpl
 exact uF F hr hb hd hx I1 r q
theorem uU (F:FnOk X.prog X.w X.K X.mg X.base CX k f fd ps sp) (hr:Room k X.A) (hg:Gl X x) (hm:X.mg x=some (.ref f)) (hk:PySem.W.keepIn X.K (.ref f)=true) (hb:Binds X.K fd ps ds) (hd:Vals dvs ds) (hx:nE CX X E)
  (hdb:(x==("__debug__":Str))=false:=by decide):PE X (.Call (.Name x p) [] [] pos) (qN sp dvs E rX):=by
 intro pins s Z H Q I h
 refine wpAny_Call_Name_kw (nj I hg hm ?_ hdb)
 exact PySem.W.callWith_K0 I.kIn hk (uF (us:=[]) F hr hb hd hx I .nil h)
end
structure aB (N P:List Str) (sc:Scope):Prop where
 kind:sc.kind=.function
 co:sc.isCoroutine=false
 gen:sc.isGenerator=false
 nd:N.Nodup
 pre:N.take P.length=P
 par: ∀ x∈P,sc.names.lookup x=some .local\/sc.names.lookup x=some .cell
 nofree: ∀ y∈sc.names,y.2≠ .free
theorem fsc {N P:List Str} {sc:Scope} (kind_:sc.kind=.function:=by rfl) (co_:sc.isCoroutine=false:=by rfl) (gen_:sc.isGenerator=false:=by rfl) (nd_:N.Nodup:=by decide +kernel) (pre_:N.take P.length=P:=by rfl) (par_: ∀ x∈P,sc.names.lookup x=some .local\/sc.names.lookup x=some .cell:=by decide +kernel) (nofree_: ∀ y∈sc.names,y.2≠ .free:=by decide +kernel):aB N P sc:=⟨kind_,co_,gen_,nd_,pre_,par_,nofree_⟩
theorem lO {kindOf:Str->Option NameKind} {x:Str}: ∀ {binds:List (Str×Value)} {m:Str->Option Value},(∀ v,(x,v)∉binds)->bindL kindOf binds m x=m x
 | [],_,_=>rfl
 | (n,v)::r,m,h=>by
  unfold bindL
  rw [lO fun w hw=>h w (List.mem_cons_of_mem _ hw)]
  split
  ·have:x≠n:=by rintro rfl;exact h v List.mem_cons_self
   simp [this]
  ·rfl
theorem lQ {kindOf:Str->Option NameKind} {x:Str}: ∀ {binds:List (Str×Value)} {m:Str->Option Value},(∀ v,(x,v)∉binds)->bindC kindOf binds m x=m x
 | [],_,_=>rfl
 | (n,v)::r,m,h=>by
  unfold bindC
  rw [lQ fun w hw=>h w (List.mem_cons_of_mem _ hw)]
  split
  ·rfl
  ·have:x≠n:=by rintro rfl;exact h v List.mem_cons_self
   simp [this]
theorem lP {kindOf:Str->Option NameKind} {x:Str} {v:Value}: ∀ {P:List Str} {vs:List Value} {i:Nat} {m:Str->Option Value},P.Nodup->P[i]? =some x->vs[i]? =some v->kindOf x=some .local->
  bindL kindOf (P.zip vs) m x=some v
 | [],_,_,_,_,h,_,_=>by simp at h
 | _::_,[],_,_,_,_,h,_=>by simp at h
 | p::P,w::vs,0,m,nd,h1,h2,hk=>by
  simp at h1 h2;subst h1;subst h2
  show bindL kindOf ((p,w)::P.zip vs) m p=_
  unfold bindL
  rw [lO fun v hv=>(List.nodup_cons.mp nd).1 (List.of_mem_zip hv).1,if_pos hk]
  simp
 | p::P,w::vs,i+1,m,nd,h1,h2,hk=>by
  show bindL kindOf ((p,w)::P.zip vs) m x=_
  unfold bindL
  exact lP (i:=i) (List.nodup_cons.mp nd).2 (by simpa using h1) (by simpa using h2) hk
theorem lT {kindOf:Str->Option NameKind} {x:Str} {v:Value}: ∀ {P:List Str} {vs:List Value} {i:Nat} {m:Str->Option Value},P.Nodup->P[i]? =some x->vs[i]? =some v->kindOf x≠some .local->
  bindC kindOf (P.zip vs) m x=some v
 | [],_,_,_,_,h,_,_=>by simp at h
 | _::_,[],_,_,_,_,h,_=>by simp at h
 | p::P,w::vs,0,m,nd,h1,h2,hk=>by
  simp at h1 h2;subst h1;subst h2
  show bindC kindOf ((p,w)::P.zip vs) m p=_
  unfold bindC
  rw [lQ fun v hv=>(List.nodup_cons.mp nd).1 (List.of_mem_zip hv).1,if_neg hk]
  simp
 | p::P,w::vs,i+1,m,nd,h1,h2,hk=>by
  show bindC kindOf ((p,w)::P.zip vs) m x=_
  unfold bindC
  exact lT (i:=i) (List.nodup_cons.mp nd).2 (by simpa using h1) (by simpa using h2) hk
noncomputable def ji (N:List Str) (vs:List V):St:=vs.map some++List.replicate (N.length-vs.length) none
noncomputable def cV (CX:CXT) (P:Program) (w:World) (K:W.Frag) (mg:Str->Option Value) (base:Heap) (N:List Str) (qual:Str) (scope:Scope) (f:Addr) (cd:Value) (A:Around) (outer:List Env) (s:Shared) (H:Hp) (E:XK):Cx where
 prog:=P
 w:=w
 K:=K
 mg:=mg
 base:=base
 A:=A.deeper (envOfC qual scope s.heap.objs.size f cd)
 N:=N
 s₀:=s
 H₀:=H
 env:=envOfC qual scope s.heap.objs.size f cd
 outer:=outer
 stack:=envOfC qual scope s.heap.objs.size f cd::outer
 ex:=[]
 calm:=true
 fn:=fun _=>true
 pn:=[]
 xe:=fun e s'=>wpAny (model P w) (A.deeper (envOfC qual scope s.heap.objs.size f cd)) (leaving (envOfC qual scope s.heap.objs.size f cd) e) (fun _ s''=>CX outer H s E e s'') (fun e' s''=>CX outer H s E e' s'') s'
theorem oV {sc:Scope} {n:Nat} {x:Str} (h:sc.names.lookup x=some .cell): ∃ c,(cellsFrom n sc.names []).lookup x=some c:=by
 have q:=PySem.W.cellsFrom_some sc.names n [] (.inl h)
 exact Option.isSome_iff_exists.mp q
theorem tM {CX:CXT} {P:Program} {w:World} {K:W.Frag} {mg:Str->Option Value} {base:Heap} {N ps:List Str} {qual:Str} {scope:Scope} {f:Addr} {cd:Value} {A:Around} {outer:List Env} {s s1:Shared} {H:Hp} {E:XK} {us:List Value} {vs:List V}
  (S:aB N ps scope) (hd:A.handled=none) (e0:xG P w K mg base A outer s H) (hl:vs.length=ps.length) (r:Vals vs us)
  (x:InCallC s s.heap.objs.size (bindL (envOfC qual scope s.heap.objs.size f cd).kindOf (ps.zip us) fun _=>none) (cellsFrom (s.heap.objs.size+1) scope.names []) (bindC (envOfC qual scope s.heap.objs.size f cd).kindOf (ps.zip us) fun _=>none) s1):
  Inv (cV CX P w K mg base N qual scope f cd A outer s H E) [] (ji N vs) H s1:=by
 have hpl:ps.length<=N.length:=by have:=congrArg List.length S.pre;rw [List.length_take]at this;lia
 obtain ⟨h1,tk,rfl,hk⟩:=x.done
 have noA: ∀ b:Addr,b∉(cV CX P w K mg base N qual scope f cd A outer s H E).ex:=fun b z=>absurd (show b∈([]:List Addr)from z) (by simp)
 refine ⟨⟨e0.mod,S.kind,rfl,rfl,Nat.le_refl _,fun y z c h1 h2=>?_,fun y hy=>?_,fun y c _ h=>?_,fun _=>hd,Around.frames_deeper e0.frames,.inr ⟨rfl,rfl⟩,fun b z=>absurd z (noA b),e0.bs,e0.bsz,fun b _ _=>noA b,fun b z=>absurd z (noA b),e0.funs,e0.frf⟩,
  rfl,e0.bare,Un.kept hk,⟨_,x.toInCall.ns,fun i y v h1 h2 h3=>?_⟩,fun y c h=>⟨_,x.cell y c h⟩,e0.hok.fresh (Nat.le_refl _),fun y c h=>?_,fun p hp=>absurd (show p∈([]:List (Addr×Obj))from hp) (by simp),e0.hok.kept hk,?_⟩
 ·exact name_of_addr x.apart (PySem.mem_of_lookup h1) (PySem.mem_of_lookup h2)
 ·have hy:scope.names.lookup y=some .cell\/scope.names.lookup y=some .free:=hy
  rcases hy with hy | hy
  ·exact oV hy
  ·exact absurd rfl (S.nofree _ (PySem.mem_of_lookup hy))
 ·exact Nat.le_of_lt (x.above y c (PySem.mem_of_lookup h))
 ·have hi:i<vs.length:=by
   unfold ji at h2
   by_cases hi:i<vs.length
   ·exact hi
   ·rw [List.getElem?_append_right (by simpa using hi)]at h2
    rw [List.getElem?_replicate]at h2
    split at h2 <;> cases h2
  have ha:vs[i]? =some v:=by
   unfold ji at h2
   rw [List.getElem?_append_left (by simpa using hi),List.getElem?_map]at h2
   cases e:vs[i]? with
   | none=>rw [e]at h2;cases h2
   | some a=>rw [e]at h2;cases h2;rfl
  obtain ⟨u,hu,rv⟩:=r.get ha
  have hp:ps[i]? =some y:=by
   rw [<- S.pre,List.getElem?_take_of_lt (by lia)];exact h1
  have ndP:ps.Nodup:=by rw [<- S.pre];exact S.nd.sublist (List.take_sublist _ _)
  refine ⟨u,rv,?_⟩
  rcases S.par y (List.mem_of_getElem? hp)with k | k
  ·exact .inl ⟨k,lP ndP hp hu k⟩
  ·obtain ⟨c,e⟩:=oV (n:=s.heap.objs.size+1) k
   refine .inr ⟨.inl k,c,e,?_⟩
   have q:=x.cell y c e
   rw [lT ndP hp hu (by show scope.names.lookup y≠_;rw [k];decide)]at q
   exact q
 ·exact e0.hok.fresh (Nat.le_of_lt (x.above y c (PySem.mem_of_lookup h)))
 ·unfold ji
  show _=N.length
  rw [List.length_append,List.length_map,List.length_replicate]
  lia
theorem Ak {CX:CXT} {P:Program} {w:World} {K:W.Frag} {mg:Str->Option Value} {base:Heap} {k:Nat} {f:Addr} {name qual:Str} {params:Arguments} {body:List Stmt} {scope:Scope} {dV kV doc pm cdv ct oc:Value} {an od:Option Addr}
  {osl:Array (Option Value)} {N ps:List Str} {sp:Sp} (lk:K.lookup f=some ⟨oc,od,.func (PySem.W.fnOf name qual params body scope dV kV doc pm an cdv ct),osl⟩) (hcd:PySem.W.codeIn K cdv qual=true) (S:aB N ps scope)
  (len: ∀ vs H Q E,sp vs H Q E->vs.length=ps.length)
  (hbody: ∀ (A:Around) (outer:List Env) (s:Shared) (H:Hp) (vs:List V) (Q:VK) (E:XK),Room k (A.deeper (envOfC qual scope s.heap.objs.size f cdv))->sp vs H Q E->
   ∃ t,PSs (cV CX P w K mg base N qual scope f cdv A outer s H E) body t/\t {nx:=fun _ H'=>Q .non H',rt:=Q} (ji N vs) H):
  FnOk P w K mg base CX (k+1) f (PySem.W.fnOf name qual params body scope dV kV doc pm an cdv ct) ps sp:=by
 refine ⟨len,fun A outer s H args us vs Q E hr e0 hb r hsp=>?_⟩
 have hl:=len _ _ _ _ hsp
 have KX:K.In s.heap:=e0.mod.kin.keeps fun b o e=>(e0.bs b o e).1
 have lim:s.heap.NoLimit:=e0.mod.nolimit.keeps fun b o e=>(e0.bs b o e).1
 have hkind: ∀ y∈ps.zip us,scope.names.lookup y.1=some .local\/(scope.names.lookup y.1=some .cell/\((cellsFrom (s.heap.objs.size+1) scope.names []).lookup y.1).isSome=true):=fun ⟨n,v⟩ hy=>by
  rcases S.par n (List.of_mem_zip hy).1 with q | q
  ·exact .inl q
  ·exact .inr ⟨q,PySem.W.cellsFrom_some _ _ _ (.inl q)⟩
 refine codeAny_call_function hr.depth (KX _ _ lk) rfl S.co S.gen rfl (PySem.W.codeRec_of KX hcd) (hb _ _ _ _ ?_)
 refine wpAny_newFunctionEnv_cells S.kind hkind fun env he s1 x=>?_
 subst he
 refine ⟨lim.keeps x.toInCall.keep,codeAny_func ?_⟩
 obtain ⟨t,ht,hq⟩:=hbody A outer s H vs Q E (hr.deeper _) hsp
 have I:Inv (cV CX P w K mg base N qual scope f cdv A outer s H E) [] (ji N vs) H s1:=tM S hr.hd e0 hl r x
 refine wpAny_mono (ht [] s1 (ji N vs) H _ I hq) (fun fl s' hs=>?_) fun e s' hs=>hs
 have fin: ∀ {Z':St} {H':Hp} {v:V} {u:Value},Inv (cV CX P w K mg base N qual scope f cdv A outer s H E) [] Z' H' s'->RelV v u->Q v H'->CE outer P w H s Q u s':=
  fun {Z' H' v u} J rv q=>⟨v,H',J.os,J.bare,J.base,J.hok,rv,q⟩
 cases fl with
 | ret u=>
  obtain ⟨v,Z',H',J,rv,q⟩:=hs
  exact fin J rv q
 | next=>
  obtain ⟨Z',H',J,q⟩:=hs
  exact fin (v:=V.non) (u:=Value.none) J rfl q
 | brk=>
  obtain ⟨_,_,_,q⟩:=hs
  exact False.elim q
 | cont=>
  obtain ⟨_,_,_,q⟩:=hs
  exact False.elim q
section
variable {X:Cx} {x:Str} {p pos:Pos} {e:Expr} {es:List Expr} {t:TA} {id T:String} {r:List V->Hp->VK->Prop}
def tCB (r:List V->Hp->VK->Prop) (t:TA):TE:=fun Z H Q=>t Z H fun vs H1=>r vs H1 Q
theorem aF (hc:eG X (.builtin id) r) (hg:Gl X x) (hm:X.mg x=none) (hv:bootBuiltins x=some (.builtin id)) (ha:PA X (e::es) t) (hn:x≠"__name__":=by decide) (hdb:(x==("__debug__":Str))=false:=by decide)
  (he:starEach (e::es) X.env=(false,eval e X.env)::starEach es X.env:=by rfl) (hpl:(backTo pos (starEach es X.env)).any (·.1)=false:=by rfl):PE X (.Call (.Name x p) (e::es) [] pos) (tCB r t):=by
 intro pins s Z H Q I h
 refine wpAny_Call_Name_kw (ig I hg hm hv ?_ hn hdb)
 exact PyProof.Rows.callWith_builtin1 (thn (ha pos pins s Z H _ I h) fun us s1 ⟨vs,H1,I1,r1,q1⟩=>hc pins s1 Z H1 vs us Q I1 r1 q1) he hpl
theorem bj (hc:eG X (.type T) r) (hg:Gl X x) (hm:X.mg x=none) (hv:bootBuiltins x=some (.type T)) (ha:PA X (e::es) t) (hn:x≠"__name__":=by decide) (hdb:(x==("__debug__":Str))=false:=by decide)
  (he:starEach (e::es) X.env=(false,eval e X.env)::starEach es X.env:=by rfl) (hpl:(backTo pos (starEach es X.env)).any (·.1)=false:=by rfl):PE X (.Call (.Name x p) (e::es) [] pos) (tCB r t):=by
 intro pins s Z H Q I h
 refine wpAny_Call_Name_kw (ig I hg hm hv ?_ hn hdb)
 exact PyProof.Rows.callWith_type1 (thn (ha pos pins s Z H _ I h) fun us s1 ⟨vs,H1,I1,r1,q1⟩=>hc pins s1 Z H1 vs us Q I1 r1 q1) he hpl
end
end L2
namespace HT
open PySem PyProof.Rows
section
variable {prog:Program} {w:World} {A:Around} {E:Value->Shared->Prop} {s:Shared}
theorem cat_tup {t b:Addr} {vs ws:List Value} {Q:Value->Shared->Prop} (ht:IsTup s.heap t vs.toArray) (hb:IsTup s.heap b ws.toArray) (hv:vs≠[])
  (h1:ws=[]->Q (.ref t) s) (h2:ws≠[]->Q (.ref s.heap.objs.size) {s with heap:=s.heap.push {cls:=.type "tuple",data:=.seq (vs++ws).toArray}})
  (hsz:vs.length+ws.length<=sizeLine):wpAny (model prog w) A (binaryOp .Add (.ref t) (.ref b)) Q E s:=by
 obtain ⟨⟨cls,dd,data,sl⟩,ho,hc,n,hd⟩:=id ht
 obtain ⟨⟨cls2,dd2,data2,sl2⟩,ho2,hc2,n2,hd2⟩:=id hb
 simp only at hc hd hc2 hd2
 subst hc hd hc2 hd2
 have e:vs.toArray++ws.toArray=(vs++ws).toArray:=by simp
 by_cases hw:ws=[]
 ·exact concat_meets ⟨_,ho,rfl⟩ ⟨_,ho2,rfl⟩ noFill_tuple_add seq_tuple_add PySem.F.slot_tuple_add PySem.F.entry_tuple_add (PySem.F.args_tuple_add_2 _ _)
   (tuple_addW1 t b vs.toArray ws.toArray n n2 dd dd2 sl sl2 (by simpa using hv) (by simp [hw])) ⟨ho,ho2,h1 hw⟩
 ·refine concat_meets ⟨_,ho,rfl⟩ ⟨_,ho2,rfl⟩ noFill_tuple_add seq_tuple_add PySem.F.slot_tuple_add PySem.F.entry_tuple_add (PySem.F.args_tuple_add_2 _ _)
   (tuple_addW2 t b vs.toArray ws.toArray n n2 dd dd2 sl sl2 (by simpa using hv) (by simpa using hw) (by rw [List.size_toArray,List.size_toArray];exact hsz)) ⟨ho,ho2,?_⟩
  rw [e]
  exact h2 hw
noncomputable def sIx (n d:Nat):Option Int->Nat
 | none=>d
 | some v=>if v<0 then (v+ (n:Int)).toNat else min v.toNat n
theorem sIx_none (n d:Nat):sIx n d none=d:=rfl
theorem sIx_nat (n d k:Nat):sIx n d (some (k:Int))=min k n:=by
 show (if (k:Int) <0 then ((k:Int) + (n:Int)).toNat else min (k:Int).toNat n)=min k n
 rw [if_neg (by lia),Int.toNat_natCast]
theorem yh (n d:Nat) (hd:d<=n) (o:Option Int):sIx n d o<=n:=by
 cases o with
 | none=>exact hd
 | some v=>
  show (if v<0 then (v+ (n:Int)).toNat else min v.toNat n)<=n
  by_cases hv:v<0
  ·rw [if_pos hv];lia
  ·rw [if_neg hv];exact Nat.min_le_right _ _
theorem rN (v:Int) (n d:Nat):(if v<0 then max (v+ (n:Int)) 0 else min v (n:Int))=((sIx n d (some v):Nat):Int):=by
 show (if v<0 then max (v+ (n:Int)) 0 else min v (n:Int))=(((if v<0 then (v+ (n:Int)).toNat else min v.toNat n):Nat):Int)
 by_cases hv:v<0
 ·simp only [if_pos hv];lia
 ·simp only [if_neg hv];lia
theorem qE (lo hi:Option Int) (n:Nat):Builtin.Slice.sliceAdjust lo hi 1 (n:Int)=(((sIx n 0 lo:Nat):Int),((sIx n n hi:Nat):Int)):=by
 have h1: ¬ ((1:Int) <0):=by lia
 unfold Builtin.Slice.sliceAdjust
 simp only [h1,if_false]
 refine Prod.ext ?_ ?_
 ·cases lo with
  | none=>rfl
  | some v=>exact rN v n 0
 ·cases hi with
  | none=>rfl
  | some v=>exact rN v n n
theorem pW (i j:Nat):Builtin.Slice.slicePlaces (i:Int) (j:Int) 1=j-i:=by
 unfold Builtin.Slice.slicePlaces
 have h1:(1:Int) >0:=by lia
 simp only [h1,if_true,Int.ediv_one]
 split <;> lia
theorem dU {v:Value} {o:Option Int} {Q:Option Int->Shared->Prop} (p:IsPart v o) (h:Q o s):wpAny (model prog w) A (Builtin.Slice.slicePartIndex v) Q E s:=by
 cases p with
 | none=>exact slicePart_none h
 | int i t=>exact slicePart_int h
theorem ff {sl:Addr} {vl vu:Value} {lo hi:Option Int} {n:Nat} {Q:Int×Int×Nat->Shared->Prop} (hs:s.heap.IsSliceOf sl vl vu .none) (pl:IsPart vl lo) (pu:IsPart vu hi)
  (h:Q (((sIx n 0 lo:Nat):Int),1,sIx n n hi-sIx n 0 lo) s):wpAny (model prog w) A (Builtin.Slice.sliceApplied (.ref sl) (pure (n:Int))) Q E s:=by
 obtain ⟨os,hos,hcs,hds⟩:=id hs
 unfold Builtin.Slice.sliceApplied Builtin.Slice.sliceFields
 refine wpAny_bind (wpAny_bind (wpAny_field hos hds (x:=vl) rfl (wpAny_bind (wpAny_field hos hds (x:=vu) rfl (wpAny_bind (wpAny_field hos hds (x:=.none) rfl (wpAny_pure ?_)))))))
 refine wpAny_bind (slicePart_none ?_)
 show wpAny _ _ (if ((1:Int)==0)=true then _ else _) _ _ s
 rw [if_neg (by decide)]
 refine wpAny_bind (dU pl (wpAny_bind (dU pu (wpAny_bind (wpAny_pure ?_)))))
 show wpAny _ _ (match Builtin.Slice.sliceAdjust lo hi 1 (n:Int)with | (lo,hi)=>pure (lo,(1:Int),Builtin.Slice.slicePlaces lo hi 1)) _ _ s
 rw [qE lo hi n]
 show wpAny _ _ (pure (((sIx n 0 lo:Nat):Int),(1:Int),Builtin.Slice.slicePlaces ((sIx n 0 lo:Nat):Int) ((sIx n n hi:Nat):Int) 1)) _ _ s
 rw [pW]
 exact wpAny_pure h
theorem uO (xs:Array Value) (i k:Nat):((List.range k).filterMap fun (m:Nat)=>xs[((i:Int) + (m:Int) *1).toNat]?).toArray=((xs.toList.drop i).take k).toArray:=by
 have e:(fun (m:Nat)=>xs[((i:Int) + (m:Int) *1).toNat]?)=fun m=>xs[i+m]? :=by
  funext m
  have:((i:Int) + (m:Int) *1).toNat=i+m:=by lia
  rw [this]
 rw [e]
 have:=pick_run xs i k
 rw [List.filterMap_map]at this
 have e2:((fun x=>xs[x]?)∘fun x=>i+x)=fun m=>xs[i+m]? :=rfl
 rw [e2]at this
 rw [this]
theorem getItem_tuple_cut {t sl:Addr} {items:Array Value} {vl vu:Value} {lo hi:Option Int} {Q:Value->Shared->Prop} (ht:IsTup s.heap t items) (hs:s.heap.IsSliceOf sl vl vu .none) (pl:IsPart vl lo) (pu:IsPart vu hi)
  (hw: ¬ (sIx items.size 0 lo=0/\sIx items.size items.size hi=items.size))
  (h:Q (.ref s.heap.objs.size) {s with heap:=s.heap.push {cls:=.type "tuple",data:=.seq ((items.toList.drop (sIx items.size 0 lo)).take (sIx items.size items.size hi-sIx items.size 0 lo)).toArray}})
  (hsz:items.size<=sizeLine):wpAny (model prog w) A (getItem (.ref t) (.ref sl)) Q E s:=by
 have htake:sizeOk (.seq ((items.toList.drop (sIx items.size 0 lo)).take (sIx items.size items.size hi-sIx items.size 0 lo)).toArray):=by
  show ((items.toList.drop (sIx items.size 0 lo)).take (sIx items.size items.size hi-sIx items.size 0 lo)).toArray.size<=sizeLine
  rw [List.size_toArray,List.length_take,List.length_drop,Array.length_toList]
  lia
 have hj:sIx items.size items.size hi<=items.size:=yh _ _ (Nat.le_refl _) hi
 obtain ⟨os,hos,hcs,hds⟩:=id hs
 have hTs:s.TypeIs (.ref sl) "slice":=⟨os,hos,hcs⟩
 unfold getItem
 try with_reducible refine wpAny_holding ?_
 first | refine wpAny_bind (wpAny_pure ?_) | skip
 refine wpAny_bind (wpAny_sequenceKey ht.typeIs (by decide) ?_)
 refine wpAny_bind (wpAny_callSpecial?_slot (name:=Str.ofString "__getitem__") ht.typeIs PyProof.Rows.slot_tuple_getitem
  (wpAny_call_entry PyProof.Rows.slot_tuple_getitem ht.typeIs entry_tuple_getitem ?_ (args_tuple_getitem _ _)))
 show wpAny _ _ (Builtin.Tuple.tupleItemsOf (.ref t) >>= _) _ _ s
 refine wpAny_bind (tupleItemsOf_ ht ?_)
 refine wpAny_bind (wpAny_typeOf hTs ?_)
 rw [if_pos (by decide)]
 refine wpAny_bind (ff hs pl pu ?_)
 have hno: ¬ ((((sIx items.size 0 lo:Nat):Int)==0&&(1:Int)==1&&(sIx items.size items.size hi-sIx items.size 0 lo)==items.size)=true):=by
  intro q
  rw [Bool.and_eq_true,Bool.and_eq_true]at q
  have q1:((sIx items.size 0 lo:Nat):Int)=0:=eq_of_beq q.1.1
  have q2:sIx items.size items.size hi-sIx items.size 0 lo=items.size:=eq_of_beq q.2
  exact hw ⟨by lia,by lia⟩
 show wpAny _ _ (if (((sIx items.size 0 lo:Nat):Int)==0&&(1:Int)==1&&(sIx items.size items.size hi-sIx items.size 0 lo)==items.size)=true then _ else _) _ _ s
 rw [if_neg hno,uO]
 first
  | exact wpAny_bind (m:=Builtin.Tuple.tupleExact _) (wpAny_newObj_type (wpAny_pure ⟨_,rfl,wpAny_pure h⟩) htake)
  | exact wpAny_bind (m:=Builtin.Tuple.tupleExact _) (wpAny_newObj_type (wpAny_bind (wpAny_pure (wpAny_pure ⟨_,rfl,wpAny_pure h⟩))) htake)
  | exact wpAny_bind (wpAny_bind (m:=Builtin.Tuple.tupleExact _) (wpAny_newObj_type (wpAny_pure (wpAny_pure ⟨_,rfl,wpAny_pure h⟩)) htake))
  | exact wpAny_bind (wpAny_bind (m:=Builtin.Tuple.tupleExact _) (wpAny_newObj_type (wpAny_pure ⟨_,rfl,wpAny_pure h⟩) htake))
end
end HT
namespace L2
open PySem PySem.Spec PyProof.Rows
abbrev TO:=St->Hp->(Option Int->Hp->Prop)->Prop
def PO (X:Cx) (e:Option Expr) (t:TO):Prop:=
 ∀ (pins:List (Addr×Obj)) (s:Shared) (Z:St) (H:Hp) (Q:Option Int->Hp->Prop),Inv X pins Z H s->t Z H Q->
  wpAny (model X.prog X.w) X.A (evalPart e X.env) (fun u s'=> ∃ o H',Inv X pins Z H' s'/\IsPart u o/\Q o H') X.xe s
noncomputable def ww:TO:=fun _ H Q=>Q none H
inductive xL  (x:V) (H1:Hp) (Q:(Option Int->Hp->Prop)):Prop
 | mk: ∀ i,(x=.int i)->(Q (some i) H1)->xL x H1 Q
noncomputable def zD (t:TE):TO:=fun Z H Q=>t Z H fun x H1=>xL x H1 Q
section
variable {X:Cx} {e:Expr} {te:TE} {lo hi:Option Expr} {tl th:TO} {pos p2:Pos}
theorem aZ:PO X none ww:=by
 intro pins s Z H Q I h
 rw [evalPart_none]
 exact wpAny_pure ⟨none,H,I,.none,h⟩
theorem aV (h:PE X e te):PO X (some e) (zD te):=by
 intro pins s Z H Q I hw
 rw [evalPart_some]
 refine thn (h pins s Z H _ I hw) fun u s1 ⟨x,H1,I1,r1,q1⟩=>?_
 obtain ⟨i,rfl,q⟩:=q1
 obtain ⟨t,rfl⟩:=r1
 exact ⟨some i,H1,I1,.int i t,q⟩
def SlR (X:Cx) (r:V->Option Int->Option Int->Hp->VK->Prop):Prop:=
 ∀ (pins:List (Addr×Obj)) (s:Shared) (Z:St) (H:Hp) (x:V) (v vl vu:Value) (lo hi:Option Int) (sl:Addr) (Q:VK),Inv X pins Z H s->RelV x v->s.heap.IsSliceOf sl vl vu .none->IsPart vl lo->IsPart vu hi->r x lo hi H Q->
  ∃ T id,typeLookup (.type T) "__getitem__"=pure (some (.builtin id))/\s.TypeIs v T/\wpAny (model X.prog X.w) X.A (getItem v (.ref sl)) (EP X pins Z Q) X.xe s
def tSl (r:V->Option Int->Option Int->Hp->VK->Prop) (te:TE) (tl th:TO):TE:=fun Z H Q=>te Z H fun x H1=>tl Z H1 fun l H2=>th Z H2 fun u H3=>r x l u H3 Q
theorem aN {r:V->Option Int->Option Int->Hp->VK->Prop} (hr:SlR X r) (he:PE X e te) (hl:PO X lo tl) (hu:PO X hi th):PE X (.Subscript e (.Slice lo hi none p2) pos) (tSl r te tl th):=by
 intro pins s Z H Q I h
 refine Subscript_ (thn (he pins s Z H _ I h) fun v s1 ⟨x,H1,I1,r1,q1⟩=>?_)
 refine wpAny_Slice (thn (hl pins s1 Z H1 _ I1 q1) fun vl s2 ⟨l,H2,I2,pl,q2⟩=>thn (hu pins s2 Z H2 _ I2 q2) fun vu s3 ⟨u,H3,I3,pu,q3⟩=>?_)
 rw [evalPart_none]
 refine wpAny_pure ?_
 have I4:Inv X pins Z H3 {s3 with heap:=s3.heap.push {cls:=.type "slice",data:=.fields #[vl,vu,.none]}}:=I3.kept (t':=s3.toks) fun b ob q=>Heap.get?_push_of_some _ q
 obtain ⟨T,id,hT,ht,hg⟩:=hr pins {s3 with heap:=s3.heap.push {cls:=.type "slice",data:=.fields #[vl,vu,.none]}} Z H3 x v vl vu l u s3.heap.objs.size Q I4 r1 (Heap.IsSliceOf.new ..) pl pu q3
 show wpAny (model X.prog X.w) X.A (subscriptTail e (.Slice lo hi none p2) v (.ref s3.heap.objs.size)) (EP X pins Z Q) X.xe {s3 with heap:=s3.heap.push {cls:=.type "slice",data:=.fields #[vl,vu,.none]}}
 exact tail_any (ops:=[.ref s3.heap.objs.size,v]) ht hT hg (by with_unfolding_all rfl)
noncomputable def cW (xs:List V) (lo hi:Option Int):List V:=(xs.drop (HT.sIx xs.length 0 lo)).take (HT.sIx xs.length xs.length hi-HT.sIx xs.length 0 lo)
theorem jo (xs:List V) (lo hi:Option Int):(cW xs lo hi).length<=xs.length:=by
 unfold cW
 rw [List.length_take,List.length_drop]
 lia
inductive yj (K:W.Frag) (x:V) (lo:Option Int) (hi:Option Int) (H:Hp) (Q:VK):Prop
 | mk: ∀ a xs,(x=.ref a)->(SqT K H a xs)->(¬ (HT.sIx xs.length 0 lo=0/\HT.sIx xs.length xs.length hi=xs.length))->(∀ p,H p=none->Q (.ref p) (upd H p (.tup (cW xs lo hi))))->yj K x lo hi H Q
theorem pG:SlR X (yj X.K):=by
 intro pins s Z H x v vl vu lo hi sl Q I rx hs pl pu h
 obtain ⟨a,xs,rfl,hx,hw,q⟩:=h
 cases rx
 obtain ⟨its,r,ht,hz⟩:=I.tuple hx
 have hlen:its.toArray.size=xs.length:=by rw [List.size_toArray];exact r.length.symm
 refine ⟨"tuple",_,PyProof.Rows.slot_tuple_getitem.lookup,ht.typeIs,?_⟩
 refine HT.getItem_tuple_cut ht hs pl pu (by rw [hlen];exact hw) ?_ (by rw [hlen];exact hz)
 rw [hlen]
 refine ⟨.ref s.heap.objs.size,_,I.laid (t':=s.toks) (o:=.tup (cW xs lo hi)) (fun b ob q=>Heap.get?_push_of_some _ q) (Nat.le_refl _) ?_,rfl,q _ (I.hok.fresh (Nat.le_refl _))⟩
 exact ⟨Nat.le_trans (jo xs lo hi) hz,_,(r.drop (HT.sIx xs.length 0 lo)).take (HT.sIx xs.length xs.length hi-HT.sIx xs.length 0 lo),IsTup.new _ _⟩
inductive xM (K:W.Frag) (x:V) (y:V) (H:Hp) (Q:VK):Prop
 | mk: ∀ a b xs ys,(x=.ref a)->(y=.ref b)->(SqT K H a xs)->(SqT K H b ys)->(xs≠[])->(xs.length+ys.length<=sizeLine)->((ys=[]->Q (.ref a) H))->((ys≠[]-> ∀ p,H p=none->Q (.ref p) (upd H p (.tup (xs++ys)))))->xM K x y H Q
theorem Vals.nil_iff {xs:List V} {us:List Value} (r:Vals xs us):us=[]↔xs=[]:=by
 cases r with
 | nil=>simp
 | cons _ _=>simp
theorem wR:OpR X (binaryOp .Add) (xM X.K):=by
 intro pins s Z H x y v u Q I rx ry h
 obtain ⟨a,b,xs,ys,rfl,rfl,ha,hb,hx,hz,q1,q2⟩:=h
 cases rx
 cases ry
 obtain ⟨its,r1,p1,_⟩:=I.tuple ha
 obtain ⟨its2,r2,p2,_⟩:=I.tuple hb
 refine HT.cat_tup p1 p2 (fun z=>hx (r1.nil_iff.mp z)) (fun z=>⟨.ref a,H,I,rfl,q1 (r2.nil_iff.mp z)⟩) (fun z=>?_) (by rw [<- r1.length,<- r2.length];exact hz)
 refine ⟨.ref s.heap.objs.size,_,I.laid (t':=s.toks) (o:=.tup (xs++ys)) (fun b ob q=>Heap.get?_push_of_some _ q) (Nat.le_refl _) ?_,rfl,q2 (fun w=>z (r2.nil_iff.mpr w)) _ (I.hok.fresh (Nat.le_refl _))⟩
 exact ⟨by rw [List.length_append];exact hz,_,r1.append r2,IsTup.new _ _⟩
end
noncomputable def ixN (n:Nat) (i:Int):Option Nat:=if 0<=i then (if i<n then some i.toNat else none)else if -(n:Int)<=i then some (i+n).toNat else none
noncomputable def atI {α:Type} (xs:List α) (i:Int):Option α:=(ixN xs.length i).bind fun j=>xs[j]?
theorem rD {n:Nat} {i:Int} {j:Nat} (h:ixN n i=some j):seqIndex? i n=some j/\j<n/\ -(n:Int)<=i/\i<n:=by
 unfold ixN at h
 by_cases h0:0<=i
 ·rw [if_pos h0]at h
  by_cases h1:i<n
  ·rw [if_pos h1]at h
   have e:i.toNat=j:=Option.some.inj h
   exact ⟨by rw [seqIndex_of h0 h1,e],by lia,by lia,h1⟩
  ·rw [if_neg h1]at h;cases h
 ·rw [if_neg h0]at h
  by_cases h1: -(n:Int)<=i
  ·rw [if_pos h1]at h
   have e:(i+n).toNat=j:=Option.some.inj h
   exact ⟨by rw [seqIndex_neg (by lia) h1,e],by lia,h1,by lia⟩
  ·rw [if_neg h1]at h;cases h
theorem nB {α:Type} {xs:List α} {i:Int} {v:α} (h:atI xs i=some v): ∃ j,seqIndex? i xs.length=some j/\xs[j]? =some v/\j<xs.length/\ -(xs.length:Int)<=i/\i<xs.length:=by
 unfold atI at h
 cases e:ixN xs.length i with
 | none=>rw [e]at h;cases h
 | some j=>
  rw [e]at h
  obtain ⟨h1,h2,h3,h4⟩:=rD e
  exact ⟨j,h1,h,h2,h3,h4⟩
theorem ar {α:Type} {xs:List α} {j:Nat} {v:α} (h:xs[j]? =some v):atI xs (j:Int)=some v:=by
 have hj:j<xs.length:=(List.getElem?_eq_some_iff.mp h).1
 have e:ixN xs.length (j:Int)=some j:=by
  unfold ixN
  rw [if_pos (by lia),if_pos (by lia)];simp
 unfold atI;rw [e];exact h
def xD (b:Expr):Prop:= ∀ o i,subscripted b false o i=operate [o,i] (getItem o i)
def IxR (X:Cx) (r:R2):Prop:=
 ∀ (value slice:Expr) (pins:List (Addr×Obj)) (s:Shared) (Z:St) (H:Hp) (x y:V) (v u:Value) (Q:VK),Inv X pins Z H s->RelV x v->RelV y u->r x y H Q->
  subscripted slice false v u=operate [v,u] (getItem v u)->wpAny (model X.prog X.w) X.A (subscriptTail value slice v u) (EP X pins Z Q) X.xe s
def MtR (X:Cx) (id:String) (r:V->List V->Hp->VK->Prop):Prop:=
 ∀ (pins:List (Addr×Obj)) (s:Shared) (Z:St) (H:Hp) (x:V) (xs:List V) (v:Value) (us:List Value) (Q:VK),Inv X pins Z H s->RelV x v->Vals xs us->r x xs H Q->
  wpAny (model X.prog X.w) X.A (call (.builtin id) (v::us)) (EP X pins Z Q) X.xe s
section
variable {X:Cx} {a b:Expr} {ta tb:TE} {pos:Pos}
theorem ao {r:R2} (hr:IxR X r) (ha:PE X a ta) (hb:PE X b tb) (hs:xD b):PE X (.Subscript a b pos) (tOp r ta tb):=by
 intro pins s Z H Q I h
 exact Subscript_ (zm ha hb I h fun v u s2 x y H2 I2 rx ry q=>hr a b pins s2 Z H2 x y v u Q I2 rx ry q (hs _ _))
inductive cI (K:W.Frag) (x:V) (y:V) (H:Hp) (Q:VK):Prop
 | mk: ∀ p xs i v,(x=.ref p)->(y=.int i)->(SqL K H p xs)->(atI xs i=some v)->(Q v H)->cI K x y H Q
inductive aC (K:W.Frag) (x:V) (y:V) (H:Hp) (Q:VK):Prop
 | mk: ∀ p xs i v,(x=.ref p)->(y=.int i)->(SqT K H p xs)->(atI xs i=some v)->(Q v H)->aC K x y H Q
inductive zP  (x:V) (y:V) (H:Hp) (Q:VK):Prop
 | mk: ∀ z i c,(x=.str z)->(y=.int i)->(z.length<=sizeLine)->(atI z.cps.toList i=some c)->(Q (.str ⟨#[c]⟩) H)->zP x y H Q
theorem aS:IxR X (cI X.K):=by
 intro value slice pins s Z H x y v u Q I rx ry h hs
 obtain ⟨p,xs,i,z,rfl,rfl,hq,he,q⟩:=h
 cases rx
 obtain ⟨t,rfl⟩:=ry
 obtain ⟨its,r,pl,hz⟩:=I.list hq
 obtain ⟨j,h1,h2,h3,h4,h5⟩:=nB he
 obtain ⟨w,ew,rw'⟩:=r.get h2
 have hl:=r.length
 have hn:=ja
 have fin:EP X pins Z Q w s:=⟨z,H,I,rw',q⟩
 by_cases h0:0<=i
 ·have hj:i.toNat=j:=by
   rw [seqIndex_of h0 h5]at h1
   exact Option.some.inj h1
  exact item_listR pl.isList h0 (by lia) (by rw [hj];simpa using ew) fin hs
 ·have hj:(i+ (its.toArray.size:Int)).toNat=j:=by
   rw [seqIndex_neg (by lia) h4]at h1
   rw [List.size_toArray,<- hl]
   exact Option.some.inj h1
  exact subscriptTail_builtinR (x:=w) pl.isList.typeIs slot_list_getitem.lookup
   (wpAny_getItem_list_neg (Q:=fun r s'=>r=w/\EP X pins Z Q r s') pl.isList (by lia) (by rw [List.size_toArray] <;> lia) (by lia) (by rw [hj];simpa using ew) ⟨rfl,fin⟩) hs
theorem al:IxR X (aC X.K):=by
 intro value slice pins s Z H x y v u Q I rx ry h hs
 obtain ⟨p,xs,i,z,rfl,rfl,hq,he,q⟩:=h
 cases rx
 obtain ⟨t,rfl⟩:=ry
 obtain ⟨its,r,pl,hz⟩:=I.tuple hq
 obtain ⟨j,h1,h2,h3,h4,h5⟩:=nB he
 obtain ⟨w,ew,rw'⟩:=r.get h2
 have hl:=r.length
 have hn:=ja
 have fin:EP X pins Z Q w s:=⟨z,H,I,rw',q⟩
 exact subscriptTail_builtinR (x:=w) pl.typeIs slot_tuple_getitem.lookup
  (getItem_tuple (j:=j) (Q:=fun r s'=>r=w/\EP X pins Z Q r s') pl (by lia) (by lia) (by rw [List.size_toArray,<- hl];exact h1) (by simpa using ew) ⟨rfl,fin⟩) hs
theorem qk:IxR X zP:=by
 intro value slice pins s Z H x y v u Q I rx ry h hs
 obtain ⟨z,i,c,rfl,rfl,hz,he,q⟩:=h
 obtain ⟨t,rfl⟩:=rx
 obtain ⟨t',rfl⟩:=ry
 obtain ⟨j,h1,h2,h3,h4,h5⟩:=nB he
 have hl:z.cps.toList.length=z.length:=by simp [Str.length]
 rw [hl]at h1 h4 h5
 have hn:=ja
 exact tail_any (typeIs_str s z t) slot_str_getitem.lookup (getItem_str (c:=c) (by
  have e1:decide (i< -(2^63:Int))=false:=decide_eq_false (by lia)
  have e2:decide (i≥2^63)=false:=decide_eq_false (by lia)
  rw [e1,e2,Bool.or_false]) (by rw [h1];simpa using h2) ⟨.str ⟨#[c]⟩,H,I.tok _,⟨_,rfl⟩,q⟩) hs
theorem qg (its:List Value) (n j:Nat) (u:Value):Obj.mapSeq (·.setIfInBounds j u) {cls:=.type "list",data:=.seq its.toArray n}={cls:=.type "list",data:=.seq (its.set j u).toArray n}:=by
 simp [Obj.mapSeq]
theorem Inv.lst {pins:List (Addr×Obj)} {Z:St} {H:Hp} {s:Shared} {p:Addr} {xs:List V} (I:Inv X pins Z H s) (h:H p=some (.lst xs)):
  ∃ (its:List Value) (n:Nat),Vals xs its/\s.heap.get? p=some {cls:=.type "list",data:=.seq its.toArray n}/\xs.length<=sizeLine:=by
 obtain ⟨z,its,n,r,e⟩:=I.hok p _ h
 exact ⟨its,n,r,e,z⟩
theorem Inv.lstUpd {pins:List (Addr×Obj)} {Z:St} {H:Hp} {s:Shared} {p:Addr} {xs ys:List V} {its its':List Value} {n n':Nat} {f:Obj->Obj} (I:Inv X pins Z H s) (h:H p=some (.lst xs))
  (ho:s.heap.get? p=some {cls:=.type "list",data:=.seq its.toArray n}) (hf:f {cls:=.type "list",data:=.seq its.toArray n}={cls:=.type "list",data:=.seq its'.toArray n'}) (r:Vals ys its') (hz:ys.length<=sizeLine) (t:Nat):
  Inv X pins Z (upd H p (.lst ys)) {s with heap:=s.heap.update p f,toks:=t}:=by
 have e:(s.heap.update p f).get? p=some {cls:=.type "list",data:=.seq its'.toArray n'}:=by
  rw [Heap.get?_update_self f ho (by rw [hf] <;> rfl),hf]
 refine I.write (x:=p) (e:=p) (by rw [h];trivial) (.inl rfl) (fun b u hb q=>(Heap.get?_update_other _ _ (Ne.symm hb)).trans q) ⟨_,e⟩ ?_
 exact ⟨hz,its',n',r,e⟩
inductive xK  (o:V) (i:V) (v:V) (H:Hp) (Q:(Hp->Prop)):Prop
 | mk: ∀ p xs k j,(o=.ref p)->(i=.int k)->(H p=some (.lst xs))->(ixN xs.length k=some j)->(Q (upd H p (.lst (xs.set j v))))->xK o i v H Q
theorem uu:Ar X xK:=by
 intro pins s Z H o i v ov iv u Q I ro ri rv h
 obtain ⟨p,xs,k,j,rfl,rfl,hp,hj,q⟩:=h
 cases ro
 obtain ⟨t,rfl⟩:=ri
 obtain ⟨its,n,r,ho,hz⟩:=I.lst hp
 obtain ⟨h1,h2,h3,h4⟩:=rD hj
 have hl:=r.length
 have hn:=ja
 have I':Inv X pins Z (upd H p (.lst (xs.set j v))) {s with heap:=s.heap.update p (Obj.mapSeq (·.setIfInBounds j u))}:=
  I.lstUpd hp ho (qg its n j u) (r.set rv j) (by rw [List.length_set];exact hz) s.toks
 by_cases h0:0<=k
 ·have hk:k.toNat=j:=by
   rw [seqIndex_of h0 h4]at h1
   exact Option.some.inj h1
  exact PySem.W.ki_setAt ho h0 (by lia) (by rw [List.size_toArray,<- hl];exact h4) (by rw [hk];exact ⟨_,I',q⟩)
 ·have hk:(k+ (its.toArray.size:Int)).toNat=j:=by
   rw [seqIndex_neg (by lia) h3]at h1
   rw [List.size_toArray,<- hl]
   exact Option.some.inj h1
  exact PySem.W.ki_setBack ho (by lia) (by rw [List.size_toArray,<- hl];exact h3) (by lia) (by rw [hk];exact ⟨_,I',q⟩)
theorem md (lo hi:Option Int) (n:Nat):(sliceBounds lo hi none n).1=((HT.sIx n 0 lo:Nat):Int)/\(sliceBounds lo hi none n).2.1=((HT.sIx n n hi:Nat):Int)/\(sliceBounds lo hi none n).2.2=1:=by
 refine ⟨?_,?_,rfl⟩
 ·cases lo with
  | none=>simp [sliceBounds,HT.sIx]
  | some i=>
   simp only [sliceBounds,HT.sIx,Option.getD_none,show (1:Int) >0 by decide,if_true]
   by_cases h:i<0
   ·simp only [h,if_true] <;> lia
   ·simp only [h,if_false] <;> lia
 ·cases hi with
  | none=>simp [sliceBounds,HT.sIx]
  | some i=>
   simp only [sliceBounds,HT.sIx,Option.getD_none,show (1:Int) >0 by decide,if_true]
   by_cases h:i<0
   ·simp only [h,if_true] <;> lia
   ·simp only [h,if_false] <;> lia
theorem ku (its:List Value) (lo hi:Option Int):slicePick its.toArray lo hi none=((its.drop (HT.sIx its.length 0 lo)).take (HT.sIx its.length its.length hi-HT.sIx its.length 0 lo)).toArray:=by
 obtain ⟨h1,h2,h3⟩:=md lo hi its.toArray.size
 unfold slicePick
 rw [h1,h2,h3]
 simp only [sliceRange_one,pick_run,List.size_toArray] <;> rfl
inductive zN (K:W.Frag) (x:V) (lo:Option Int) (hi:Option Int) (H:Hp) (Q:VK):Prop
 | mk: ∀ a xs,(x=.ref a)->(SqL K H a xs)->(∀ p,H p=none->Q (.ref p) (upd H p (.lst (cW xs lo hi))))->zN K x lo hi H Q
theorem bJ:SlR X (zN X.K):=by
 intro pins s Z H x v vl vu lo hi sl Q I rx hs pl pu h
 obtain ⟨a,xs,rfl,hx,q⟩:=h
 cases rx
 obtain ⟨its,r,ht,hz⟩:=I.list hx
 have hlen:=r.length
 refine ⟨"list",_,slot_list_getitem.lookup,ht.isList.typeIs,?_⟩
 refine wpAny_getItem_list_slice ht.isList hs pl pu .none (by simp) ?_ (by rw [List.size_toArray] <;> lia)
 rw [ku,<- hlen]
 refine ⟨.ref s.heap.objs.size,_,I.laid (t':=s.toks) (o:=.lst (cW xs lo hi)) (fun b ob q=>Heap.get?_push_of_some _ q) (Nat.le_refl _) ?_,rfl,q _ (I.hok.fresh (Nat.le_refl _))⟩
 exact ⟨Nat.le_trans (jo xs lo hi) hz,_,0,(r.drop (HT.sIx xs.length 0 lo)).take (HT.sIx xs.length xs.length hi-HT.sIx xs.length 0 lo),Heap.get?_push_size _ rfl⟩
noncomputable def iH:V->Bool
 | .non=>true
 | .bl _=>true
 | .int _=>true
 | .str _=>true
 | _=>false
noncomputable def eqV:V->V->Bool
 | .non,.non=>true
 | .bl a,.bl b=>a==b
 | .bl a,.int b=>(if a then 1 else 0)==b
 | .int a,.bl b=>a==(if b then 1 else 0)
 | .int a,.int b=>a==b
 | .str a,.str b=>a==b
 | _,_=>false
theorem y8 {A:Around} {s:Shared} {y x:V} {u v:Value} (ry:RelV y u) (rx:RelV x v) (fy:iH y=true) (fx:iH x=true):SeqAt.EqAt A s u v (eqV y x):=by
 cases y with
 | non=>
  cases ry
  cases x with
  | non=>cases rx;exact SeqAt.EqAt.same _
  | bl b=>cases rx;exact SeqAt.EqAt.none_bool b
  | int b=>obtain ⟨t,rfl⟩:=rx;exact SeqAt.EqAt.none_int b t
  | str b=>obtain ⟨t,rfl⟩:=rx;exact SeqAt.EqAt.none_str b t
  | _=>exact absurd (show false=true from fx) Bool.false_ne_true
 | bl a=>
  cases ry
  cases x with
  | non=>cases rx;exact SeqAt.EqAt.bool_none a
  | bl b=>cases rx;exact SeqAt.EqAt.bool_bool a b
  | int b=>obtain ⟨t,rfl⟩:=rx;exact SeqAt.EqAt.bool_int a b t
  | str b=>obtain ⟨t,rfl⟩:=rx;exact SeqAt.EqAt.bool_str a b t
  | _=>exact absurd (show false=true from fx) Bool.false_ne_true
 | int a=>
  obtain ⟨t',rfl⟩:=ry
  cases x with
  | non=>cases rx;exact SeqAt.EqAt.int_none a t'
  | bl b=>cases rx;exact SeqAt.EqAt.int_bool a t' b
  | int b=>obtain ⟨t,rfl⟩:=rx;exact SeqAt.EqAt.int_int a t' b t
  | str b=>obtain ⟨t,rfl⟩:=rx;exact SeqAt.EqAt.int_str a t' b t
  | _=>exact absurd (show false=true from fx) Bool.false_ne_true
 | str a=>
  obtain ⟨t',rfl⟩:=ry
  cases x with
  | non=>cases rx;exact SeqAt.EqAt.str_none a t'
  | bl b=>cases rx;exact SeqAt.EqAt.str_bool a t' b
  | int b=>obtain ⟨t,rfl⟩:=rx;exact SeqAt.EqAt.str_int a t' b t
  | str b=>obtain ⟨t,rfl⟩:=rx;exact SeqAt.EqAt.str_str a t' b t
  | _=>exact absurd (show false=true from fx) Bool.false_ne_true
 | _=>exact absurd (show false=true from fy) Bool.false_ne_true
noncomputable def eqU (x:V) (u:Value):Bool:=match u with
 | .none=>eqV .non x
 | .bool b=>eqV (.bl b) x
 | .int i _=>eqV (.int i) x
 | .str z _=>eqV (.str z) x
 | _=>false
theorem vQ {x y:V} {u:Value} (r:RelV y u) (f:iH y=true):eqU x u=eqV y x:=by
 cases y with
 | non=>cases r;rfl
 | bl b=>cases r;rfl
 | int i=>obtain ⟨t,rfl⟩:=r;rfl
 | str z=>obtain ⟨t,rfl⟩:=r;rfl
 | _=>exact absurd (show false=true from f) Bool.false_ne_true
theorem iL {x:V}: ∀ {xs:List V} {us:List Value},Vals xs us->xs.all iH=true->us.any (eqU x)=xs.any fun y=>eqV y x
 | _,_,.nil,_=>rfl
 | y::xs,u::us,.cons r t,f=>by
  rw [List.all_cons,Bool.and_eq_true]at f
  rw [List.any_cons,List.any_cons,vQ r f.1,iL t f.2]
theorem gf {A:Around} {s:Shared} {x:V} {v:Value} (rx:RelV x v) (fx:iH x=true): ∀ {xs:List V} {us:List Value},Vals xs us->xs.all iH=true-> ∀ u∈us,SeqAt.EqAt A s u v (eqU x u)
 | _,_,.nil,_=>fun u hu=>by cases hu
 | y::xs,u::us,.cons r t,f=>fun u' hu=>by
  rw [List.all_cons,Bool.and_eq_true]at f
  rcases List.mem_cons.mp hu with rfl | hu
  ·rw [vQ r f.1];exact y8 r rx f.1 fx
  ·exact gf rx fx t f.2 u' hu
noncomputable def inV (x:V) (xs:List V):Bool:=xs.any fun y=>eqV y x
inductive rIn (K:W.Frag) (neg:Bool) (x:V) (y:V) (H:Hp) (Q:VK):Prop
 | mk: ∀ p xs,(y=.ref p)->((SqL K H p xs\/SqT K H p xs))->(iH x=true)->(xs.all iH=true)->(Q (.bl (if neg then !inV x xs else inV x xs)) H)->rIn K neg x y H Q
theorem fi:OpR X (compareOp .In) (rIn X.K false):=by
 intro pins s Z H x y v u Q I rx ry h
 obtain ⟨p,xs,rfl,hq,fx,fs,q⟩:=h
 cases ry
 rcases hq with hq | hq
 ·obtain ⟨its,r,pl,hz⟩:=I.list hq
  refine SeqAt.in_listAt (eqU x) pl.isList (fun w hw=>gf rx fx r fs w (by simpa using hw)) ⟨.bl _,H,I,rfl,?_⟩
  rw [show its.toArray.any (eqU x)=its.any (eqU x) by simp,iL r fs]
  exact q
 ·obtain ⟨its,r,pl,hz⟩:=I.tuple hq
  refine SeqAt.in_tupleAt (eqU x) pl (fun w hw=>gf rx fx r fs w (by simpa using hw)) ⟨.bl _,H,I,rfl,?_⟩
  rw [show its.toArray.any (eqU x)=its.any (eqU x) by simp,iL r fs]
  exact q
theorem dM:OpR X (compareOp .NotIn) (rIn X.K true):=by
 intro pins s Z H x y v u Q I rx ry h
 obtain ⟨p,xs,rfl,hq,fx,fs,q⟩:=h
 cases ry
 rcases hq with hq | hq
 ·obtain ⟨its,r,pl,hz⟩:=I.list hq
  refine SeqAt.notIn_listAt (eqU x) pl.isList (fun w hw=>gf rx fx r fs w (by simpa using hw)) ⟨.bl _,H,I,rfl,?_⟩
  rw [show its.toArray.any (eqU x)=its.any (eqU x) by simp,iL r fs]
  exact q
 ·obtain ⟨its,r,pl,hz⟩:=I.tuple hq
  refine SeqAt.notIn_tupleAt (eqU x) pl (fun w hw=>gf rx fx r fs w (by simpa using hw)) ⟨.bl _,H,I,rfl,?_⟩
  rw [show its.toArray.any (eqU x)=its.any (eqU x) by simp,iL r fs]
  exact q
inductive de (K:W.Frag) (xs:List V) (H:Hp) (Q:VK):Prop
 | mk: ∀ p ys,(xs=[.ref p])->((SqL K H p ys\/SqT K H p ys))->(Q (.int ys.length) H)->de K xs H Q
theorem aA:eG X (.builtin "len") (de X.K):=by
 intro pins s Z H xs us Q I r h
 obtain ⟨p,ys,rfl,hq,q⟩:=h
 obtain ⟨u,rfl,rx⟩:=fO r
 cases rx
 have hn:=ja
 rcases hq with hq | hq
 ·obtain ⟨its,r',pl,hz⟩:=I.list hq
  have hlen:=r'.length
  exact Calls.call_len_list pl.isList (by simp only [List.size_toArray] <;> lia) ⟨.int ys.length,H,I.tok _,⟨s.toks+1,by rw [List.size_toArray,hlen]⟩,q⟩
 ·obtain ⟨its,r',pl,hz⟩:=I.tuple hq
  have hlen:=r'.length
  exact len_tuple pl (by simp only [List.size_toArray] <;> lia) ⟨.int ys.length,H,I.tok _,⟨s.toks+1,by rw [List.size_toArray,hlen]⟩,q⟩
inductive mz (K:W.Frag) (xs:List V) (H:Hp) (Q:VK):Prop
 | mk: ∀ p ys,(xs=[.ref p])->((SqL K H p ys\/SqT K H p ys))->(∀ l,H l=none->Q (.ref l) (upd H l (.lst ys)))->mz K xs H Q
theorem ny:eG X (.type "list") (mz X.K):=by
 intro pins s Z H xs us Q I r h
 obtain ⟨p,ys,rfl,hq,q⟩:=h
 obtain ⟨u,rfl,rx⟩:=fO r
 cases rx
 have fin: ∀ (its:List Value),Vals ys its->ys.length<=sizeLine-> ∀ (h':Heap) (c':Nat),(∀ b o',s.heap.get? b=some o'->h'.get? b=some o')->
   h'.get? s.heap.objs.size=some {cls:=.type "list",dict:=none,data:=.seq its.toArray c',slots:= #[]}->EP X pins Z Q (.ref s.heap.objs.size) {s with heap:=h'}:=fun its r' hz h' c' kp e=>
  ⟨.ref s.heap.objs.size,_,I.laid (t':=s.toks) kp (Nat.le_refl _) (show ObjOk X.prog X.w _ h' _ (.lst ys)from ⟨hz,its,c',r',e⟩),rfl,q _ (I.hok.fresh (Nat.le_refl _))⟩
 rcases hq with hq | hq
 ·obtain ⟨its,r',pl,hz⟩:=I.list hq
  have hlen:=r'.length
  obtain ⟨o,ho,hc,n,hd⟩:=pl.isList
  exact call_list_seq p (.inl rfl) ho hc hd (fun h' c' kp e=>fin its r' hz h' c' kp e) (by simp only [List.size_toArray] <;> lia)
 ·obtain ⟨its,r',pl,hz⟩:=I.tuple hq
  have hlen:=r'.length
  obtain ⟨o,ho,hc,n,hd⟩:=pl
  exact call_list_seq p (.inr rfl) ho hc hd (fun h' c' kp e=>fin its r' hz h' c' kp e) (by simp only [List.size_toArray] <;> lia)
inductive dX (K:W.Frag) (xs:List V) (H:Hp) (Q:VK):Prop
 | mk: ∀ p ys,(xs=[.ref p])->(((SqL K H p ys/\ ∀ l,H l=none->Q (.ref l) (upd H l (.tup ys)))\/(SqT K H p ys/\Q (.ref p) H)))->dX K xs H Q
theorem bw:eG X (.type "tuple") (dX X.K):=by
 intro pins s Z H xs us Q I r h
 obtain ⟨p,ys,rfl,h⟩:=h
 obtain ⟨u,rfl,rx⟩:=fO r
 cases rx
 rcases h with ⟨hq,q⟩ | ⟨hq,q⟩
 ·obtain ⟨its,r',pl,hz⟩:=I.list hq
  have hlen:=r'.length
  refine call_tuple_list pl.isList (fun h' kp=>?_) (by simp only [List.size_toArray] <;> lia)
  have I1:Inv X pins Z H {s with heap:=h'}:=I.kept (t':=s.toks) kp
  have I2:Inv X pins Z (upd H h'.objs.size (.tup ys)) {s with heap:=h'.push {cls:=.type "tuple",data:=.seq its.toArray}}:=
   I1.laid (t':=s.toks) (fun b o e=>Heap.get?_push_of_some _ e) (Nat.le_refl _) (show ObjOk X.prog X.w _ _ _ (.tup ys)from ⟨hz,its,r',IsTup.new _ _⟩)
  exact ⟨.ref h'.objs.size,_,I2,rfl,q _ (I1.hok.fresh (Nat.le_refl _))⟩
 ·obtain ⟨its,r',pl,hz⟩:=I.tuple hq
  exact call_tuple_same pl ⟨.ref p,H,I,rfl,q⟩
def tyV (K:W.Frag) (T:String) (x:V) (H:Hp):Prop:=match x with
 | .str _=>T="str"
 | .int _=>T="int"
 | .ref p=>(T="list"/\ ∃ xs,SqL K H p xs)\/(T="tuple"/\ ∃ o,K.lookup p=some o/\o.cls=.type "tuple"/\o.dict=none)\/
   (T="dict"/\((∃ kvs,H p=some (.dK kvs))\/ ∃ kvs,H p=some (.dT kvs)))\/(T="set"/\ ∃ S n,H p=some (.set S n))
 | _=>False
theorem uf {pins:List (Addr×Obj)} {Z:St} {H:Hp} {s:Shared} {T:String} {x:V} {v:Value} (I:Inv X pins Z H s) (r:RelV x v) (ty:tyV X.K T x H):
  s.TypeIs v T/\ ∀ a,v=.ref a-> ∃ ob,s.heap.get? a=some ob/\ob.dict=none:=by
 cases x with
 | str z=>
  obtain ⟨t,rfl⟩:=r
  cases (show T="str" from ty)
  exact ⟨typeIs_str s z t,fun _ e=>nomatch e⟩
 | int i=>
  obtain ⟨t,rfl⟩:=r
  cases (show T="int" from ty)
  exact ⟨typeIs_int s i t,fun _ e=>nomatch e⟩
 | ref p=>
  cases r
  rcases ty with ⟨rfl,xs,hq⟩ | ⟨rfl,o,hk,hc,hd⟩ | ⟨rfl,hk⟩ | ⟨rfl,S,n,hk⟩
  ·obtain ⟨its,_,pl,_⟩:=I.list hq
   refine ⟨pl.isList.typeIs,fun a e=>?_⟩
   cases e
   obtain ⟨o,n,e,c,hd,_⟩:=pl
   exact ⟨o,e,hd⟩
  ·refine ⟨⟨o,I.kIn p o hk,hc⟩,fun a e=>?_⟩
   cases e
   exact ⟨o,I.kIn _ o hk,hd⟩
  ·have z: ∃ o,s.heap.get? p=some o/\o.ExactDict:=by
    rcases hk with ⟨kvs,hk⟩ | ⟨kvs,hk⟩
    ·obtain ⟨_,_,_,_,o,_,_,e,ex,_⟩:=I.hok p _ hk
     exact ⟨o,e,ex⟩
    ·obtain ⟨_,_,_,_,o,_,_,e,ex,_⟩:=I.hok p _ hk
     exact ⟨o,e,ex⟩
   obtain ⟨o,e,ex⟩:=z
   refine ⟨⟨o,e,ex.1⟩,fun a e2=>?_⟩
   cases e2
   exact ⟨o,e,ex.2.1⟩
  ·obtain ⟨o,_,_,_,e,ex,_⟩:=I.hok p _ hk
   refine ⟨⟨o,e,ex.1⟩,fun a e2=>?_⟩
   cases e2
   exact ⟨o,e,ex.2.1⟩
 | _=>exact False.elim ty
def Ay (K:W.Frag) (T:String) (r:V->List V->Hp->VK->Prop) (to:TE):TE:=fun Z H Q=>to Z H fun x H1=>tyV K T x H1/\r x [] H1 Q
def tBM (K:W.Frag) (T:String) (r:V->List V->Hp->VK->Prop) (to:TE) (t:TA):TE:=fun Z H Q=>to Z H fun x H1=>tyV K T x H1/\t Z H1 fun xs H2=>r x xs H2 Q
variable {o e:Expr} {es:List Expr} {to:TE} {t:TA} {name:Str} {apos cpos:Pos} {T id:String} {r:V->List V->Hp->VK->Prop}
theorem yt (pa:PlainAttrs T) (slot:Slot T name id) (hty:typeOf (.builtin id)=pure (.type "method_descriptor")) (hm:MtR X id r) (ho:PE X o to)
  (hbase:attributeBase o name X.env (eval o X.env)=eval o X.env:=by rfl) (hline:(apos.endLine==cpos.line)=true:=by rfl):PE X (.Call (.Attribute o name apos) [] [] cpos) (Ay X.K T r to):=by
 intro pins s Z H Q I h
 refine wpAny_Call_method0_late hbase hline (thn (ho pins s Z H _ I h) fun v s1 ⟨x,H1,I1,r1,ty,q1⟩=>?_)
 obtain ⟨h1,h2⟩:=uf I1 r1 ty
 exact ⟨T,id,pa,slot,hty,h1,h2,Calls.callWith_builtin rfl (PySem.evalArgs_none (hm pins s1 Z H1 x [] v [] Q I1 r1 .nil q1))⟩
theorem dH (pa:PlainAttrs T) (slot:Slot T name id) (hty:typeOf (.builtin id)=pure (.type "method_descriptor")) (hm:MtR X id r) (ho:PE X o to) (ha:PA X (e::es) t)
  (hbase:attributeBase o name X.env (eval o X.env)=eval o X.env:=by rfl)
  (hfew:((backTo cpos (starEach (e::es) X.env)).all (fun x=> !x.1)&&(backToKw cpos (keywordEach [] X.env)).all (fun x=>x.1.isSome)
   &&decide ((e::es).length+ ([]:List Keyword).length+ (if ([]:List Keyword).isEmpty then 0 else 1) <30))=true:=by rfl)
  (hline:(apos.endLine==cpos.line)=true:=by rfl) (hs:starEach (e::es) X.env=(false,eval e X.env)::starEach es X.env:=by rfl) (hplain:(backTo cpos (starEach es X.env)).any (·.1)=false:=by rfl):
  PE X (.Call (.Attribute o name apos) (e::es) [] cpos) (tBM X.K T r to t):=by
 intro pins s Z H Q I h
 refine wpAny_Call_method_late hbase hfew hline rfl (thn (ho pins s Z H _ I h) fun v s1 ⟨x,H1,I1,r1,ty,q1⟩=>?_)
 obtain ⟨h1,h2⟩:=uf I1 r1 ty
 refine ⟨T,id,pa,slot,hty,h1,h2,?_⟩
 have hA:=ha cpos pins s1 Z H1 _ I1 q1
 rw [hs]at hA ⊢
 refine Calls.callWith_builtin (by show (false||(backTo cpos (starEach es X.env)).any (·.1))=false;rw [hplain] <;> rfl) (Calls.evalArgs_plain ?_)
 exact thn hA fun us s2 ⟨vs,H2,I2,r2,q2⟩=>hm pins s2 Z H2 x vs v us Q I2 r1 r2 q2
end
def MtM (X:Cx) (id:String) (r:V->List V->Hp->VK->Prop):Prop:=
 ∀ (pins:List (Addr×Obj)) (s:Shared) (Z:St) (H:Hp) (x:V) (xs:List V) (v:Value) (us:List Value) (Q:VK),Inv X pins Z H s->RelV x v->Vals xs us->r x xs H Q->
  wpAny (model X.prog X.w) X.A (call (.builtin id) (v::us)) (EP X pins Z Q) X.xe s
theorem Vals.one: ∀ {x:V} {us:List Value},Vals [x] us-> ∃ u,us=[u]/\RelV x u
 | _,_,.cons r .nil=>⟨_,rfl,r⟩
theorem Vals.zero: ∀ {us:List Value},Vals [] us->us=[]
 | _,.nil=>rfl
theorem Vals.dropLast {xs:List V} {us:List Value} (h:Vals xs us):Vals xs.dropLast us.dropLast:=by
 induction h with
 | nil=>exact .nil
 | cons r t ih=>
  cases t with
  | nil=>exact .nil
  | cons q t'=>exact .cons r ih
theorem qt {α:Type} (l:List α):l.eraseIdx (l.length-1)=l.dropLast:=by
 induction l with
 | nil=>rfl
 | cons a r ih=>
  cases r with
  | nil=>rfl
  | cons b r=>
   have e:(a::b::r).length-1=((b::r).length-1) +1:=by
    have h1:(a::b::r).length=r.length+2:=rfl
    have h2:(b::r).length=r.length+1:=rfl
    lia
   rw [e,List.eraseIdx_cons_succ,ih]
   all_goals rfl
section
variable {X:Cx} {pins:List (Addr×Obj)} {Z:St} {H:Hp} {s:Shared} {l b:Addr} {xs ys zs:List V}
theorem Inv.lset {its its':List Value} {n:Nat} {f:Array Value->Array Value} {t':Nat} (I:Inv X pins Z H s) (hH:H l=some (.lst xs))
  (e:s.heap.get? l=some {cls:=.type "list",data:=.seq its.toArray n}) (hf:f its.toArray=its'.toArray) (hv:Vals ys its') (hz:ys.length<=sizeLine):
  Inv X pins Z (upd H l (.lst ys)) {s with heap:=s.heap.update l (Obj.mapSeq f),toks:=t'}:=by
 have q:=PySem.IsL.update e f
 rw [hf]at q
 refine I.write (x:=l) (e:=l) (by rw [hH];exact trivial) (.inl rfl) (fun b' u hb hu=>(Heap.get?_update_other s.heap (Obj.mapSeq f) (Ne.symm hb)).trans hu) ⟨_,q⟩ ?_
 exact ⟨hz,its',_,hv,q⟩
theorem Inv.lnew {its:List Value} {t':Nat} (I:Inv X pins Z H s) (hv:Vals ys its) (hz:ys.length<=sizeLine):
  Inv X pins Z (upd H s.heap.objs.size (.lst ys)) {s with heap:=s.heap.push {cls:=.type "list",data:=.seq its.toArray},toks:=t'}:=
 I.laid (fun _ _ q=>Heap.get?_push_of_some _ q) (Nat.le_refl _) ⟨hz,its,0,hv,Heap.get?_push_size _ rfl⟩
theorem Inv.fresh (I:Inv X pins Z H s):H s.heap.objs.size=none:=I.hok.fresh (Nat.le_refl _)
theorem Inv.lstM (I:Inv X pins Z H s) (hH:H l=some (.lst xs)):xs.length<=sizeLine/\ ∃ (its:List Value) (n:Nat),Vals xs its/\xs.length=its.length/\s.heap.get? l=some {cls:=.type "list",data:=.seq its.toArray n}:=by
 obtain ⟨z,its,n,r,e⟩:=I.hok l _ hH
 exact ⟨z,its,n,r,r.length,e⟩
theorem oB {n:Nat} (h:n<=sizeLine):Builtin.List.listTooLong n=false:=by
 unfold Builtin.List.listTooLong
 exact decide_eq_false (by lia)
end
section
variable {X:Cx}
inductive rg  (x:V) (vs:List V) (H:Hp) (Q:VK):Prop
 | mk: ∀ l xs y,(x=.ref l)->(vs=[y])->(H l=some (.lst xs))->(xs.length<sizeLine)->(Q .non (upd H l (.lst (xs++[y]))))->rg x vs H Q
theorem bM:MtM X "list.append" rg:=by
 intro pins s Z H x vs v us Q I rx rv h
 obtain ⟨l,xs,y,rfl,rfl,hH,hz,q⟩:=h
 cases rx
 obtain ⟨u,rfl,ru⟩:=rv.one
 obtain ⟨z,its,n,r,hl,e⟩:=I.lstM hH
 refine call_meets F.slot_list_append ⟨_,e,rfl⟩ F.entry_list_append (F.args_list_append_2 _ _) (PySem.list_append l its.toArray n u (by rw [List.size_toArray];lia)) ⟨e,?_⟩
 refine ⟨.non,_,I.lset (its':=its++[u]) hH e (by simp) (r.append (.cons ru .nil)) ?_,rfl,q⟩
 rw [List.length_append,List.length_singleton]
 lia
inductive re  (x:V) (vs:List V) (H:Hp) (Q:VK):Prop
 | mk: ∀ l b xs zs,(x=.ref l)->(vs=[.ref b])->(H l=some (.lst xs))->(H b=some (.lst zs))->(xs.length+zs.length<=sizeLine)->(Q .non (upd H l (.lst (xs++zs))))->re x vs H Q
theorem lB:MtM X "list.extend" re:=by
 intro pins s Z H x vs v us Q I rx rv h
 obtain ⟨l,b,xs,zs,rfl,rfl,hH,hB,hz,q⟩:=h
 cases rx
 obtain ⟨u,rfl,ru⟩:=rv.one
 cases ru
 obtain ⟨z,its,n,r,hl,e⟩:=I.lstM hH
 obtain ⟨z2,its2,n2,r2,hl2,e2⟩:=I.lstM hB
 have hsz:its.toArray.size+its2.toArray.size<=sizeLine:=by rw [List.size_toArray,List.size_toArray];lia
 have hlong: ¬ (!its.toArray.isEmpty&&Builtin.List.listTooLong (its.toArray.size+its2.toArray.size))=true:=by
  rw [oB hsz,Bool.and_false]
  exact Bool.false_ne_true
 refine call_meets F.slot_list_extend ⟨_,e,rfl⟩ F.entry_list_extend (F.args_list_extend_2 _ _)
  (AutoSeq1.list_extend_list_list_0 l its.toArray n b its2.toArray n2 hlong (by rw [List.size_toArray];lia) (by lia)) ⟨e,e2,?_⟩
 refine ⟨.non,_,I.lset (its':=its++its2) hH e (by simp) (r.append r2) ?_,rfl,q⟩
 rw [List.length_append]
 lia
inductive zO  (x:V) (vs:List V) (H:Hp) (Q:VK):Prop
 | mk: ∀ l xs y,(x=.ref l)->(vs=[])->(H l=some (.lst xs))->(xs[xs.length-1]? =some y)->(Q y (upd H l (.lst xs.dropLast)))->zO x vs H Q
theorem yJ:MtM X "list.pop" zO:=by
 intro pins s Z H x vs v us Q I rx rv h
 obtain ⟨l,xs,y,rfl,rfl,hH,hy,q⟩:=h
 cases rx
 have hus:=rv.zero
 subst hus
 obtain ⟨z,its,n,r,hl,e⟩:=I.lstM hH
 obtain ⟨u,hu,ru⟩:=r.get hy
 have hy':its.toArray[its.toArray.size-1]? =some u:=by
  show its.toArray[its.length-1]? =some u
  rw [<- Array.getElem?_toList,<- hl]
  exact hu
 refine call_meets F.slot_list_pop ⟨_,e,rfl⟩ F.entry_list_pop (F.args_list_pop_1 _) (MeetsSeq.list_pop_last l its.toArray n u hy' (by rw [List.size_toArray];lia)) ⟨e,?_⟩
 refine ⟨y,_,I.lset (its':=its.dropLast) hH e ?_ r.dropLast ?_,ru,q⟩
 ·show its.toArray.eraseIdxIfInBounds (its.toArray.size-1)=its.dropLast.toArray
  rw [List.size_toArray,List.eraseIdxIfInBounds_toArray,qt]
 ·rw [List.length_dropLast]
  lia
inductive zT  (x:V) (y:V) (H:Hp) (Q:VK):Prop
 | mk: ∀ l b xs zs,(x=.ref l)->(y=.ref b)->(H l=some (.lst xs))->(H b=some (.lst zs))->(xs.length+zs.length<=sizeLine)->(∀ p,H p=none->Q (.ref p) (upd H p (.lst (xs++zs))))->zT x y H Q
theorem dn:OpR X (binaryOp .Add) zT:=by
 intro pins s Z H x y v u Q I rx ry h
 obtain ⟨l,b,xs,zs,rfl,rfl,hH,hB,hz,q⟩:=h
 cases rx
 cases ry
 obtain ⟨z,its,n,r,hl,e⟩:=I.lstM hH
 obtain ⟨z2,its2,n2,r2,hl2,e2⟩:=I.lstM hB
 refine PySem.P.add_list e e2 ?_ (by rw [List.size_toArray,List.size_toArray];lia)
 have ea:its.toArray++its2.toArray=(its++its2).toArray:=by simp
 rw [ea]
 exact ⟨.ref _,_,I.lnew (t':=s.toks) (r.append r2) (by rw [List.length_append];lia),rfl,q _ I.fresh⟩
end
section
variable {κ:Type} [DecidableEq κ]
noncomputable def aW (kvs:List (κ×V)) (k:κ):Option V:=(kvs.find? fun kv=>decide (kv.1=k)).map (·.2)
noncomputable def cz (kvs:List (κ×V)) (k:κ) (v:V):List (κ×V):=
 if (kvs.any fun kv=>decide (kv.1=k))=true then kvs.map (fun kv=>if kv.1=k then (kv.1,v)else kv)else kvs++[(k,v)]
theorem ue {k:κ}:aW ([]:List (κ×V)) k=none:=rfl
theorem cb {p:κ×V} {r:List (κ×V)} {k:κ} (e:p.1=k):aW (p::r) k=some p.2:=by simp [aW,List.find?_cons,e]
theorem bc {p:κ×V} {r:List (κ×V)} {k:κ} (e: ¬ p.1=k):aW (p::r) k=aW r k:=by simp [aW,List.find?_cons,e]
theorem dS (k:κ): ∀ kvs:List (κ×V),(kvs.any fun kv=>decide (kv.1=k))=(aW kvs k).isSome
 | []=>rfl
 | p::r=>by
  rw [List.any_cons]
  by_cases e:p.1=k
  ·simp only [cb e,decide_eq_true e,Bool.true_or,Option.isSome_some]
  ·rw [bc e,decide_eq_false e,Bool.false_or];exact dS k r
theorem nI (k j:κ) (y:V): ∀ kvs:List (κ×V),aW (kvs.map fun kv=>if kv.1=k then (kv.1,y)else kv) j=(aW kvs j).map fun x=>if j=k then y else x
 | []=>rfl
 | p::r=>by
  have ih:=nI k j y r
  rw [List.map_cons]
  by_cases h:p.1=k
  ·rw [if_pos h]
   by_cases e:p.1=j
   ·rw [cb (p:=(p.1,y)) e,cb e,Option.map_some,if_pos (e.symm.trans h)]
   ·rw [bc (p:=(p.1,y)) e,bc e,ih]
  ·rw [if_neg h]
   by_cases e:p.1=j
   ·rw [cb (p:=p) e,cb e,Option.map_some,if_neg (fun z=>h (e.trans z))]
   ·rw [bc (p:=p) e,bc e,ih]
theorem kM (k j:κ) (y:V): ∀ kvs:List (κ×V),aW kvs k=none->aW (kvs++[(k,y)]) j=if j=k then some y else aW kvs j
 | [],_=>by
  by_cases e:k=j
  ·rw [if_pos e.symm];exact cb (p:=(k,y)) e
  ·rw [if_neg (fun z=>e z.symm)];exact bc (p:=(k,y)) e
 | p::r,hn=>by
  rw [List.cons_append]
  have hk: ¬ p.1=k:=fun z=>by rw [cb z]at hn;cases hn
  rw [bc hk]at hn
  have ih:=kM k j y r hn
  by_cases e:p.1=j
  ·rw [cb e,cb e,if_neg (fun z=>hk (e.trans z))]
  ·rw [bc e,bc e,ih]
theorem df (kvs:List (κ×V)) (k j:κ) (y:V):aW (cz kvs k y) j=if j=k then some y else aW kvs j:=by
 unfold cz
 by_cases a:(kvs.any fun kv=>decide (kv.1=k))=true
 ·rw [if_pos a,nI]
  rw [dS]at a
  by_cases e:j=k
  ·obtain ⟨x,hx⟩:=Option.isSome_iff_exists.mp a
   rw [if_pos e,e,hx,Option.map_some,if_pos rfl]
  ·rw [if_neg e]
   cases aW kvs j with
   | none=>rfl
   | some x=>rw [Option.map_some,if_neg e]
 ·rw [if_neg a]
  refine kM k j y kvs ?_
  rw [dS]at a
  cases q:aW kvs k with
  | none=>rfl
  | some x=>rw [q]at a;exact (a rfl).elim
theorem cN (kvs:List (κ×V)) (k:κ) (v:V):(cz kvs k v).length<=kvs.length+1:=by
 unfold cz
 split
 ·rw [List.length_map];lia
 ·rw [List.length_append,List.length_cons,List.length_nil];lia
theorem uM {kvs:List (κ×V)} {k:κ} (v:V) (h:aW kvs k=none):cz kvs k v=kvs++[(k,v)]:=by
 unfold cz
 rw [dS,h]
 exact if_neg (by decide)
theorem RelO.isSome_eq {o:Option V} {u:Option Value} (r:RelO o u):o.isSome=u.isSome:=by
 cases o with
 | none=>cases u with
  | none=>rfl
  | some _=>exact (show False from r).elim
 | some _=>cases u with
  | none=>exact (show False from r).elim
  | some _=>rfl
theorem RelO.getD {o:Option V} {u:Option Value} {d:V} {d':Value} (r:RelO o u) (rd:RelV d d'):RelV (o.getD d) (u.getD d'):=by
 cases o with
 | none=>cases u with
  | none=>exact rd
  | some _=>exact (show False from r).elim
 | some _=>cases u with
  | none=>exact (show False from r).elim
  | some _=>exact r
theorem KV.val {kvs:List (κ×V)} {vs:List (κ×Value)} (r:KV kvs vs) (k:κ):RelO (aW kvs k) (valueAt vs k):=by
 unfold KV at r
 induction r with
 | nil=>exact True.intro
 | @cons p q ps qs h t ih=>
  obtain ⟨h1,h2⟩:=h
  by_cases e:p.1=k
  ·have e':q.1=k:=h1.symm.trans e
   have b:valueAt (q::qs) k=some q.2:=by simp [valueAt,List.find?_cons,e']
   rw [cb e,b];exact h2
  ·have e': ¬ q.1=k:=fun z=>e (h1.trans z)
   have b:valueAt (q::qs) k=valueAt qs k:=by simp [valueAt,List.find?_cons,e']
   rw [bc e,b];exact ih
theorem KV.any {kvs:List (κ×V)} {vs:List (κ×Value)} (r:KV kvs vs) (k:κ):(kvs.any fun kv=>decide (kv.1=k))=vs.any fun kv=>decide (kv.1=k):=by
 unfold KV at r
 induction r with
 | nil=>rfl
 | cons h t ih=>rw [List.any_cons,List.any_cons,ih,h.1]
theorem KV.repl {kvs:List (κ×V)} {vs:List (κ×Value)} (r:KV kvs vs) (k:κ) {y:V} {u:Value} (ry:RelV y u):
  KV (kvs.map fun kv=>if kv.1=k then (kv.1,y)else kv) (vs.map fun kv=>if kv.1=k then (kv.1,u)else kv):=by
 unfold KV at r ⊢
 induction r with
 | nil=>exact .nil
 | @cons p q ps qs h t ih=>
  rw [List.map_cons,List.map_cons]
  refine .cons ?_ ih
  obtain ⟨h1,h2⟩:=h
  by_cases e:p.1=k
  ·rw [if_pos e,if_pos (h1.symm.trans e)];exact ⟨h1,ry⟩
  ·rw [if_neg e,if_neg (fun z=>e (h1.trans z))];exact ⟨h1,h2⟩
theorem KV.put {kvs:List (κ×V)} {vs:List (κ×Value)} (r:KV kvs vs) (k:κ) {y:V} {u:Value} (ry:RelV y u):KV (cz kvs k y) (stored vs k u):=by
 unfold cz stored
 rw [r.any k]
 by_cases e:(vs.any fun kv=>decide (kv.1=k))=true
 ·rw [if_pos e,if_pos e];exact r.repl k ry
 ·rw [if_neg e,if_neg e];exact Paired.snoc r ⟨rfl,ry⟩
theorem KV.length {kvs:List (κ×V)} {vs:List (κ×Value)} (r:KV kvs vs):kvs.length=vs.length:=Paired.length r
end
theorem gj {P:Program} {w:World} {k:Key} {u:Value} (r:RelV (kV k) u):(bd P w).is k u=true:=by
 cases k with
 | inl i=>obtain ⟨t,e⟩:=(show ∃ t,u=Value.int i t from r);subst e;exact oF P w i t
 | inr x=>obtain ⟨t,e⟩:=(show ∃ t,u=Value.str x t from r);subst e;exact oE P w x t
theorem yR {a b:Key} (e:kV a=kV b):a=b:=by
 cases a with
 | inl i=>cases b with
  | inl j=>have e':V.int i=V.int j:=e;injection e' with e';rw [e']
  | inr y=>exact nomatch (show V.int i=V.str y from e)
 | inr x=>cases b with
  | inl j=>exact nomatch (show V.str x=V.int j from e)
  | inr y=>have e':V.str x=V.str y:=e;injection e' with e';rw [e']
theorem rC: ∀ {a b:List Key},a.map kV=b.map kV->a=b
 | [],[],_=>rfl
 | [],_::_,e=>by simp at e
 | _::_,[],e=>by simp at e
 | x::xs,y::ys,e=>by
  rw [List.map_cons,List.map_cons]at e
  injection e with e1 e2
  rw [yR e1,rC e2]
theorem jb {P:Program} {w:World}: ∀ {ks:List Key} {us:List Value},Vals (ks.map kV) us->ItemsAre (bd P w) ks us
 | [],_,r=>by rw [List.map_nil]at r;cases r;exact .nil
 | k::ks,_,r=>by
  rw [List.map_cons]at r
  cases r with
  | cons h t=>exact .cons (gj h) (jb t)
noncomputable abbrev KT (H:Hp):List (List Key×V)->List (List Key×Addr×Value)->Prop:=Paired fun p q=>p.1=q.1/\H q.2.1=some (.tup (p.1.map kV))/\RelV p.2 q.2.2
theorem KT.val {H:Hp} {kvs:List (List Key×V)} {xs:List (List Key×Addr×Value)} (r:KT H kvs xs) (k:List Key):RelO (aW kvs k) ((atKey xs k).map (·.2)):=by
 induction r with
 | nil=>exact True.intro
 | @cons p q ps qs h t ih=>
  obtain ⟨h1,_,h2⟩:=h
  by_cases e:p.1=k
  ·have e':q.1=k:=h1.symm.trans e
   have b:atKey (q::qs) k=some q.2:=by simp [atKey,List.find?_cons,e']
   rw [cb e,b];exact h2
  ·have e': ¬ q.1=k:=fun z=>e (h1.trans z)
   have b:atKey (q::qs) k=atKey qs k:=by simp [atKey,List.find?_cons,e']
   rw [bc e,b];exact ih
theorem KT.repl {H:Hp} {kvs:List (List Key×V)} {xs:List (List Key×Addr×Value)} (r:KT H kvs xs) (k:List Key) {y:V} {u:Value} (ry:RelV y u):
  KT H (kvs.map fun kv=>if kv.1=k then (kv.1,y)else kv) (xs.map (putAt k u)):=by
 induction r with
 | nil=>exact .nil
 | @cons p q ps qs h t ih=>
  rw [List.map_cons,List.map_cons]
  refine .cons ?_ ih
  obtain ⟨h1,h2,h3⟩:=h
  unfold putAt
  by_cases e:p.1=k
  ·rw [if_pos e,if_pos (h1.symm.trans e)];exact ⟨h1,h2,ry⟩
  ·rw [if_neg e,if_neg (fun z=>e (h1.trans z))];exact ⟨h1,h2,h3⟩
theorem KT.put {H:Hp} {kvs:List (List Key×V)} {xs:List (List Key×Addr×Value)} (r:KT H kvs xs) (k:List Key) {b:Addr} {y:V} {u:Value} (hb:H b=some (.tup (k.map kV))) (ry:RelV y u):
  KT H (cz kvs k y) (storedH xs k b u):=by
 have e:(kvs.any fun kv=>decide (kv.1=k))=(atKey xs k).isSome:=by
  rw [dS,(r.val k).isSome_eq,Option.isSome_map]
 unfold cz storedH
 rw [e]
 by_cases q:(atKey xs k).isSome=true
 ·rw [if_pos q,if_pos q];exact r.repl k ry
 ·rw [if_neg q,if_neg q];exact Paired.snoc r ⟨rfl,hb,ry⟩
theorem KT.keeps {H H':Hp} {kvs:List (List Key×V)} {xs:List (List Key×Addr×Value)} (r:KT H kvs xs) (ht: ∀ b ys,H b=some (.tup ys)->H' b=some (.tup ys)):KT H' kvs xs:=
 Paired.mapP r fun _ _ z=>⟨z.1,ht _ _ z.2.1,z.2.2⟩
noncomputable abbrev KP (H:Hp):List ((List Key×(Key×Key))×V)->List ((List Key×(Key×Key))×Addr×Value)->Prop:=Paired fun p q=>p.1=q.1/\(∃ c,H q.2.1=some (.tup [kV p.1.2.1,kV p.1.2.2,.ref c])/\H c=some (.tup (p.1.1.map kV)))/\RelV p.2 q.2.2
theorem KP.val {H:Hp} {kvs:List ((List Key×(Key×Key))×V)} {xs:List ((List Key×(Key×Key))×Addr×Value)} (r:KP H kvs xs) (k:List Key×(Key×Key)):RelO (aW kvs k) ((atKey xs k).map (·.2)):=by
 induction r with
 | nil=>exact True.intro
 | @cons p q ps qs h t ih=>
  obtain ⟨h1,_,h2⟩:=h
  by_cases e:p.1=k
  ·have e':q.1=k:=h1.symm.trans e
   have b:atKey (q::qs) k=some q.2:=by simp [atKey,List.find?_cons,e']
   rw [cb e,b];exact h2
  ·have e': ¬ q.1=k:=fun z=>e (h1.trans z)
   have b:atKey (q::qs) k=atKey qs k:=by simp [atKey,List.find?_cons,e']
   rw [bc e,b];exact ih
theorem KP.repl {H:Hp} {kvs:List ((List Key×(Key×Key))×V)} {xs:List ((List Key×(Key×Key))×Addr×Value)} (r:KP H kvs xs) (k:List Key×(Key×Key)) {y:V} {u:Value} (ry:RelV y u):
  KP H (kvs.map fun kv=>if kv.1=k then (kv.1,y)else kv) (xs.map (putAt k u)):=by
 induction r with
 | nil=>exact .nil
 | @cons p q ps qs h t ih=>
  rw [List.map_cons,List.map_cons]
  refine .cons ?_ ih
  obtain ⟨h1,h2,h3⟩:=h
  unfold putAt
  by_cases e:p.1=k
  ·rw [if_pos e,if_pos (h1.symm.trans e)];exact ⟨h1,h2,ry⟩
  ·rw [if_neg e,if_neg (fun z=>e (h1.trans z))];exact ⟨h1,h2,h3⟩
theorem KP.put {H:Hp} {kvs:List ((List Key×(Key×Key))×V)} {xs:List ((List Key×(Key×Key))×Addr×Value)} (r:KP H kvs xs) (k:List Key×(Key×Key)) {b:Addr} {y:V} {u:Value} (hb: ∃ c,H b=some (.tup [kV k.2.1,kV k.2.2,.ref c])/\H c=some (.tup (k.1.map kV))) (ry:RelV y u):
  KP H (cz kvs k y) (storedH xs k b u):=by
 have e:(kvs.any fun kv=>decide (kv.1=k))=(atKey xs k).isSome:=by
  rw [dS,(r.val k).isSome_eq,Option.isSome_map]
 unfold cz storedH
 rw [e]
 by_cases q:(atKey xs k).isSome=true
 ·rw [if_pos q,if_pos q];exact r.repl k ry
 ·rw [if_neg q,if_neg q];exact Paired.snoc r ⟨rfl,hb,ry⟩
theorem KP.keeps {H H':Hp} {kvs:List ((List Key×(Key×Key))×V)} {xs:List ((List Key×(Key×Key))×Addr×Value)} (r:KP H kvs xs) (ht: ∀ b ys,H b=some (.tup ys)->H' b=some (.tup ys)):KP H' kvs xs:=
 Paired.mapP r fun _ _ z=>⟨z.1,let ⟨c,e1,e2⟩:=z.2.1;⟨c,ht _ _ e1,ht _ _ e2⟩,z.2.2⟩
section
variable {P:Program} {w:World} {H:Hp} {h:Heap} {a:Addr}
theorem uJ {u:HO} (ok:HOk P w H h) (e:Rd H a u):ObjOk P w H h a u:=e.ok ok
theorem kf {kvs:List (Key×V)} (ok:HOk P w H h) (e:Rd H a (.dK kvs)):kvs.length<=sizeLine/\(a==sysModules)=false/\ ∃ vs,KV kvs vs/\h.DictOf (bd P w) a vs:=
 show ObjOk P w H h a (.dK kvs)from uJ ok e
theorem vU {kvs:List (Key×V)} (ok:HOk P w H h) (e:H a=some (.dK kvs)):kvs.length<=sizeLine/\(a==sysModules)=false/\ ∃ vs,KV kvs vs/\h.DictOf (bd P w) a vs:=kf ok (.inl e)
theorem ij {ks:List Key} (ok:HOk P w H h) (e:H a=some (.tup (ks.map kV))):(tupleKind (bd P w)).is h ks a:=by
 obtain ⟨_,its,r,o,h1,h2,n,h3⟩:=(show ObjOk P w H h a (.tup (ks.map kV))from ok a _ e)
 exact ⟨o,its.toArray,n,h1,h2,h3,by simpa using jb r⟩
theorem ke {kvs:List (List Key×V)} (ok:HOk P w H h) (e:Rd H a (.dT kvs)):kvs.length<=sizeLine/\(a==sysModules)=false/\
  ∃ xs,KT H kvs xs/\h.DictOfH (tupleKind (bd P w)) a xs:=by
 obtain ⟨z,y,xs,r,o,es,ep,h1,h2,h3,h4,h5⟩:=(show ObjOk P w H h a (.dT kvs)from uJ ok e)
 refine ⟨z,y,xs,r,o,es,ep,h1,h2,h3,h4,fun x hx=>?_,h5⟩
 have all: ∀ {l:List (List Key×V)} {m:List (List Key×Addr×Value)},KT H l m-> ∀ x∈m,(tupleKind (bd P w)).is h x.1 x.2.1:=by
  intro l m q
  induction q with
  | nil=>intro x hx;exact nomatch hx
  | @cons p q ps qs hq t ih=>
   intro x hx
   rcases List.mem_cons.mp hx with e | hx
   ·subst e
    exact ij ok (by rw [<- hq.1];exact hq.2.1)
   ·exact ih x hx
 exact all r x hx
theorem Al {kvs:List (List Key×V)} (ok:HOk P w H h) (e:H a=some (.dT kvs)):kvs.length<=sizeLine/\(a==sysModules)=false/\
  ∃ xs,KT H kvs xs/\h.DictOfH (tupleKind (bd P w)) a xs:=ke ok (.inl e)
theorem gN {k:List Key×(Key×Key)} (ok:HOk P w H h) (e: ∃ c,H a=some (.tup [kV k.2.1,kV k.2.2,.ref c])/\H c=some (.tup (k.1.map kV))):(fb (bd P w)).is h k a:=by
 obtain ⟨c,e1,e2⟩:=e
 obtain ⟨_,its,r,o,h1,h2,n,h3⟩:=(show ObjOk P w H h a (.tup [kV k.2.1,kV k.2.2,.ref c])from ok a _ e1)
 obtain ⟨u,v,z,rfl,ru,rv,rz⟩: ∃ u v z,its=[u,v,z]/\RelV (kV k.2.1) u/\RelV (kV k.2.2) v/\RelV (.ref c) z:=by
  cases r with | cons r1 r=>cases r with | cons r2 r=>cases r with | cons r3 r=>cases r;exact ⟨_,_,_,rfl,r1,r2,r3⟩
 cases (show z=Value.ref c from rz)
 exact ⟨o,_,n,c,u,v,h1,h2,h3,by simp,ij ok e2,gj ru,gj rv⟩
theorem lK {kvs:List ((List Key×(Key×Key))×V)} (ok:HOk P w H h) (e:Rd H a (.dP kvs)):kvs.length<=sizeLine/\(a==sysModules)=false/\
  ∃ xs,KP H kvs xs/\h.DictOfH (fb (bd P w)) a xs:=by
 obtain ⟨z,y,xs,r,o,es,ep,h1,h2,h3,h4,h5⟩:=(show ObjOk P w H h a (.dP kvs)from uJ ok e)
 refine ⟨z,y,xs,r,o,es,ep,h1,h2,h3,h4,fun x hx=>?_,h5⟩
 have all: ∀ {l:List ((List Key×(Key×Key))×V)} {m:List ((List Key×(Key×Key))×Addr×Value)},KP H l m-> ∀ x∈m,(fb (bd P w)).is h x.1 x.2.1:=by
  intro l m q
  induction q with
  | nil=>intro x hx;exact nomatch hx
  | @cons p q ps qs hq t ih=>
   intro x hx
   rcases List.mem_cons.mp hx with e | hx
   ·subst e
    rw [<- hq.1];exact gN ok hq.2.1
   ·exact ih x hx
 exact all r x hx
theorem Am {kvs:List ((List Key×(Key×Key))×V)} (ok:HOk P w H h) (e:H a=some (.dP kvs)):kvs.length<=sizeLine/\(a==sysModules)=false/\
  ∃ xs,KP H kvs xs/\h.DictOfH (fb (bd P w)) a xs:=lK ok (.inl e)
end
def DGet (H:Hp) (a:Addr) (y:V) (r:Option V):Prop:=
 (∃ kvs k,Rd H a (.dK kvs)/\y=kV k/\r=aW kvs k)\/(∃ kvs k b,Rd H a (.dT kvs)/\y=.ref b/\H b=some (.tup (k.map kV))/\r=aW kvs k)\/
 ∃ kvs k b,Rd H a (.dP kvs)/\y=.ref b/\(∃ c,H b=some (.tup [kV k.2.1,kV k.2.2,.ref c])/\H c=some (.tup (k.1.map kV)))/\r=aW kvs k
def DPut (H:Hp) (a:Addr) (y v:V) (H':Hp):Prop:=
 (∃ kvs k,H a=some (.dK kvs)/\y=kV k/\kvs.length<sizeLine/\H'=upd H a (.dK (cz kvs k v)))\/
 (∃ kvs k b,H a=some (.dT kvs)/\y=.ref b/\H b=some (.tup (k.map kV))/\kvs.length<sizeLine/\H'=upd H a (.dT (cz kvs k v)))\/
 ∃ kvs k b,H a=some (.dP kvs)/\y=.ref b/\(∃ c,H b=some (.tup [kV k.2.1,kV k.2.2,.ref c])/\H c=some (.tup (k.1.map kV)))/\kvs.length<sizeLine/\H'=upd H a (.dP (cz kvs k v))
theorem DGet.k {H:Hp} {a:Addr} {kvs:List (Key×V)} {k:Key} (e:H a=some (.dK kvs)):DGet H a (kV k) (aW kvs k):=.inl ⟨kvs,k,.inl e,rfl,rfl⟩
theorem DGet.p {H:Hp} {a b c:Addr} {kvs:List ((List Key×(Key×Key))×V)} {t:List Key} {k:Key×Key} (e:H a=some (.dP kvs)) (eb:H b=some (.tup [kV k.1,kV k.2,.ref c])) (ec:H c=some (.tup (t.map kV))):DGet H a (.ref b) (aW kvs (t,k)):=.inr (.inr ⟨kvs,(t,k),b,.inl e,rfl,⟨c,eb,ec⟩,rfl⟩)
theorem DPut.k {H:Hp} {a:Addr} {kvs:List (Key×V)} {k:Key} {v:V} (e:H a=some (.dK kvs)) (hl:kvs.length<sizeLine):DPut H a (kV k) v (upd H a (.dK (cz kvs k v))):=.inl ⟨kvs,k,e,rfl,hl,rfl⟩
theorem DPut.t {H:Hp} {a b:Addr} {kvs:List (List Key×V)} {k:List Key} {v:V} (e:H a=some (.dT kvs)) (eb:H b=some (.tup (k.map kV))) (hl:kvs.length<sizeLine):
  DPut H a (.ref b) v (upd H a (.dT (cz kvs k v))):=.inr (.inl ⟨kvs,k,b,e,rfl,eb,hl,rfl⟩)
theorem DPut.p {H:Hp} {a b c:Addr} {kvs:List ((List Key×(Key×Key))×V)} {t:List Key} {k:Key×Key} {v:V} (e:H a=some (.dP kvs)) (eb:H b=some (.tup [kV k.1,kV k.2,.ref c])) (ec:H c=some (.tup (t.map kV))) (hl:kvs.length<sizeLine):
  DPut H a (.ref b) v (upd H a (.dP (cz kvs (t,k) v))):=.inr (.inr ⟨kvs,(t,k),b,e,rfl,⟨c,eb,ec⟩,hl,rfl⟩)
section
variable {X:Cx} {pins:List (Addr×Obj)} {Z:St} {H:Hp} {s:Shared} {a:Addr} {y v:V} {u r:Value} {o:Option V} {A:Around} {E:Value->Shared->Prop}
theorem Inv.big (I:Inv X pins Z H s):sysModules<s.heap.objs.size:=by
 have h:mainGlobals<s.heap.objs.size:=(I.mod.glob.keeps I.bk).lt
 exact Nat.lt_trans (by decide) h
theorem tU {Q:Value->Shared->Prop} (hu:A.units+16<cLine) (I:Inv X pins Z H s) (g:DGet H a y (some v)) (ry:RelV y u) (h: ∀ w' s',Inv X pins Z H s'->RelV v w'->Q w' s'):
  wpAny (model X.prog X.w) A (getItem (.ref a) u) Q E s:=by
 rcases g with ⟨kvs,k,e,ey,l⟩ | ⟨kvs,k,b,e,ey,eb,l⟩ | ⟨kvs,k,b,e,ey,eb,l⟩
 ·subst ey
  obtain ⟨z,hd,vs,rel,dd⟩:=kf I.hok e
  obtain ⟨w',hw,rw'⟩:=RelO.some_of (v:=v) (o:=valueAt vs k) (by rw [l];exact rel.val k)
  exact wpAny_getItem_of (gj ry) dd.mapOf hw (h w' _ (I.tok _) rw')
 ·subst ey
  cases (show u=Value.ref b from ry)
  obtain ⟨z,hd,xs,rel,dd⟩:=ke I.hok e
  obtain ⟨w',hw,rw'⟩:=RelO.some_of (v:=v) (o:=(atKey xs k).map (·.2)) (by rw [l];exact rel.val k)
  obtain ⟨p,hp,hp2⟩:=Option.map_eq_some_iff.mp hw
  refine wpAny_getItem_heap (tupleKind_room_in1 (by lia)) (ij I.hok eb) dd hp ?_
  rw [hp2]
  exact h w' _ (I.tok _) rw'
 ·subst ey
  cases (show u=Value.ref b from ry)
  obtain ⟨z,hd,xs,rel,dd⟩:=lK I.hok e
  obtain ⟨w',hw,rw'⟩:=RelO.some_of (v:=v) (o:=(atKey xs k).map (·.2)) (by rw [l];exact rel.val k)
  obtain ⟨p,hp,hp2⟩:=Option.map_eq_some_iff.mp hw
  refine wpAny_getItem_heap (show _+8<cLine by show A.units+1+8<cLine;lia) (gN I.hok eb) dd hp ?_
  rw [hp2]
  exact h w' _ (I.tok _) rw'
theorem AQ {Q:Value->Shared->Prop} (hu:A.units+16<cLine) (I:Inv X pins Z H s) (g:DGet H a y o) (ry:RelV y u) (h: ∀ s',Inv X pins Z H s'->Q (.bool o.isSome) s'):
  wpAny (model X.prog X.w) A (compareOp .In u (.ref a)) Q E s:=by
 rcases g with ⟨kvs,k,e,ey,l⟩ | ⟨kvs,k,b,e,ey,eb,l⟩ | ⟨kvs,k,b,e,ey,eb,l⟩
 ·subst ey
  obtain ⟨z,hd,vs,rel,dd⟩:=kf I.hok e
  refine wpAny_in_of (gj ry) hd dd.mapOf ?_
  rw [<- (rel.val k).isSome_eq,<- l]
  exact h _ (I.tok _)
 ·subst ey
  cases (show u=Value.ref b from ry)
  obtain ⟨z,hd,xs,rel,dd⟩:=ke I.hok e
  refine wpAny_in_heap (tupleKind_room_in1 (by lia)) (ij I.hok eb) hd dd ?_
  have q:=(rel.val k).isSome_eq
  rw [Option.isSome_map]at q
  rw [<- q,<- l]
  exact h _ (I.tok _)
 ·subst ey
  cases (show u=Value.ref b from ry)
  obtain ⟨z,hd,xs,rel,dd⟩:=lK I.hok e
  refine wpAny_in_heap (show _+8<cLine by show A.units+1+8<cLine;lia) (gN I.hok eb) hd dd ?_
  have q:=(rel.val k).isSome_eq
  rw [Option.isSome_map]at q
  rw [<- q,<- l]
  exact h _ (I.tok _)
theorem xx {Q:Value->Shared->Prop} (hu:A.units+16<cLine) (I:Inv X pins Z H s) (g:DGet H a y o) (ry:RelV y u) (h: ∀ s',Inv X pins Z H s'->Q (.bool (!o.isSome)) s'):
  wpAny (model X.prog X.w) A (compareOp .NotIn u (.ref a)) Q E s:=by
 rcases g with ⟨kvs,k,e,ey,l⟩ | ⟨kvs,k,b,e,ey,eb,l⟩ | ⟨kvs,k,b,e,ey,eb,l⟩
 ·subst ey
  obtain ⟨z,hd,vs,rel,dd⟩:=kf I.hok e
  refine wpAny_notIn_of (gj ry) hd dd.mapOf ?_
  rw [<- (rel.val k).isSome_eq,<- l]
  exact h _ (I.tok _)
 ·subst ey
  cases (show u=Value.ref b from ry)
  obtain ⟨z,hd,xs,rel,dd⟩:=ke I.hok e
  refine wpAny_notIn_heap (tupleKind_room_in1 (by lia)) (ij I.hok eb) hd dd ?_
  have q:=(rel.val k).isSome_eq
  rw [Option.isSome_map]at q
  rw [<- q,<- l]
  exact h _ (I.tok _)
 ·subst ey
  cases (show u=Value.ref b from ry)
  obtain ⟨z,hd,xs,rel,dd⟩:=lK I.hok e
  refine wpAny_notIn_heap (show _+8<cLine by show A.units+1+8<cLine;lia) (gN I.hok eb) hd dd ?_
  have q:=(rel.val k).isSome_eq
  rw [Option.isSome_map]at q
  rw [<- q,<- l]
  exact h _ (I.tok _)
theorem nw {h':Heap} {t':Nat} {ob:HO} (I:Inv X pins Z H s) (mu:Mut (H a)) (hs:Heap.SameBut a s.heap h') (he: ∃ q,h'.get? a=some q) (new:ObjOk X.prog X.w (upd H a ob) h' a ob):
  Inv X pins Z (upd H a ob) {s with heap:=h',toks:=t'}:=
 I.write (x:=a) (e:=a) mu (.inl rfl) (fun b q hb z=>(hs.2 b hb).trans z) he new
theorem y9 {P:Program} {w:World} {H':Hp} {h':Heap} {kvs:List (Key×V)} {vs:List (Key×Value)} (z:kvs.length<=sizeLine) (hd:(a==sysModules)=false) (rel:KV kvs vs) (dd:h'.DictOf (bd P w) a vs):
  ObjOk P w H' h' a (.dK kvs):=⟨z,hd,vs,rel,dd⟩
theorem tT {H':Hp} {Q:Unit->Shared->Prop} (hu:A.units+16<cLine) (I:Inv X pins Z H s) (g:DPut H a y v H') (ry:RelV y u) (rv:RelV v r) (h: ∀ s',Inv X pins Z H' s'->Q () s'):
  wpAny (model X.prog X.w) A (setItem (.ref a) u r) Q E s:=by
 rcases g with ⟨kvs,k,e,ey,l,eH⟩ | ⟨kvs,k,b,e,ey,eb,l,eH⟩ | ⟨kvs,k,b,e,ey,eb,l,eH⟩
 ·subst ey eH
  obtain ⟨z,hd,vs,rel,dd⟩:=vU I.hok e
  have hz:vs.length<=sizeLine:=by rw [<- rel.length];exact z
  have hl:(cz kvs k v).length<=sizeLine:=by have:=cN kvs k v;lia
  refine wpAny_setItem_pairs (hsz:=hz) (gj ry) dd fun h' dd' hs=>h _ ?_
  have he: ∃ q,h'.get? a=some q:=let ⟨q,_,_,hq,_⟩:=dd';⟨q,hq⟩
  exact nw I (by rw [e];exact True.intro) hs he (y9 hl hd (rel.put k rv) dd')
 ·subst ey eH
  cases (show u=Value.ref b from ry)
  obtain ⟨z,hd,xs,rel,dd⟩:=Al I.hok e
  have hz:xs.length<=sizeLine:=by rw [<- Paired.length rel];exact z
  have hl:(cz kvs k v).length<=sizeLine:=by have:=cN kvs k v;lia
  refine wpAny_setItem_heap (hsz:=hz) (tupleKind_room_in1 (by lia)) (ij I.hok eb) dd fun h' dd' hs=>h _ ?_
  obtain ⟨q,es,ep,hq,h2,h3,h4,_,h5⟩:=dd'
  refine nw I (by rw [e];exact True.intro) hs ⟨q,hq⟩ ⟨hl,hd,_,(rel.put k eb rv).keeps fun c ys ec=>?_,q,es,ep,hq,h2,h3,h4,h5⟩
  rw [am (xP ec e (fun z=>nomatch z))]
  exact ec
 ·subst ey eH
  cases (show u=Value.ref b from ry)
  obtain ⟨z,hd,xs,rel,dd⟩:=Am I.hok e
  have hz:xs.length<=sizeLine:=by rw [<- Paired.length rel];exact z
  have hl:(cz kvs k v).length<=sizeLine:=by have:=cN kvs k v;lia
  refine wpAny_setItem_heap (hsz:=hz) (show _+8<cLine by show A.units+1+8<cLine;lia) (gN I.hok eb) dd fun h' dd' hs=>h _ ?_
  obtain ⟨q,es,ep,hq,h2,h3,h4,_,h5⟩:=dd'
  refine nw I (by rw [e];exact True.intro) hs ⟨q,hq⟩ ⟨hl,hd,_,(rel.put k eb rv).keeps fun c ys ec=>?_,q,es,ep,hq,h2,h3,h4,h5⟩
  rw [am (xP ec e (fun z=>nomatch z))]
  exact ec
end
def As (i:Expr):Prop:= ∀ ov iv,subscripted i false ov iv=operate [ov,iv] (getItem ov iv)
theorem wz {prog:Program} {w:World} {A:Around} {E:Value->Shared->Prop} {s:Shared} {env:Env} {value slice:Expr} {pos:Pos} {T id:String} {Q:Value->Shared->Prop}
  (hl:typeLookup (.type T) "__getitem__"=pure (some (.builtin id))) (hs:As slice)
  (h:wpAny (model prog w) A (eval value env) (fun o s₁=>wpAny (model prog w) A (eval slice env) (fun i s₂=>s₂.TypeIs o T/\wpAny (model prog w) A (getItem o i) Q E s₂) E s₁) E s):
  wpAny (model prog w) A (eval (.Subscript value slice pos) env) Q E s:=by
 refine Subscript_ (wpAny_mono h (fun o s₁ h₁=>wpAny_mono h₁ (fun i s₂ h₂=>?_) fun _ _ x=>x) fun _ _ x=>x)
 obtain ⟨hT,h₂⟩:=h₂
 unfold subscriptTail
 refine wpAny_bind ?_
 rw [getitemInPython_of_ne hT.not_modules]
 refine wpAny_bind (wpAny_specialOf hT hl ?_)
 have fin:wpAny (model prog w) A (subscripted slice false o i) (fun r s₃=>wpAny (model prog w) A (letTemporaryGo value o r >>= fun _=>pure r) Q E s₃) E s₂:=by
  rw [hs o i]
  exact wpAny_operating (wpAny_mono h₂ (fun r s₃ h₃=>wpAny_bind (wpAny_letTemporaryGo (wpAny_pure h₃))) fun _ _ x=>x)
 first
  | exact wpAny_pure (wpAny_bind fin)
  | exact wpAny_bind (wpAny_pure (wpAny_bind fin))
  | exact wpAny_bind fin
theorem oS {X:Cx} {pins:List (Addr×Obj)} {Z:St} {H:Hp} {s:Shared} {a:Addr} {y:V} {o:Option V} (I:Inv X pins Z H s) (g:DGet H a y o):s.TypeIs (.ref a) "dict":=by
 rcases g with ⟨kvs,k,e,_,_⟩ | ⟨kvs,k,b,e,_,_,_⟩ | ⟨kvs,k,b,e,_,_,_⟩
 ·obtain ⟨_,_,vs,_,dd⟩:=kf I.hok e
  exact dd.typeIs
 ·obtain ⟨_,_,xs,_,dd⟩:=ke I.hok e
  exact dd.typeIs
 ·obtain ⟨_,_,xs,_,dd⟩:=lK I.hok e
  exact dd.typeIs
def zF (td ty:TE):TE:=fun Z H Q=>td Z H fun x H1=>ty Z H1 fun y H2=> ∃ a v,x=.ref a/\DGet H2 a y (some v)/\Q v H2
def Ax (ty td:TE):TE:=fun Z H Q=>ty Z H fun y H1=>td Z H1 fun x H2=> ∃ a o,x=.ref a/\DGet H2 a y o/\Q (.bl o.isSome) H2
def wx (ty td:TE):TE:=fun Z H Q=>ty Z H fun y H1=>td Z H1 fun x H2=> ∃ a o,x=.ref a/\DGet H2 a y o/\Q (.bl (!o.isSome)) H2
def zJ (td ty tv:TE):TS:=fun D Z H=>tv Z H fun v H1=>td Z H1 fun x H2=>ty Z H2 fun y H3=> ∃ a H4,x=.ref a/\DPut H3 a y v H4/\D.nx Z H4
section
variable {X:Cx} {o i e value:Expr} {pos pos' tpos:Pos} {td ty tv:TE}
theorem cx (hu:X.A.units+16<cLine) (ho:PE X o td) (hi:PE X i ty) (hs:As i):PE X (.Subscript o i pos) (zF td ty):=by
 intro pins s Z H Q I h
 refine wz PySem.F.slot_dict_getitem.lookup hs (thn (ho pins s Z H _ I h) fun u s1 ⟨x,H1,I1,rx,q1⟩=>thn (hi pins s1 Z H1 _ I1 q1) fun iv s2 ⟨y,H2,I2,ry,a,v,ex,g,q2⟩=>?_)
 subst ex
 obtain rfl:u=Value.ref a:=rx
 exact ⟨oS I2 g,tU hu I2 g ry fun w' s3 I3 rw'=>⟨v,H2,I3,rw',q2⟩⟩
theorem jY (hu:X.A.units+16<cLine) (hi:PE X i ty) (ho:PE X o td):PC X .In i o (Ax ty td):=by
 intro pins s Z H Q I h
 refine thn (hi pins s Z H _ I h) fun iv s1 ⟨y,H1,I1,ry,q1⟩=>thn (ho pins s1 Z H1 _ I1 q1) fun u s2 ⟨x,H2,I2,rx,a,ov,ex,g,q2⟩=>?_
 subst ex
 obtain rfl:u=Value.ref a:=rx
 exact AQ hu I2 g ry fun s3 I3=>⟨.bl ov.isSome,H2,I3,rfl,q2⟩
theorem sH (hu:X.A.units+16<cLine) (hi:PE X i ty) (ho:PE X o td):PC X .NotIn i o (wx ty td):=by
 intro pins s Z H Q I h
 refine thn (hi pins s Z H _ I h) fun iv s1 ⟨y,H1,I1,ry,q1⟩=>thn (ho pins s1 Z H1 _ I1 q1) fun u s2 ⟨x,H2,I2,rx,a,ov,ex,g,q2⟩=>?_
 subst ex
 obtain rfl:u=Value.ref a:=rx
 exact xx hu I2 g ry fun s3 I3=>⟨.bl (!ov.isSome),H2,I3,rfl,q2⟩
theorem dL (hu:X.A.units+16<cLine) (ho:PE X o td) (hi:PE X i ty) (hv:PE X value tv) (hs:swapsWith value (some (.Subscript o i pos')) pos.line X.env=pure false):
  PS X (.Assign [.Subscript o i pos'] value pos) (zJ td ty tv):=by
 intro pins s Z H D I h
 refine wpAny_Assign_Subscript (thn (hv pins s Z H _ I h) fun r s1 ⟨v,H1,I1,rv,q1⟩=>thn (ho pins s1 Z H1 _ I1 q1) fun u s2 ⟨x,H2,I2,rx,q2⟩=>thn (hi pins s2 Z H2 _ I2 q2) fun iv s3 ⟨y,H3,I3,ry,a,H4,ex,g,q3⟩=>?_) hs
 subst ex
 obtain rfl:u=Value.ref a:=rx
 exact tT hu I3 g ry rv fun s4 I4=>⟨Z,H4,I4,q3⟩
end
theorem vV {P:Program} {w:World} {H:Hp} (h:Heap) (hb:sysModules<h.objs.size):ObjOk P w H (h.push {cls:=.type "dict",data:=.dict #[]}) h.objs.size (.dK []):=
 ⟨Nat.zero_le _,beq_eq_false_iff_ne.mpr (Ne.symm (Nat.ne_of_lt hb)),[],.nil,Heap.DictOf.new h⟩
theorem vR {P:Program} {w:World} {H:Hp} (h:Heap) (hb:sysModules<h.objs.size):ObjOk P w H (h.push {cls:=.type "dict",data:=.dict #[]}) h.objs.size (.dT []):=
 ⟨Nat.zero_le _,beq_eq_false_iff_ne.mpr (Ne.symm (Nat.ne_of_lt hb)),[],.nil,_,#[],0,Heap.get?_push_size _ rfl,⟨rfl,rfl,rfl⟩,rfl,rfl,List.nodup_nil⟩
def x4:TE:=fun _ H Q=> ∀ p,H p=none->Q (.ref p) (upd H p (.dK []))
def xZ:TE:=fun _ H Q=> ∀ p,H p=none->Q (.ref p) (upd H p (.dT []))
section
variable {X:Cx} {pos:Pos}
theorem ee:PE X (.Dict [] [] pos) x4:=fun pins s Z H Q I h=>
 wpAny_Dict_empty ⟨.ref s.heap.objs.size,_,I.laid (a:=s.heap.objs.size) (o:=.dK []) (t':=s.toks) (fun _ _ q=>Heap.get?_push_of_some _ q) (Nat.le_refl _) (vV s.heap I.big),rfl,h _ (I.hok.fresh (Nat.le_refl _))⟩
theorem uR:PE X (.Dict [] [] pos) xZ:=fun pins s Z H Q I h=>
 wpAny_Dict_empty ⟨.ref s.heap.objs.size,_,I.laid (a:=s.heap.objs.size) (o:=.dT []) (t':=s.toks) (fun _ _ q=>Heap.get?_push_of_some _ q) (Nat.le_refl _) (vR s.heap I.big),rfl,h _ (I.hok.fresh (Nat.le_refl _))⟩
end
structure M2 (X:Cx) (o:Expr) (m:Str) (apos:Pos) (e f:Expr) (cpos:Pos):Prop where
 base:attributeBase o m X.env (eval o X.env)=eval o X.env
 few:((backTo cpos (starEach [e,f] X.env)).all (fun x=> !x.1)&&(backToKw cpos (keywordEach [] X.env)).all (fun x=>x.1.isSome)
  &&decide (([e,f]:List Expr).length+ ([]:List Keyword).length+ (if ([]:List Keyword).isEmpty then 0 else 1) <30))=true
 line:(apos.endLine==cpos.line)=true
 trees:backTo cpos (starEach [e,f] X.env)=[(false,eval e X.env),(false,eval f X.env)]
def IsD (H:Hp) (a:Addr):Prop:=(∃ kvs,Rd H a (.dK kvs))\/ ∃ kvs,Rd H a (.dT kvs)
theorem yU {X:Cx} {pins:List (Addr×Obj)} {Z:St} {H:Hp} {s:Shared} {a:Addr} (I:Inv X pins Z H s) (d:IsD H a):
  s.TypeIs (.ref a) "dict"/\(∀ b,Value.ref a=.ref b-> ∃ ob,s.heap.get? b=some ob/\ob.dict=none)/\(a==sysModules)=false:=by
 rcases d with ⟨kvs,e⟩ | ⟨kvs,e⟩
 ·obtain ⟨_,hd,vs,_,dd⟩:=kf I.hok e
  refine ⟨dd.typeIs,fun b q=>?_,hd⟩
  cases q
  obtain ⟨ob,_,_,h1,h2,_⟩:=dd
  exact ⟨ob,h1,h2.2.1⟩
 ·obtain ⟨_,hd,xs,_,dd⟩:=ke I.hok e
  refine ⟨dd.typeIs,fun b q=>?_,hd⟩
  cases q
  obtain ⟨ob,_,_,h1,h2,_⟩:=dd
  exact ⟨ob,h1,h2.2.1⟩
section
variable {X:Cx} {pins:List (Addr×Obj)} {Z:St} {H:Hp} {s:Shared} {a:Addr} {y d:V} {u r:Value} {o:Option V} {A:Around} {E:Value->Shared->Prop}
theorem za {Q:Value->Shared->Prop} (hu:A.units+16<cLine) (I:Inv X pins Z H s) (g:DGet H a y o) (ry:RelV y u) (rd:RelV d r) (h: ∀ w' s',Inv X pins Z H s'->RelV (o.getD d) w'->Q w' s'):
  wpAny (model X.prog X.w) A (call (.builtin "dict.get") [.ref a,u,r]) Q E s:=by
 rcases g with ⟨kvs,k,e,ey,l⟩ | ⟨kvs,k,b,e,ey,eb,l⟩ | ⟨kvs,k,b,e,ey,eb,l⟩
 ·subst ey
  obtain ⟨z,hd,vs,rel,dd⟩:=kf I.hok e
  refine call_meetsIn PySem.F.slot_dict_get dd.typeIs PySem.F.entry_dict_get (PySem.F.args_dict_get_3 _ _ _) (meets_dict_get_default (bd X.prog X.w) a (gj ry) hd r) ⟨_,dd.mapOf,h _ _ (I.tok _) ?_⟩
  rw [l]
  exact (rel.val k).getD rd
 ·subst ey
  cases (show u=Value.ref b from ry)
  obtain ⟨z,hd,xs,rel,dd⟩:=ke I.hok e
  refine call_meetsIn PySem.F.slot_dict_get dd.typeIs PySem.F.entry_dict_get (PySem.F.args_dict_get_3 _ _ _) (meetsH_dict_get_default (tupleKind (bd X.prog X.w)) a b hd r) ⟨tupleKind_room_in1 (by lia),k,xs,ij I.hok eb,dd,h _ _ (I.tok _) ?_⟩
  rw [l]
  exact (rel.val k).getD rd
 ·subst ey
  cases (show u=Value.ref b from ry)
  obtain ⟨z,hd,xs,rel,dd⟩:=lK I.hok e
  refine call_meetsIn PySem.F.slot_dict_get dd.typeIs PySem.F.entry_dict_get (PySem.F.args_dict_get_3 _ _ _) (meetsH_dict_get_default (fb (bd X.prog X.w)) a b hd r) ⟨(show _+8<cLine by show A.units+1+8<cLine;lia),k,xs,gN I.hok eb,dd,h _ _ (I.tok _) ?_⟩
  rw [l]
  exact (rel.val k).getD rd
end
def x5 (td ty tx:TE):TE:=fun Z H Q=>td Z H fun x H1=> ∃ a,x=.ref a/\IsD H1 a/\ty Z H1 fun y H2=>tx Z H2 fun z H3=> ∃ o,DGet H3 a y o/\Q (o.getD z) H3
section
variable {X:Cx} {o e f:Expr} {apos cpos:Pos} {td ty tx:TE}
theorem uS (hu:X.A.units+16<cLine) (ho:PE X o td) (he:PE X e ty) (hf:PE X f tx) (m:M2 X o "get" apos e f cpos):PE X (.Call (.Attribute o "get" apos) [e,f] [] cpos) (x5 td ty tx):=by
 intro pins s Z H Q I h
 refine wpAny_Call_method m.base m.few m.line PySem.F.plainAttrs_dict PySem.F.slot_dict_get PySem.F.type_dict_get (thn (ho pins s Z H _ I h) fun u s1 ⟨x,H1,I1,rx,a,ex,d,q1⟩=>?_)
 subst ex
 obtain rfl:u=Value.ref a:=rx
 obtain ⟨t1,t2,_⟩:=yU I1 d
 refine ⟨t1,t2,?_⟩
 rw [m.trees]
 refine Calls.callWith_builtin rfl (Calls.evalArgs_plain (Calls.spliced_cons (thn (he pins s1 Z H1 _ I1 q1) fun iv s2 ⟨y,H2,I2,ry,q2⟩=>
  Calls.spliced_cons (thn (hf pins s2 Z H2 _ I2 q2) fun fv s3 ⟨z,H3,I3,rz,ov,g,q3⟩=>Calls.spliced_nil ?_))))
 exact za hu I3 g ry rz fun w' s4 I4 rw'=>⟨_,H3,I4,rw',q3⟩
end
end L2
namespace Att
open PySem PySem.W PySem.Calls PyProof.Rows
theorem jq {P:Params} {h:Heap}: ∀ (ns:List Int) (vs:List Value),WellAll P h vs (ns.map WData.int)->IntsAre vs ns:=by
 intro ns
 induction ns with
 | nil=>
  intro vs w
  rw [List.map_nil]at w
  cases w
  exact .nil
 | cons n ns ih=>
  intro vs w
  rw [List.map_cons]at w
  cases w with
  | cons a b=>
   cases a
   exact .cons _ _ (ih _ b)
theorem sd {l:OpenLaw} {n:Nat} (hn:l.most=some n) {P:Params} {h:Heap} {args:List WData} {vals:List Value}
  (hpre:l.row.toRowW.claim.pre args=true) (hwl:WellAll P h vals args):
  ∃ a vs ns,vals=[Value.ref a]/\args=[WData.list (ns.map WData.int)]/\h.get? a=some {cls:=.type "list",data:=.seq vs.toArray}/\IntsAre vs ns/\ns.length<=n:=by
 have hsh:WShape.hasAll [] args [.list .int]=true:=(pre_splitW hpre).1
 have hc:l.pre.holds [] {args:=args}=true:=(pre_splitW hpre).2
 obtain ⟨d,r,rfl,h1,h2⟩:=hasAllW_cons hsh
 obtain rfl:=hasAllW_nil h2
 obtain ⟨xs,rfl,h3⟩:=hasW_list h1
 obtain ⟨ns,rfl⟩:=items_int h3
 have hlen:ns.length<=n:=by
  unfold OpenLaw.pre at hc
  have h4:(WTm.not (.lt (.lit (.int (n:Int))) (.len (.arg 0)))).holds [] {args:=[.list (ns.map .int)]}=true:=by
   have h4:=(holds_andW hc).1
   rw [hn]at h4
   exact h4
  have h5:=condW_of h4 (w_not (w_lt w_lit (w_len_list (w_arg rfl))))
  rw [List.length_map]at h5
  refine Nat.le_of_not_lt fun q=>?_
  have q':(n:Int) < ((ns.length:Nat):Int):=by lia
  first
   | (rw [decide_eq_true q']at h5;exact absurd h5 (by decide))
   | (simp at h5;lia)
 cases hwl with
 | cons w1 w2=>
  cases w2
  cases w1 with
  | list ho hall=>exact ⟨_,_,ns,rfl,rfl,ho,jq ns _ hall,hlen⟩
theorem sE (l:OpenLaw) (args:List WData):l.row.toRowW.claim.post args (.bool true) args=true:=
 postW_of (r:=l.row.toRowW) (X:=(true==true))
  (show WShape.has [] (.bool true) .bool=true by first | rfl | decide | simp [WShape.has,WShape.arms,WShape.armsAll])
  (show (WTm.eq .res (.lit (.bool true))).value [] {args:=args,res:=some (.bool true),after:=args}=some (.bool (true==true))from w_eq_bool (w_res rfl) w_lit) rfl
theorem attach_call {l:OpenLaw} {n:Nat} {q:Program} {loose:List Str} {XP:(Str->Option Value)->Heap->Prop} {YP:World->Heap->Prop} {d:DefRec}
  (hn:l.most=some n) (hdf:d.params.defaults=[])
  (call: ∀ (w:World) (s₀ s₁:Shared) (mg mb:Str->Option Value) (fa:Addr) (o:Obj) (pm cd doc:Value) (a:Addr) (vs:List Value) (ns:List Int),
   Ground q loose [] XP w s₀ mg mb s₁.heap->YP w s₁.heap->
   s₁.heap.get? fa=some o->o.data=.func (docDef d.name d.params d.body d.scope pm cd doc)->s₁.heap.CodeRec cd d.name->mg d.name=some (.ref fa)->
   s₁.heap.get? a=some {cls:=.type "list",data:=.seq vs.toArray}->IntsAre vs ns->ns.length<=n->s₁.gens= #[]->
   codeAny (model l.prog w) callerA (.call (.ref fa) ⟨[.ref a],[]⟩) (fun r s'=>r=.ok (.ret (.bool true))/\OldK s₁.heap s'.heap/\s'.os=s₁.os/\AllBare s'.gens) s₁):
  WalkO q loose XP YP l.row.toRowW d [] (fun f vs=>PySem.call f vs):=by
 intro w s₀ s₁ mg mb G Y fa o pm cd doc dV kV ho hd hcd hD hmg hg args vals as hpre hlay hrd hwl hlo
 obtain rfl:dV=.none:=Dflts.none hD hdf
 obtain rfl:kV=.none:=Dflts.noKw hD
 obtain ⟨a,vs,ns,rfl,rfl,hobj,hints,hlen⟩:=sd hn hpre hwl
 refine enter_call (codeAny_mono (call w s₀ s₁ mg mb fa o pm cd doc a vs ns G Y ho (fd_plain hd) hcd hmg hobj hints hlen hg) fun r s' hq=>?_)
 obtain ⟨rfl,h2,h3,h4⟩:=hq
 exact ⟨.inl ⟨.bool true,.bool true,[],rfl,fun _=>rfl,.bool true,sE l _,fun _=>⟨List.Pairwise.nil,fun _ hm=>(nomatch hm)⟩⟩,h2,h3,h4⟩
end Att
namespace L2
open PySem PySem.Spec PyProof.Rows
theorem kJ: ∀ {vs:List Value} {ns:List Int},IntsAre vs ns->Vals (ns.map V.int) vs
 | _,_,.nil=>.nil
 | _,_,.cons n t h=>.cons ⟨t,rfl⟩ (kJ h)
def zp (H:Hp):Prop:= ∀ b,H b=none\/ ∃ o xs,H b=some (.frz o (.lst xs))
theorem vF {P:Program} {w:World} {K:W.Frag} {mg mb:Str->Option Value} {CX:CXT} {k:Nat} {fa a:Addr} {fd:FuncData} {x:Str} {sp:Sp} {s₁:Shared} {vs:List Value} {ns:List Int}
  (KX:K.In s₁.heap) (hns:s₁.heap.Ns mainGlobals mg) (hb:s₁.heap.Ns builtinsNs mb) (hbb: ∀ x:Str,x≠"__name__"->mb x=bootBuiltins x) (hlim:s₁.heap.NoLimit) (hg:s₁.gens= #[])
  (ha:s₁.heap.get? a=some {cls:=.type "list",data:=.seq vs.toArray}) (hi:IntsAre vs ns) (hl:ns.length<=sizeLine) (hr:Room k callerA)
  (F: ∀ base:Heap,K.In base->base.Ns mainGlobals mg->FnOk P w K mg base CX k fa fd [x] sp) (hbind: ∀ (s:Shared) (u:Value),BindsTo s fd ⟨[u],[]⟩ [(x,u)])
  (hsp: ∀ H:Hp,zp H->SqL K H a (ns.map V.int)->sp [.ref a] H (fun v _=>v=.bl true) fun _ _ _=>False)
  (hCX: ∀ H e s',CX [] H s₁ (fun _ _ _=>False) e s'->False):
  codeAny (model P w) callerA (.call (.ref fa) ⟨[.ref a],[]⟩) (fun r s'=>r=.ok (.ret (.bool true))/\OldK s₁.heap s'.heap/\s'.os=s₁.os/\AllBare s'.gens) s₁:=by
 have rv:=kJ hi
 have lenV:=hi.length
 have core: ∀ H:Hp,zp H->SqL K H a (ns.map V.int)->HOk P w H s₁.heap->(∀ b,H b≠none->b=a)->(H a≠none->K.lookup a=none)->
   codeAny (model P w) callerA (.call (.ref fa) ⟨[.ref a],[]⟩) (fun r s'=>r=.ok (.ret (.bool true))/\OldK s₁.heap s'.heap/\s'.os=s₁.os/\AllBare s'.gens) s₁:=by
  intro H hO hS hok hA hK
  have base_of: ∀ {b:Addr} {o:Obj},s₁.heap.get? b=some o->H b=none->(nq s₁.heap H).get? b=some o:=fun e n=>vK e n
  have noA: ∀ {b:Addr} {o:Obj} {es:Array DictEntry} {ep:Nat},s₁.heap.get? b=some o->o.data=.dict es ep->H b=none:=fun {b o es ep} e d=>by
   cases q:H b with
   | none=>rfl
   | some u=>
    have e':b=a:=hA b (by rw [q];simp)
    subst e'
    rw [ha]at e;cases e
    have d':Data.seq vs.toArray _=Data.dict es ep:=d
    cases d'
  have nsK: ∀ {b:Addr} {m:Str->Option Value},s₁.heap.Ns b m->(nq s₁.heap H).Ns b m:=fun {b m} ⟨o,es,ep,e,d,r⟩=>⟨o,es,ep,base_of e (noA e d),d,r⟩
  have hKb:K.In (nq s₁.heap H):=fun b o e=>base_of (KX b o e) (by
   cases q:H b with
   | none=>rfl
   | some u=>
    have e':b=a:=hA b (by rw [q];simp)
    subst e'
    rw [hK (by rw [q];simp)]at e;cases e)
  have hM:Mod K mg (nq s₁.heap H):=⟨hKb,nsK hns,⟨mb,nsK hb,hbb⟩,let ⟨mc,h1,h2⟩:=hlim;⟨mc,nsK h1,h2⟩⟩
  have e0:xG P w K mg (nq s₁.heap H) callerA [] s₁ H:=⟨rfl,hM,fun b o e=>wX e,Nat.le_of_eq (tP _ _),trivial,fun b hb=>absurd (show b∈([]:List Addr)from hb) (by simp),hok,.of_eq hg⟩
  refine codeAny_mono ((F _ hKb (nsK hns)).run callerA [] s₁ H ⟨[.ref a],[]⟩ [.ref a] [.ref a] _ _ hr e0 (hbind s₁ (.ref a)) (.cons rfl .nil) (hsp H hO hS)) fun r s' h=>?_
  cases r with
  | error e=>exact (hCX H e s' h).elim
  | ok fl=>
   cases fl with
   | next=>exact False.elim h
   | brk=>exact False.elim h
   | cont=>exact False.elim h
   | ret u=>
    obtain ⟨v,H',os,bare,un,hok',r',q⟩:=h
    have q':v=.bl true:=q
    subst q'
    obtain rfl:u=Value.bool true:=r'
    refine ⟨rfl,OldK.of_keep fun b o e=>?_,os,bare⟩
    cases q:H b with
    | none=>exact un.keep b o e q (by intro z;exact absurd (show b∈([]:List Addr)from z) (by simp)) (by simp)
    | some u=>
     rcases hO b with z | ⟨ob,xs,z⟩
     ·rw [q]at z;cases z
     ·have z2:=un.frzs b ob _ z
      obtain ⟨e1,_⟩:=hok b _ z
      obtain ⟨e2,_⟩:=hok' b _ z2
      rw [e]at e1;cases e1
      exact e2
 cases hk:K.lookup a with
 | some o=>
  have e:=KX a o hk
  rw [ha]at e
  cases e
  refine core (fun _=>none) (fun _=>.inl rfl) (.inr ⟨_,vs.toArray,_,hk,rfl,rfl,rfl,by rw [List.size_toArray,lenV];exact hl,by simpa using rv⟩) (fun b u z=>by have z':(none:Option HO)=some u:=z;cases z') (fun b z=>absurd rfl z) fun z=>absurd rfl z
 | none=>
  refine core (fun b=>if b=a then some (.frz {cls:=.type "list",data:=.seq vs.toArray} (.lst (ns.map V.int)))else none) (fun b=>?_) (.inl (.inr ⟨{cls:=.type "list",data:=.seq vs.toArray},if_pos rfl⟩)) (fun b u z=>?_) (fun b z=>?_) fun _=>hk
  ·by_cases hb:b=a
   ·exact .inr ⟨_,_,if_pos hb⟩
   ·exact .inl (if_neg hb)
  ·by_cases hb:b=a
   ·have z':=(if_pos hb).symm.trans z
    cases z'
    subst hb
    exact ⟨ha,by rw [List.length_map];exact hl,vs,_,rv,ha⟩
   ·have z':=(if_neg hb).symm.trans z
    cases z'
  ·by_cases hb:b=a
   ·exact hb
   ·exact absurd (if_neg hb) z
theorem walk_of {l:PySem.W.OpenLaw} {n k:Nat} {q:Program} {loose:List Str} {XP:(Str->Option Value)->Heap->Prop} {YP:World->Heap->Prop} {d:DefRec} {K:Params->PySem.W.Frag} {CX:World->CXT} {sp:World->Sp} {x:Str}
  (hn:l.most=some n) (hn2:n<=sizeLine) (hdf:d.params.defaults=[]) (hr:Room k callerA)
  (hY: ∀ (w:World) (h:Heap),YP w h->(K w.params).In h)
  (F: ∀ (w:World) (mg:Str->Option Value) (fa:Addr) (h:Heap),(K w.params).In h->h.Ns mainGlobals mg->mg d.name=some (.ref fa)->
   ∃ fd:FuncData,(∀ (s:Shared) (u:Value),BindsTo s fd ⟨[u],[]⟩ [(x,u)])/\
    ∀ base:Heap,(K w.params).In base->base.Ns mainGlobals mg->FnOk l.prog w (K w.params) mg base (CX w) k fa fd [x] (sp w))
  (hsp: ∀ (w:World) (H:Hp) (a:Addr) (ns:List Int),ns.length<=n->zp H->SqL (K w.params) H a (ns.map V.int)->sp w [.ref a] H (fun v _=>v=.bl true) fun _ _ _=>False)
  (hCX: ∀ (w:World) (H:Hp) (s:Shared) (e:Value) (s':Shared),CX w [] H s (fun _ _ _=>False) e s'->False):
  PySem.W.WalkO q loose XP YP l.row.toRowW d [] (fun f vs=>PySem.call f vs):=by
 refine Att.attach_call hn hdf fun w s₀ s₁ mg mb fa o pm cd doc a vs ns G Y ho hd hcd hmg hobj hints hlen hg=>?_
 have KX:=hY w _ Y
 obtain ⟨fd,hb,hF⟩:=F w mg fa _ KX G.T.g hmg
 exact vF KX G.T.g G.T.b G.T.builtins G.T.nolimit hg hobj hints (Nat.le_trans hlen hn2) hr hF hb (fun H hO hS=>hsp w H a ns hlen hO hS) fun H e s'=>hCX w H s₁ e s'
noncomputable def iJ (s:Stmt):Arguments:=match s with
 | .FunctionDef _ a _ _ _ _ _ _ _ _=>a
 | _=>{posonlyargs:=[],args:=[],vararg:=none,kwonlyargs:=[],kw_defaults:=[],kwarg:=none,defaults:=[]}
noncomputable def bV (s:Stmt):List Stmt:=match s with
 | .FunctionDef _ _ b _ _ _ _ _ _ _=>b
 | _=>[]
noncomputable def ag (s:Stmt):Scope:=match s with
 | .FunctionDef _ _ _ _ _ _ sc _ _ _=>sc
 | _=>{kind:=.function,names:=[],isGenerator:=false,isCoroutine:=false}
noncomputable abbrev CX0:CXT:=fun _ _ _ _ _ _=>False
noncomputable abbrev E0:XK:=fun _ _ _=>False
theorem av {X:Cx}:nE CX0 X E0:=fun _ _ _ _ _ _ _ h=>h.elim
structure Fun (K:W.Frag) (x qual:Str) (st:Stmt) (f:Addr) (fd:FuncData):Prop where
 ex: ∃ (oc:Value) (od:Option Addr) (kV doc pm:Value) (an:Option Addr) (cdv ct:Value) (osl:Array (Option Value)),
  fd=PySem.W.fnOf x qual (iJ st) (bV st) (ag st) .none kV doc pm an cdv ct/\K.lookup f=some ⟨oc,od,.func fd,osl⟩/\PySem.W.codeIn K cdv qual=true
 kp:W.keepIn K (.ref f)=true
section
variable {P:Program} {w:World} {K:W.Frag} {mg:Str->Option Value} {base:Heap}
theorem Fun.ok {x qual:Str} {st:Stmt} {f:Addr} {fd:FuncData} {N ps:List Str} {k:Nat} {sp:Sp} (F:Fun K x qual st f fd) (S:aB N ps (ag st)) (len: ∀ vs H Q E,sp vs H Q E->vs.length=ps.length)
  (hbody: ∀ (cdv:Value) (A:Around) (outer:List Env) (s:Shared) (H:Hp) (vs:List V) (Q:VK) (E:XK),Room k (A.deeper (envOfC qual (ag st) s.heap.objs.size f cdv))->sp vs H Q E->
   ∃ t,PSs (cV CX0 P w K mg base N qual (ag st) f cdv A outer s H E).nox (bV st) t/\t {nx:=fun _ H'=>Q .non H',rt:=Q} (ji N vs) H):FnOk P w K mg base CX0 (k+1) f fd ps sp:=by
 obtain ⟨oc,od,kV,doc,pm,an,cdv,ct,osl,rfl,lk,hcd⟩:=F.ex
 refine Ak lk hcd S len fun A outer s H vs Q E hr hsp=>?_
 obtain ⟨t,h,q⟩:=hbody cdv A outer s H vs Q E hr hsp
 exact ⟨t,h.nox,q⟩
theorem Fun.binds {x qual:Str} {st:Stmt} {f:Addr} {fd:FuncData} {ps:List Str} (F:Fun K x qual st f fd)
  (h: ∀ (kV doc pm:Value) (an:Option Addr) (cdv ct:Value) (us:List Value),us.length=ps.length->bindArgs (PySem.W.fnOf x qual (iJ st) (bV st) (ag st) .none kV doc pm an cdv ct) ⟨us,[]⟩=pure (ps.zip us)):Binds K fd ps []:=by
 obtain ⟨oc,od,kV,doc,pm,an,cdv,ct,osl,rfl,lk,hcd⟩:=F.ex
 exact .all (h kV doc pm an cdv ct)
end
theorem cF {A:Around} {k:Nat} (hr:Room k A):A.units+16<cLine:=Nat.lt_of_le_of_lt (Nat.add_le_add_left (by decide:16<=64) _) hr.units
theorem aG {n:Nat} (h:n<=1000):n<sizeLine:=Nat.lt_of_le_of_lt h (by decide)
section
variable {X:Cx}
theorem pv (i:Nat) {x:Str} {pos:Pos} (hN:X.N[i]? =some x:=by rfl) (hv:Vis X.env.scope x:=by first | exact Or.inl rfl | exact Or.inr (Or.inl rfl) | exact Or.inr (Or.inr rfl)) (hd:(x==("__debug__":Str))=false:=by decide)
  (hcd:(x==("__classdict__":Str))=false:=by decide):PE X (.Name x pos) (jF i):=yq hN hv hd hcd
end
theorem bh {A B:Prop} (h:B):if false=true then A else B:=by
 rw [if_neg Bool.false_ne_true]
 exact h
theorem bt {A B:Prop} (h:A):if true=true then A else B:=by
 rw [if_pos rfl]
 exact h
theorem cU {c A B:Prop} [Decidable c] (h1:c->A) (h2: ¬ c->B):if c then A else B:=by
 by_cases h:c
 ·rw [if_pos h]
  exact h1 h
 ·rw [if_neg h]
  exact h2 h
def Same (H H':Hp):Prop:= ∀ b o,H b=some o->H' b=some o
theorem Same.refl (H:Hp):Same H H:=fun _ _ h=>h
theorem Same.trans {H H1 H2:Hp} (a:Same H H1) (b:Same H1 H2):Same H H2:=fun c o h=>b c o (a c o h)
theorem Same.free {H H':Hp} (e:Same H H') {l:Addr} (h:H' l=Option.none):H l=Option.none:=by
 cases q:H l with
 | none=>rfl
 | some o=>
  rw [e l o q]at h
  cases h
theorem Same.seq {K:W.Frag} {H H':Hp} {a:Addr} {xs:List V} (e:Same H H') (h:SqL K H a xs):SqL K H' a xs:=by
 rcases h with (h | ⟨o,h⟩) | h
 ·exact .inl (.inl (e _ _ h))
 ·exact .inl (.inr ⟨o,e _ _ h⟩)
 ·exact .inr h
section
variable {X:Cx}
theorem jm:OpR X (compareOp .IsNot) (fun x y H Q=> ∃ a b,x=.bl a/\y=.bl b/\Q (.bl (a !=b)) H):=by
 intro pins s Z H x y v u Q I rx ry h
 obtain ⟨a,b,rfl,rfl,q⟩:=h
 cases rx
 cases ry
 exact PyProof.Rows.isnot_bool (a8 I q rfl)
theorem v3:eG X (.builtin "isinstance") (fun xs H Q=> ∃ x T t b,xs=[x,.ty T]/\iM X.K H x t/\PySem.W.kitOne X.K t (.type T)=some b/\Q (.bl b) H):=by
 intro pins s Z H xs us Q I r h
 obtain ⟨x,T,t,b,rfl,ty,e,q⟩:=h
 obtain ⟨u,w',rfl,ru,rw'⟩:=qI r
 cases (show w'=Value.type T from rw')
 exact tL I ru ty e fun tk=>⟨.bl b,H,I.tok tk,rfl,q⟩
end
theorem iG {α β:Type} {f:α->β->Sem (ForInStep β)} (g:β->α->β): ∀ {l:List α} (c:β),(∀ x∈l,∀ c,f x c=pure (.yield (g c x)))->forIn l c f=pure (l.foldl g c)
 | [],c,_=>rfl
 | x::l,c,h=>by
  have hx:=h x List.mem_cons_self c
  rw [List.forIn_cons,hx,pure_bind]
  exact iG g (g c x) fun y hy=>h y (List.mem_cons_of_mem _ hy)
noncomputable def cG (cells:List (Str×Addr)) (c:List (Str×Addr)) (x:Str×NameKind):List (Str×Addr):=
 if x.2=.free then (match cells.lookup x.1 with | some a=>(x.1,a)::c | none=>c)else c
noncomputable def eB (cells:List (Str×Addr)) (names:List (Str×NameKind)):List (Str×Addr):=names.foldl (cG cells) []
theorem eX {scope:Scope} {env:Env} (h: ∀ x∈scope.names,x.2=.free-> ∃ c,env.cells.lookup x.1=some c):closureFor scope env=pure (eB env.cells scope.names):=by
 simp only [closureFor]
 rw [iG (cG env.cells) [] (fun x hx c=>by
  obtain ⟨n,kind⟩:=x
  by_cases hk:kind=.free
  ·subst hk
   obtain ⟨a,ha⟩:=h _ hx rfl
   simp only [cG,if_true,beq_self_eq_true,cellOf,ha,pure_bind]
  ·have hb:(kind==NameKind.free)=false:=by simpa using hk
   simp only [cG,hb,hk,Bool.false_eq_true,if_false])]
 rfl
theorem kl {cells:List (Str×Addr)}: ∀ {names:List (Str×NameKind)} {acc:List (Str×Addr)},(∀ p∈acc,cells.lookup p.1=some p.2)-> ∀ p∈names.foldl (cG cells) acc,cells.lookup p.1=some p.2
 | [],_,h=>h
 | x::r,acc,h=>by
  refine kl (names:=r) (acc:=cG cells acc x) ?_
  intro p hp
  unfold cG at hp
  split at hp
  ·split at hp
   ·rename_i a ha
    rcases List.mem_cons.mp hp with e | e
    ·subst e
     exact ha
    ·exact h p e
   ·exact h p hp
  ·exact h p hp
theorem km {cells:List (Str×Addr)}: ∀ {names:List (Str×NameKind)} {acc:List (Str×Addr)} {p:Str×Addr},p∈acc->p∈names.foldl (cG cells) acc
 | [],_,_,h=>h
 | x::r,acc,p,h=>by
  refine km (names:=r) (acc:=cG cells acc x) ?_
  unfold cG
  split
  ·split
   ·exact List.mem_cons_of_mem _ h
   ·exact h
  ·exact h
theorem oU {cells:List (Str×Addr)} {n:Str} {c:Addr} (hc:cells.lookup n=some c): ∀ {names:List (Str×NameKind)} {acc:List (Str×Addr)},(n,NameKind.free)∈names->(n,c)∈names.foldl (cG cells) acc
 | [],_,h=>by simp at h
 | x::r,acc,h=>by
  rcases List.mem_cons.mp h with e | e
  ·subst e
   refine km (names:=r) ?_
   simp [cG,hc]
  ·exact oU hc (names:=r) e
theorem mem_of_lookup {α β:Type} [BEq α] [LawfulBEq α] {k:α} {v:β}: ∀ {l:List (α×β)},l.lookup k=some v->(k,v)∈l
 | [],h=>by simp at h
 | (a,b)::r,h=>by
  rw [List.lookup_cons]at h
  split at h
  ·rename_i e
   have:=eq_of_beq e
   subst this
   cases h
   exact List.mem_cons_self
  ·exact List.mem_cons_of_mem _ (mem_of_lookup h)
theorem gT {α β:Type} [BEq α] [LawfulBEq α] {k:α} {v:β}: ∀ {l:List (α×β)},(k,v)∈l-> ∃ v',l.lookup k=some v'
 | [],h=>by simp at h
 | (a,b)::r,h=>by
  rw [List.lookup_cons]
  split
  ·exact ⟨b,rfl⟩
  ·rename_i e
   rcases List.mem_cons.mp h with q | q
   ·cases q
    simp at e
   ·exact gT q
theorem dN {cells:List (Str×Addr)} {names:List (Str×NameKind)} {n:Str} {c:Addr} (h:(eB cells names).lookup n=some c):cells.lookup n=some c:=
 kl (names:=names) (acc:=[]) (by simp) (n,c) (mem_of_lookup h)
theorem du {cells:List (Str×Addr)} {names:List (Str×NameKind)} {n:Str} {c:Addr} (hc:cells.lookup n=some c) (h:(n,NameKind.free)∈names):(eB cells names).lookup n=some c:=by
 obtain ⟨c',e⟩:=gT (oU hc (acc:=[]) h)
 have:=dN e
 rw [hc]at this
 cases this
 exact e
noncomputable def bx (sc0 scope:Scope):List (Str×NameKind):=
 scope.names.map fun (n,k)=>if (k== .free&&sc0.kind== .function&&sc0.names.lookup n==some .cell)then (n,.cell)else (n,k)
structure il (sc0:Scope) (N0:List Str) (scope:Scope) (x:Str) (ys:List Str) (fr:List Nat):Prop where
 kind:scope.kind=.function
 nocell: ∀ y∈scope.names,y.2≠ .cell
 loc: ∀ y∈scope.names,y.2=.local->scope.names.lookup y.1=some .local
 xl:(bx sc0 scope).lookup x=some .local
 free: ∀ y∈scope.names,y.2=.free->sc0.names.lookup y.1=some .cell
 nd:(x::ys).Nodup
 len:ys.length=fr.length
 sl: ∀ q∈ys.zip fr,N0[q.2]? =some q.1/\sc0.names.lookup q.1=some .cell/\(bx sc0 scope).lookup q.1=some .cell
theorem cok {sc0:Scope} {N0:List Str} {scope:Scope} {x:Str} {ys:List Str} {fr:List Nat} (kind_:scope.kind=.function:=by rfl) (nocell_: ∀ y∈scope.names,y.2≠ .cell:=by decide +kernel) (loc_: ∀ y∈scope.names,y.2=.local->scope.names.lookup y.1=some .local:=by decide +kernel) (xl_:(bx sc0 scope).lookup x=some .local:=by decide +kernel) (free_: ∀ y∈scope.names,y.2=.free->sc0.names.lookup y.1=some .cell:=by decide +kernel) (nd_:(x::ys).Nodup:=by decide +kernel) (len_:ys.length=fr.length:=by rfl) (sl_: ∀ q∈ys.zip fr,N0[q.2]? =some q.1/\sc0.names.lookup q.1=some .cell/\(bx sc0 scope).lookup q.1=some .cell:=by decide +kernel):il sc0 N0 scope x ys fr:=⟨kind_,nocell_,loc_,xl_,free_,nd_,len_,sl_⟩
noncomputable def bY (X:Cx) (x:Str) (ys:List Str) (scope:Scope) (C:Addr) (s:Shared) (H:Hp) (ex:List Addr):Cx:=
 {X with N:=x::ys,s₀:=s,H₀:=H,env:=compEnvC scope (eB X.env.cells scope.names) C X.env,outer:=X.stack,stack:=X.stack,ex:=ex,fn:=fun _=>false,pn:=[],xe:=fun _ _=>False}
section
variable {prog:Program} {w:World} {A:Around} {R:Result->Shared->Prop} {s:Shared}
theorem gV {elt target iter:Expr} {scope:Scope} {pos:Pos} {it acc:Value} {env:Env} (I:Nat->Shared->Prop)
  (turn: ∀ n s,I n s->wpAny (model prog w) A (pyNext it) (fun r s₁=>match r with
   | none=>R (.ok .next) s₁
   | some v=>wpAny (model prog w) A (letOwnedTupleGo target it v) (fun _ s₁'=>wpAny (model prog w) A (assign target env v) (fun _ s₂=>wpAny (model prog w) A (eval elt env) (fun x s₃=>
     wpAny (model prog w) A (call (.builtin "list.append") [acc,x]) (fun _ s₄=> ∃ m,m<n/\I m s₄) (fun _ _=>False) s₃) (fun _ _=>False) s₂) (fun _ _=>False) s₁') (fun _ _=>False) s₁) (fun _ _=>False) s)
  (n:Nat) (h:I n s):codeAny (model prog w) A (.compLoop (.ListComp elt [⟨target,iter,[],0⟩] scope pos) 0 it acc env) R s:=by
 refine codeAny_loop rfl I (fun n s hI=>?_) n h
 show wpAny _ _ ((compTurn (.ListComp elt [⟨target,iter,[],0⟩] scope pos) 0 it acc env).onRaise (fun x=>do noteFrame x env;theTreesLotGoes x)) _ _ s
 refine wpAny_noted ?_
 rw [compTurn_list1]
 refine wpAny_noRaise ?_
 refine wpAny_bind (wpAny_standAt (wpAny_bind (wpAny_mono (turn n s hI) (fun r s₁ h₁=>?_) fun _ _ h'=>h')))
 cases r with
 | none=>exact wpAny_pure h₁
 | some v=>
  refine wpAny_bind (wpAny_mono h₁ (fun _ s₁' h₁'=>?_) fun _ _ h'=>h')
  exact wpAny_bind (wpAny_mono h₁' (fun _ s₂ h₂=>wpAny_bind (wpAny_bind (wpAny_mono h₂ (fun x s₃ h₃=>wpAny_bind (wpAny_mono h₃
   (fun _ s₄ h₄=>wpAny_pure (wpAny_pure ⟨rfl,h₄⟩)) fun _ _ h'=>h')) fun _ _ h'=>h'))) fun _ _ h'=>h')
end
noncomputable def cS (fr:List Nat) (Z:St):St:=fr.map fun j=>(Z[j]?).join
def iP (fr:List Nat) (te:TE) (Z:St) (J:It) (H1:Hp) (Q:VK):Prop:=
 ∀ p,H1 p=none-> ∃ W:Nat->Nat->List V->Hp->Prop,(∃ m,W 0 m [] (upd H1 p (.lst [])))/\ ∀ i m ys H,W i m ys H->H p=some (.lst ys)/\
  ((J.stop i H/\Q (.ref p) H)\/(J.go i H/\ys.length<sizeLine/\ ∀ x H',J.yld i H x H'->te (some x::cS fr Z) H' fun v H2=>
   H2 p=some (.lst ys)/\ ∃ m',m'<m/\W (i+1) m' (ys++[v]) (upd H2 p (.lst (ys++[v])))))
def uk (wi:TI) (fr:List Nat) (te:TE):TE:=fun Z H Q=>wi Z H fun J H1=>iP fr te Z J H1 Q
section
variable {X:Cx} {x:Str} {px pos fpos:Pos} {iter elt:Expr} {scope sc0:Scope} {N0 ys:List Str} {fr:List Nat} {wi:TI} {te:TE} {pins:List (Addr×Obj)} {Z:St} {H:Hp} {s:Shared}
theorem lM {use:Option (Value->Sem Unit)} {Qv:Value->Shared->Prop} {Q:VK} (hcalm:X.calm=true) (hi:PI X (.Name x px) iter wi) (hsc:X.env.scope=sc0) (hN:X.N=N0) (ok:il sc0 N0 scope x ys fr)
  (hE: ∀ C s H ex,PE (bY X x ys scope C s H ex) elt te) (I:Inv X pins Z H s) (h:uk wi fr te Z H Q) (hs: ∀ v,foldedSetIterable iter X.env v=pure v)
  (fin: ∀ (p C:Addr) (H':Hp) (s':Shared) (m:Str->Option Value),Inv X pins Z H' s'->s'.heap.Ns C m->H' C=none->C≠X.env.locals->X.s₀.heap.objs.size<=C->(∀ y c,X.env.cells.lookup y=some c->c≠C)->(∀ q∈X.pn++pins,q.1≠C)->Q (.ref p) H'->
   compPost (model X.prog X.w) X.A X.xe use Qv (.ref p) C (.ok .next) s'):
  wpAny (model X.prog X.w) X.A (comprehension (.ListComp elt [⟨.Name x px,iter,[],0⟩] scope pos) scope X.env fpos (newList []) false (eval iter X.env) use) Qv X.xe s:=by
 subst hsc hN
 have hkof: ∀ y,X.env.kindOf y=X.env.scope.names.lookup y:=fun y=>rfl
 have hfree: ∀ y∈scope.names,y.2=.free-> ∃ c,X.env.cells.lookup y.1=some c:=fun y hy e=>I.ok.has y.1 (.inl (ok.free y hy e))
 refine wpAny_comprehension_free (gs:=[]) rfl hs (eX hfree) ok.kind ok.loc (thn (hi pins s Z H _ I h) fun v s1 h1=>thn h1 fun itv s2 h2=>?_)
 obtain ⟨it,fp,tn,J,H2,e,I2,T,st2,f2,hp⟩:=h2
 subst e
 refine wpAny_newObj_type (wpAny_newFunctionEnv ok.nocell (by intro y hy;simp at hy) (fun h₁ hns₁ hsb₁=>?_) ok.kind)
 dsimp only at hns₁ hsb₁ ⊢
 have I3:Inv X pins Z (upd H2 s2.heap.objs.size (.lst [])) {s2 with heap:=s2.heap.push {cls:=.type "list",data:=.seq ([]:List Value).toArray}}:=
  I2.lnew (its:=[]) (ys:=[]) (t':=s2.toks) .nil (Nat.zero_le _)
 have hf2: ∀ b∈fp,b<s2.heap.objs.size:=fun b hb=>by
  obtain ⟨o,e,_⟩:=T.obj _ _ st2 b hb
  exact Heap.lt_size e
 have hps:s2.heap.objs.size< (s2.heap.push {cls:=.type "list",data:=.seq ([]:List Value).toArray}).objs.size:=by rw [Heap.size_push];exact Nat.lt_succ_self _
 have W0:=hp s2.heap.objs.size I2.fresh
 have st3:tn 0 (s2.heap.push {cls:=.type "list",data:=.seq ([]:List Value).toArray}):=T.keep _ _ _ st2 fun b hb o e=>Heap.get?_push_of_some _ e
 generalize hpp:s2.heap.objs.size=p at I3 W0 hf2 hps ⊢
 generalize hh3:(s2.heap.push {cls:=.type "list",data:=.seq ([]:List Value).toArray})=h3 at I3 hns₁ hsb₁ hps st3 ⊢
 generalize hH3:upd H2 p (.lst [])=H3 at I3 W0
 have hold: ∀ b o,h3.get? b=some o->h₁.get? b=some o:=fun b o e=>hsb₁.extBut b o (Nat.ne_of_lt (Heap.lt_size e)) (Heap.get?_push_of_some _ e)
 have fH3: ∀ b∈fp,H3 b=none:=fun b hb=>by
  rw [<- hH3,am (Nat.ne_of_lt (hf2 b hb))]
  exact (f2 b hb).1
 have hclos: ∀ y c,(eB X.env.cells scope.names).lookup y=some c->X.env.cells.lookup y=some c:=fun y c e=>dN e
 have hcell3: ∀ y c,X.env.cells.lookup y=some c->c<h3.objs.size:=fun y c e=>by
  obtain ⟨v,o,ho,_⟩:=I3.cell y c e
  exact Heap.lt_size ho
 have hlt3:X.env.locals<h3.objs.size:=I3.lt
 have Yok:(bY X x ys scope h3.objs.size {s2 with heap:=h3} H3 fp).Ok:={
  mod:=I.ok.mod
  kind:=ok.kind
  glob:=I.ok.glob
  blt:=I.ok.blt
  above:=Nat.le_refl _
  inj:=fun y z c e1 e2=>I.ok.inj y z c (hclos _ _ e1) (hclos _ _ e2)
  has:=fun y hk=>by
   have hfr:(y,NameKind.free)∈scope.names:=by
    have hm: ∃ k,(bx X.env.scope scope).lookup y=some k/\(k=.cell\/k=.free):=by
     rcases hk with hk | hk
     ·exact ⟨_,hk,.inl rfl⟩
     ·exact ⟨_,hk,.inr rfl⟩
    obtain ⟨k,hk,hkk⟩:=hm
    have hmem:=mem_of_lookup hk
    unfold bx at hmem
    obtain ⟨⟨n,k0⟩,hn,en⟩:=List.mem_map.mp hmem
    dsimp only at en
    split at en
    ·rename_i hc
     simp only [Bool.and_eq_true]at hc
     have hk0:k0=.free:=by simpa using hc.1.1
     cases en
     rw [<- hk0]
     exact hn
    ·cases en
     rcases hkk with e | e
     ·exact absurd e (ok.nocell _ hn)
     ·rw [<- e]
      exact hn
   obtain ⟨c,hc⟩:=hfree _ hfr rfl
   exact ⟨c,du hc hfr⟩
  cab:=fun y c hf _=>by cases hf
  hd:=I.ok.hd
  frames:=I.ok.frames
  stk:=.inl rfl
  exf:=fun b hb=>⟨fun e=>absurd (hf2 b hb) (by rw [e];exact Nat.not_lt.mpr (Nat.le_of_lt hps)),fun y c e=>(f2 b hb).2.2.2.2.1 y c (hclos _ _ e)⟩
  bs:=fun b o e=>⟨(I3.bs b o e).1,(I3.bs b o e).2⟩
  bsz:=Nat.le_trans I.ok.bsz I3.sz
  noex:=fun b o e hb=>by
   rcases (f2 b hb).2.2.2.1 with q | q
   ·exact I.ok.noex b o e q
   ·have h1:b<X.base.objs.size:=Heap.lt_size e
    exact absurd h1 (Nat.not_lt.mpr (Nat.le_trans I.ok.bsz q))
  exfs:=fun b hb hm=>by
   rcases List.mem_cons.mp (I3.stkSub b hm)with q | q
   ·exact (f2 b hb).2.1 q
   ·exact (f2 b hb).2.2.1 q
  funs:=I3.stack
  frf:=I3.stkFree}
 have IY:Inv (bY X x ys scope h3.objs.size {s2 with heap:=h3} H3 fp) [] (none::cS fr Z) H3 {s2 with heap:=h₁,toks:=s2.toks+ ([]:List (Str×Value)).length}:={
  ok:=Yok
  os:=rfl
  bare:=I2.bare
  base:=Un.kept hold
  loc:=by
   refine ⟨_,hns₁,fun i y v hy hv hvis=>?_⟩
   cases i with
   | zero=>cases hv
   | succ j=>
    have hy':ys[j]? =some y:=hy
    have hv':(cS fr Z)[j]? =some (some v):=hv
    unfold cS at hv'
    rw [List.getElem?_map]at hv'
    obtain ⟨i0,hi0,hv0⟩:=Option.map_eq_some_iff.mp hv'
    have hz:(y,i0)∈ys.zip fr:=by
     refine List.mem_iff_getElem?.mpr ⟨j,?_⟩
     rw [List.getElem?_zip_eq_some]
     exact ⟨hy',hi0⟩
    obtain ⟨hn,hk,hk2⟩:=ok.sl _ hz
    have hZ:Z[i0]? =some (some v):=by
     cases e:Z[i0]? with
     | none=>rw [e]at hv0;cases hv0
     | some o=>
      rw [e]at hv0
      rw [show o=some v from hv0]
    obtain ⟨m,hm,hl⟩:=I3.loc
    obtain ⟨u,ru,lk⟩:=hl i0 y v hn hZ (.inr (.inl hk))
    refine ⟨u,ru,.inr ⟨.inl hk2,?_⟩⟩
    rcases lk with ⟨a,_⟩ | ⟨_,c,hc,hcell⟩
    ·have a':X.env.scope.names.lookup y=some .local:=a
     have hk':X.env.scope.names.lookup y=some .cell:=hk
     rw [hk']at a'
     cases a'
    ·have hfr:(y,NameKind.free)∈scope.names:=by
      have hmem:=mem_of_lookup hk2
      unfold bx at hmem
      obtain ⟨⟨n,k0⟩,hn0,en⟩:=List.mem_map.mp hmem
      dsimp only at en
      split at en
      ·rename_i hc0
       simp only [Bool.and_eq_true]at hc0
       have hk0:k0=.free:=by simpa using hc0.1.1
       cases en
       rw [<- hk0]
       exact hn0
      ·cases en
       exact absurd rfl (ok.nocell _ hn0)
     exact ⟨c,du hc hfr,hcell.keeps hold⟩
  cell:=fun y c e=>by
   obtain ⟨v,hv⟩:=I3.cell y c (hclos _ _ e)
   exact ⟨v,hv.keeps hold⟩
  free:=I3.fresh
  freeC:=fun y c e=>I3.freeC y c (hclos _ _ e)
  pin:=fun q hq=>by cases hq
  hok:=I3.hok.kept hold
  len:=by
   show (none::cS fr Z).length=(x::ys).length
   rw [List.length_cons,List.length_cons,ok.len]
   unfold cS
   rw [List.length_map]}
 have hxl:(bY X x ys scope h3.objs.size {s2 with heap:=h3} H3 fp).env.scope.names.lookup x=some .local:=ok.xl
 have pgx:PG (bY X x ys scope h3.objs.size {s2 with heap:=h3} H3 fp) (.Name x px) (gU 0):=aH (i:=0) ok.nd rfl (.inl hxl) (.inr hxl)
 have pel:=hE h3.objs.size {s2 with heap:=h3} H3 fp
 obtain ⟨W,⟨m0,w0⟩,turn⟩:=W0
 have stat: ∀ {H':Hp},(∀ b∈fp,H' b=none)-> ∀ b∈fp,kq (bY X x ys scope h3.objs.size {s2 with heap:=h3} H3 fp) [] H' b:=fun hn b hb=>
  ⟨hn b hb,(Yok.exf b hb).1,Yok.exfs b hb,.inl hb,(Yok.exf b hb).2,fun q hq=>by cases hq⟩
 have loop:codeAny (model X.prog X.w) X.A (.compLoop (.ListComp elt [⟨.Name x px,iter,[],0⟩] scope pos) 0 (.ref it) (.ref p) (compEnvC scope (eB X.env.cells scope.names) h3.objs.size X.env))
   (compPost (model X.prog X.w) X.A X.xe use Qv (.ref p) h3.objs.size) {s2 with heap:=h₁,toks:=s2.toks+ ([]:List (Str×Value)).length}:=by
  refine gV (fun n s'=> ∃ i zs v0 H',Inv (bY X x ys scope h3.objs.size {s2 with heap:=h3} H3 fp) [] (v0::cS fr Z) H' s'/\tn i s'.heap/\(∀ b∈fp,H' b=none)/\W i n zs H') ?_ m0
   ⟨0,[],none,H3,IY,T.keep _ _ _ st3 fun b hb o e=>hold b o e,fH3,w0⟩
  rintro n s5 ⟨i,zs,v0,H5,I5,st5,fr5,w5⟩
  obtain ⟨hacc,turn5⟩:=turn i n zs H5 w5
  rcases turn5 with ⟨stop,qn⟩ | ⟨go,hlen,step⟩
  ·refine thn (T.done (bY X x ys scope h3.objs.size {s2 with heap:=h3} H3 fp) rfl rfl rfl hcalm i [] s5 _ H5 _ I5 (stat fr5) st5 stop) fun r s6 ⟨hr,I6⟩=>?_
   subst hr
   obtain ⟨m6,n6,_⟩:=I6.loc
   refine fin p h3.objs.size H5 s6 m6 (I3.call' I6.os I6.base I6.hok I6.bare fun b hb=>⟨(f2 b hb).2.2.2.1,(f2 b hb).2.1,(f2 b hb).2.2.2.2.1,(f2 b hb).2.2.2.2.2⟩) n6 I6.free (Nat.ne_of_gt hlt3) I3.sz (fun y c e=>Nat.ne_of_lt (hcell3 y c e)) (fun q hq=>?_) qn
   exact Nat.ne_of_lt (Heap.lt_size (I3.pin q hq).1)
  ·refine thn (T.item (bY X x ys scope h3.objs.size {s2 with heap:=h3} H3 fp) rfl rfl rfl hcalm i [] s5 _ H5 _ I5 (stat fr5) st5 go) fun r s6 ⟨u,hr,h6⟩=>?_
   subst hr
   refine thn h6 fun _ s7 ⟨xv,H7,I7,r7,y7,st7,fr7⟩=>?_
   have I7':=I7.pinned (stat fr7) (T.obj _ _ st7)
   refine thn (pgx _ s7 _ H7 xv u (fun Z' H'=>Z'=some xv::cS fr Z/\H'=H7) I7' r7 ⟨rfl,rfl⟩) fun _ s8 ⟨Z8,H8,I8,e8,e8'⟩=>?_
   subst e8 e8'
   refine thn (pel _ s8 _ H8 _ I8 (step xv H8 y7)) fun yv s9 ⟨v9,H9,I9,r9,hp9,m',hm',w9⟩=>?_
   refine thn (bM _ s9 _ H9 (.ref p) [v9] (.ref p) [yv] (fun _ H'=>H'=upd H9 p (.lst (zs++[v9]))) I9 rfl (.cons r9 .nil) ⟨p,zs,v9,rfl,rfl,hp9,hlen,rfl⟩) fun _ s10 ⟨_,H10,I10,_,e10⟩=>?_
   subst e10
   refine ⟨m',hm',i+1,zs++[v9],some xv,_,I10.unpinned,T.keep _ _ _ st7 fun b hb o e=>(I10.pin (b,o) (List.mem_append_right _ (List.mem_append_right _ (cu hb e)))).1,fun b hb=>?_,w9⟩
   obtain ⟨o,e,d⟩:=T.obj _ _ st7 b hb
   exact (I10.pin (b,o) (List.mem_append_right _ (List.mem_append_right _ (cu hb e)))).2.1
 exact codeAny_compStart_list loop (T.self X.A 0 _ _ _ (T.keep _ _ _ st3 fun b hb o e=>hold b o e) loop)
theorem cy (hcalm:X.calm=true) (hi:PI X (.Name x px) iter wi) (hsc:X.env.scope=sc0) (hN:X.N=N0) (ok:il sc0 N0 scope x ys fr)
  (hE: ∀ C s H ex,PE (bY X x ys scope C s H ex) elt te) (hs: ∀ v,foldedSetIterable iter X.env v=pure v:=by intro _;rfl):
  PE X (.ListComp elt [⟨.Name x px,iter,[],0⟩] scope pos) (uk wi fr te):=by
 intro pins s Z H Q I h
 rw [eval_ListComp]
 refine lM (use:=none) (Qv:=EP X pins Z Q) (Q:=Q) hcalm hi hsc hN ok hE I h hs fun p C H' s' m I' hn h0 h1 h2 h3 h4 q=>?_
 refine ⟨m,hn,fun h' sb=>⟨.ref p,H',I'.turned (t':=s'.toks) (fun b o hb e=>sb.extBut b o hb e) h0 (Ne.symm (Ne.symm h1)) (.inr h2) h3 h4,rfl,q⟩⟩
theorem eN {i:Nat} {y:Str} {py spos:Pos} (hcalm:X.calm=true) (hnd:X.N.Nodup) (hiN:X.N[i]? =some y) (hy:Loc X.env.scope y) (hi:PI X (.Name x px) iter wi) (hsc:X.env.scope=sc0) (hN:X.N=N0) (ok:il sc0 N0 scope x ys fr)
  (hE: ∀ C s H ex,PE (bY X x ys scope C s H ex) elt te) (hsw:swapsWith (.ListComp elt [⟨.Name x px,iter,[],0⟩] scope pos) (some (.Name y py)) spos.line X.env=pure true:=by rfl)
  (hs: ∀ v,foldedSetIterable iter X.env v=pure v:=by intro _;rfl) (hf:X.fn y=true\/X.env.scope.names.lookup y=some .local:=by first | exact .inl rfl | exact .inr rfl | assumption):
  PS X (.Assign [.Name y py] (.ListComp elt [⟨.Name x px,iter,[],0⟩] scope pos) spos) (lZ (uk wi fr te) (gU i)):=by
 intro pins s Z H D I h
 rw [exec_Assign_Name_used _ _ _ _ hsw]
 refine wpAny_bind (wpAny_standAt (wpAny_bind ?_))
 show wpAny _ X.A (do let _ <- comprehension (.ListComp elt [⟨.Name x px,iter,[],0⟩] scope pos) scope X.env _ (newList []) false (eval iter X.env) (some (assign (.Name y py) X.env))) _ _ s
 refine wpAny_bind (thn (lM (use:=some (assign (.Name y py) X.env)) (Qv:=fun _ s'=>SP X pins D .next s') (Q:=fun v H'=>D.nx (Z.set i (some v)) H') hcalm hi hsc hN ok hE I h hs fun p C H' s' m I' hn h0 h1 h2 h3 h4 q=>?_) fun _ s' hq=>wpAny_pure (wpAny_pure hq))
 show wpAny _ X.A (assign (.Name y py) X.env (.ref p)) _ _ s'
 refine wpAny_assign_Name (iQ (v:=.ref p) I' hnd hiN hy rfl (fun s'' I'' ⟨a,sb,ha⟩=>?_) hf)
 have hCa:C≠a:=by
  rcases ha with e | e
  ·rw [e];exact h1
  ·exact (h3 y a e).symm
 refine ⟨m,hn.sameBut sb hCa,fun h' sb'=>⟨_,H',I''.turned (t':=s''.toks) (fun b o hb e=>sb'.extBut b o hb e) h0 h1 (.inr h2) h3 h4,q⟩⟩
theorem gQ {n:Nat} {J:It} {H1:Hp} {Q:VK} {R:Nat->V->Prop} (hn:n<=1000) (hgo: ∀ i H,i<n->J.go i H) (hstop: ∀ H,J.stop n H) (hy: ∀ i H v H',J.yld i H v H'->H'=H/\R i v)
  (Pv:Addr->Nat->List V->Hp->Prop) (h0: ∀ p,H1 p=none->Pv p 0 [] (upd H1 p (.lst []))) (hl: ∀ p i zs H,Pv p i zs H->H p=some (.lst zs)/\zs.length=i)
  (hs: ∀ p i zs H v (k:VK),H1 p=none->i<n->R i v->Pv p i zs H->(∀ u H2,H2 p=some (.lst zs)->Pv p (i+1) (zs++[u]) (upd H2 p (.lst (zs++[u])))->k u H2)->te (some v::cS fr Z) H k)
  (hd: ∀ p zs H,H1 p=none->Pv p n zs H->Q (.ref p) H):iP fr te Z J H1 Q:=by
 intro p hp
 refine ⟨fun i m zs H=>i<=n/\m=n-i/\Pv p i zs H,⟨n,Nat.zero_le _,by simp,h0 p hp⟩,?_⟩
 rintro i m zs H ⟨hi,hm,q⟩
 obtain ⟨hp',hz⟩:=hl p i zs H q
 refine ⟨hp',?_⟩
 by_cases e:i=n
 ·subst e
  exact .inl ⟨hstop H,hd p zs H hp q⟩
 ·have hlt:i<n:=by lia
  refine .inr ⟨hgo i H hlt,aG (by lia),fun v H' hv=>?_⟩
  obtain ⟨rfl,r⟩:=hy i H v H' hv
  refine hs p i zs H' v _ hp hlt r q fun u H2 a b=>?_
  exact ⟨a,n- (i+1),by lia,by lia,rfl,b⟩
theorem nk {lo:Int} {n:Nat}: ∀ i H,i<n->(Itr lo n).go i H:=fun _ _ h=>h
theorem iF {lo:Int} {n:Nat}: ∀ H,(Itr lo n).stop n H:=fun _=>Nat.le_refl n
theorem jy {lo:Int} {n:Nat}: ∀ i H v H',(Itr lo n).yld i H v H'->H'=H/\v=.int (lo+i):=fun _ _ _ _ h=>h
end
section
variable {X:Cx} {e k:Expr} {te tk:TE} {pos p2:Pos}
theorem eZ: ∀ (ix:List Nat) {xs:List V} {us:List Value},Vals xs us->Vals (ix.filterMap (xs[·]?)) (ix.filterMap (us[·]?))
 | [],_,_,_=>.nil
 | i::r,xs,us,h=>by
  rw [List.filterMap_cons,List.filterMap_cons]
  cases ex:xs[i]? with
  | none=>
   rw [h.none_of ex]
   exact eZ r h
  | some x=>
   obtain ⟨u,eu,ru⟩:=h.get ex
   rw [eu]
   exact .cons ru (eZ r h)
noncomputable def fP (n:Nat) (c:Int):List Nat:=sliceRange (sliceBounds none none (some c) n).1 (sliceBounds none none (some c) n).2.1 (sliceBounds none none (some c) n).2.2
noncomputable def fH (xs:List V) (c:Int):List V:=(fP xs.length c).filterMap (xs[·]?)
theorem pU {α:Type} (xs:List α):(List.range xs.length).filterMap (xs[·]?)=xs:=by
 induction xs with
 | nil=>rfl
 | cons x r ih=>
  rw [List.length_cons,List.range_succ_eq_map,List.filterMap_cons,List.filterMap_map]
  show x::List.filterMap ((fun j=>(x::r)[j]?)∘Nat.succ) (List.range r.length)=x::r
  congr 1
theorem pB (n:Nat):fP n 1=List.range n:=by
 unfold fP sliceBounds sliceRange
 simp only [Option.getD_some,show (1:Int) >0 by decide,if_true]
 by_cases h:n=0
 ·subst h
  rfl
 ·rw [if_pos (by lia)]
  have e:(((n:Int) -0+1-1) /1).toNat=n:=by rw [Int.ediv_one];lia
  rw [e]
  conv=>rhs;rw [<- List.map_id (List.range n)]
  apply List.map_congr_left
  intro k hk
  show (0+1* (k:Int)).toNat=k
  lia
theorem rY (xs:List V):fH xs 1=xs:=by
 unfold fH
 rw [pB]
 exact pU xs
theorem pC (n:Nat):fP n (-1)=(List.range n).map fun k=>n-1-k:=by
 unfold fP sliceBounds sliceRange
 simp only [Option.getD_some,show ¬ ((-1:Int) >0) by decide,if_false]
 by_cases h:n=0
 ·subst h
  rfl
 ·rw [if_pos (by lia)]
  have e:(((n:Int) -1- -1- -1-1) / (- -1)).toNat=n:=by
   rw [show (- -1:Int)=1 by decide,Int.ediv_one];lia
  rw [e]
  apply List.map_congr_left
  intro k hk
  have:=List.mem_range.mp hk
  show ((n:Int) -1+ -1* (k:Int)).toNat=n-1-k
  lia
theorem rev_pick {α:Type} (xs:List α):((List.range xs.length).map fun k=>xs.length-1-k).filterMap (xs[·]?)=xs.reverse:=by
 apply List.ext_getElem?
 intro i
 have hall:((List.range xs.length).map fun k=>xs.length-1-k).filterMap (xs[·]?)=(List.range xs.length).filterMap fun k=>xs[xs.length-1-k]? :=by
  rw [List.filterMap_map]
  rfl
 rw [hall]
 have hsome: ∀ (l:List Nat),(∀ k∈l,k<xs.length)-> ∀ j:Nat,(l.filterMap fun k=>xs[xs.length-1-k]?)[j]? =l[j]?.bind fun k=>xs[xs.length-1-k]? :=by
  intro l
  induction l with
  | nil=>intro _ j;rfl
  | cons a r ih=>
   intro hl j
   have ha:=hl a List.mem_cons_self
   have hx:xs[xs.length-1-a]? =some xs[xs.length-1-a]:=List.getElem?_eq_getElem (by lia)
   rw [List.filterMap_cons,hx]
   cases j with
   | zero=>simp [hx]
   | succ j=>
    rw [List.getElem?_cons_succ,List.getElem?_cons_succ]
    exact ih (fun k hk=>hl k (List.mem_cons_of_mem _ hk)) j
 rw [hsome _ (fun k hk=>List.mem_range.mp hk) i]
 by_cases hi:i<xs.length
 ·rw [List.getElem?_range hi,List.getElem?_reverse hi]
  rfl
 ·rw [List.getElem?_eq_none (by simpa using hi),List.getElem?_eq_none (by simpa using hi)]
  rfl
theorem iR (xs:List V):fH xs (-1)=xs.reverse:=by
 unfold fH
 rw [pC]
 exact rev_pick xs
def zC (K:W.Frag) (te tk:TE):TE:=fun Z H Q=>te Z H fun x H1=>tk Z H1 fun y H2=> ∃ a xs c,x=.ref a/\y=.int c/\SqL K H2 a xs/\c≠0/\ ∀ p,H2 p=none->Q (.ref p) (upd H2 p (.lst (fH xs c)))
theorem mX (he:PE X e te) (hk:PE X k tk):PE X (.Subscript e (.Slice none none (some k) p2) pos) (zC X.K te tk):=by
 intro pins s Z H Q I h
 refine Subscript_ (thn (he pins s Z H _ I h) fun v s1 ⟨x,H1,I1,r1,q1⟩=>?_)
 refine wpAny_Slice ?_
 rw [evalPart_none,evalPart_some]
 refine wpAny_pure (wpAny_pure ?_)
 refine thn (hk pins s1 Z H1 _ I1 q1) fun vk s3 ⟨y,H3,I3,ry,a,xs,c,ex,ey,hq,hc,q⟩=>?_
 subst ex ey
 obtain ⟨t,rfl⟩:=ry
 cases r1
 have I4:Inv X pins Z H3 {s3 with heap:=s3.heap.push {cls:=.type "slice",data:=.fields #[.none,.none,.int c t]}}:=I3.kept (t':=s3.toks) fun b ob q=>Heap.get?_push_of_some _ q
 obtain ⟨its,r,ht,hz⟩:=I4.list hq
 have hlen:=r.length
 have hpick:slicePick its.toArray none none (some c)=((fP xs.length c).filterMap (its[·]?)).toArray:=by
  unfold slicePick fP
  rw [List.size_toArray,hlen]
  simp
 have hle:(fH xs c).length<=sizeLine:=by
  have h1:=slicePick_size_le its.toArray none none (some c)
  rw [hpick,List.size_toArray,List.size_toArray]at h1
  have h2:=(eZ (fP xs.length c) r).length
  unfold fH
  lia
 show wpAny (model X.prog X.w) X.A (subscriptTail e (.Slice none none (some k) p2) (.ref a) (.ref s3.heap.objs.size)) (EP X pins Z Q) X.xe {s3 with heap:=s3.heap.push {cls:=.type "slice",data:=.fields #[.none,.none,.int c t]}}
 refine tail_any (ops:=[.ref a,.ref s3.heap.objs.size]) ht.isList.typeIs slot_list_getitem.lookup (wpAny_getItem_list_slice ht.isList (Heap.IsSliceOf.new ..) .none .none (.int c t) (by simpa using hc) ?_ (by rw [List.size_toArray];lia)) (by with_unfolding_all rfl)
 rw [hpick]
 refine ⟨.ref (s3.heap.push {cls:=.type "slice",data:=.fields #[.none,.none,.int c t]}).objs.size,_,I4.laid (t':=s3.toks) (o:=.lst (fH xs c)) (fun b ob q=>Heap.get?_push_of_some _ q) (Nat.le_refl _) ?_,rfl,q _ I4.fresh⟩
 exact ⟨hle,_,0,eZ _ r,Heap.get?_push_size _ rfl⟩
inductive zM  (x:V) (lo:Option Int) (hi:Option Int) (H:Hp) (Q:VK):Prop
 | mk: ∀ z,(x=.str z)->(z.length<=sizeLine)->(Q (.str (Txt.slice z lo hi)) H)->zM x lo hi H Q
theorem me:SlR X zM:=by
 intro pins s Z H x v vl vu lo hi sl Q I rx hs pl pu h
 obtain ⟨z,rfl,hz,q⟩:=h
 obtain ⟨t,rfl⟩:=rx
 refine ⟨"str",_,F.slot_str_getitem.lookup,typeIs_str _ _ _,?_⟩
 have go: ∀ (l u:Option (Int×Tok)),vl=partValue l->vu=partValue u->lo=l.map (·.1)->hi=u.map (·.1)->wpAny (model X.prog X.w) X.A (getItem (.str z t) (.ref sl)) (EP X pins Z Q) X.xe s:=by
  intro l u e1 e2 e3 e4
  subst e1 e2 e3 e4
  refine wpAny_getItem_str_slice (l:=l) (u:=u) (st:=none) hs rfl ?_
  exact post_val_or_str ⟨Nat.le_trans (Txt.slice_le z _ _) hz,fun t' k=>⟨.str (Txt.slice z (l.map (·.1)) (u.map (·.1))),H,I.tok k,⟨t',rfl⟩,q⟩⟩
 cases pl with
 | none=>
  cases pu with
  | none=>exact go none none rfl rfl rfl rfl
  | int j tj=>exact go none (some (j,tj)) rfl rfl rfl rfl
 | int i ti=>
  cases pu with
  | none=>exact go (some (i,ti)) none rfl rfl rfl rfl
  | int j tj=>exact go (some (i,ti)) (some (j,tj)) rfl rfl rfl rfl
open PySem.AutoSeq1 (wpAny_loadPart')in
theorem qr (l:Addr) (items:Array Value) (n:Nat) (b:Addr) (items2:Array Value) (n2:Nat) (dd:Option Addr) (sl:Array (Option Value)) (hs0: ¬(!items.isEmpty&&Builtin.List.listTooLong (items.size+items2.size))=true) (hs1:items.size<=sizeLine) (hs2:items.size+items2.size<=sizeLine+1):
  Meets (Builtin.«list.extend» ⟨[.ref l,.ref b],[]⟩) (fun _ R s=>s.heap.get? l=some {cls:=.type "list",dict:=none,data:=.seq items n,slots:= #[]}/\s.heap.get? b=some {cls:=.type "tuple",dict:=dd,data:=.seq items2 n2,slots:=sl}/\R (.ok (.ret Value.none)) {s with heap:=s.heap.update l (Obj.mapSeq fun x=>x++items2),toks:=s.toks}):=
 .of_wp fun prog w A R s h=>by
  obtain ⟨hp,g,d,tk,os⟩:=s;obtain ⟨hl,hb,h⟩:=h;have f1:=AutoSeq1.idx_int;have f2:=AutoSeq1.sub_tuple_tuple;have f3:=AutoSeq1.sub_list_list;have f4:=AutoSeq1.sub_tuple_list;have f5:=AutoSeq1.sub_list_tuple;
  have hz':(items++items2).size<=sizeLine+1:=by rw [Array.size_append];exact hs2
  wp_walk using (wpAny_updateSeq hl rfl (hz:=hs1) (_hz':=hz')),wpAny_loadPart' hl,wpAny_loadPart' hb;exact ⟨_,rfl,h⟩
noncomputable def zQ (K:W.Frag):V->List V->Hp->VK->Prop:=fun x vs H Q=> ∃ l b xs zs,x=.ref l/\vs=[.ref b]/\H l=some (.lst xs)/\SqT K H b zs/\xs.length+zs.length<=sizeLine/\Q .non (upd H l (.lst (xs++zs)))
theorem w4:MtM X "list.extend" (zQ X.K):=by
 intro pins s Z H x vs v us Q I rx rv h
 obtain ⟨l,b,xs,zs,rfl,rfl,hH,hB,hz,q⟩:=h
 cases rx
 obtain ⟨u,rfl,ru⟩:=rv.one
 cases ru
 obtain ⟨z,its,n,r,hl,e⟩:=I.lstM hH
 obtain ⟨its2,r2,ht2,hz2⟩:=I.tuple hB
 obtain ⟨⟨c2,d2,dat2,sl2⟩,e2,hc2,n2,hd2⟩:=ht2
 dsimp only at hc2 hd2
 subst hc2 hd2
 have hl2:=r2.length
 have hsz:its.toArray.size+its2.toArray.size<=sizeLine:=by rw [List.size_toArray,List.size_toArray];lia
 have hlong: ¬ (!its.toArray.isEmpty&&Builtin.List.listTooLong (its.toArray.size+its2.toArray.size))=true:=by
  rw [oB hsz,Bool.and_false]
  exact Bool.false_ne_true
 refine call_meets F.slot_list_extend ⟨_,e,rfl⟩ F.entry_list_extend (F.args_list_extend_2 _ _)
  (qr l its.toArray n b its2.toArray n2 d2 sl2 hlong (by rw [List.size_toArray];lia) (by lia)) ⟨e,e2,?_⟩
 refine ⟨.non,_,I.lset (its':=its++its2) hH e (by simp) (r.append r2) ?_,rfl,q⟩
 rw [List.length_append]
 lia
theorem su (bs:List Bool):((List.range bs.length).all fun i=>(bs[i]?).getD true)=bs.all id:=by
 induction bs with
 | nil=>rfl
 | cons b r ih=>
  rw [List.length_cons,List.range_succ_eq_map,List.all_cons,List.all_map]
  show (b&&(List.range r.length).all (fun i=>((b::r)[i+1]?).getD true))=(b&&r.all id)
  rw [<- ih]
  rfl
theorem eC (hc:X.calm=true):eG X (.builtin "all") (fun xs H Q=> ∃ (p:Addr) (bs:List Bool),xs=[.ref p]/\SqL X.K H p (bs.map V.bl)/\Q (.bl (bs.all id)) H):=by
 intro pins s Z H xs us Q I r h
 obtain ⟨p,bs,rfl,hq,q⟩:=h
 obtain ⟨u,rfl,ru⟩:=fO r
 cases ru
 obtain ⟨its,rv,pl,hz⟩:=I.list hq
 have hl:=pl.isList
 have hlt:p<s.heap.objs.size:=by obtain ⟨_,e,_⟩:=hl;exact Heap.lt_size e
 have hn:its.toArray.size=bs.length:=by have:=rv.length;rw [List.length_map]at this;rw [List.size_toArray];lia
 refine call_all_walk (wpAny_pyIter_list hl ?_)
 refine ⟨s.heap.objs.size,[s.heap.objs.size,p],[s.heap.objs.size],its.toArray.size,_,_,fun i=>(bs[i]?).getD true,rfl,Walks.list (A:=X.A.in1) (I.ok.hd hc) _ p (Nat.ne_of_lt hlt) its.toArray,
  ⟨⟨_,Heap.get?_push_size _ rfl,rfl,rfl⟩,hl.push _⟩,fun i v s' Q' E' hP hQ=>?_,fun h' tk hk=>?_⟩
 ·have hv:its[i]? =some v:=by simpa using hP
  have hi:i<bs.length:=by
   have:=(List.getElem?_eq_some_iff.mp hv).1
   have:=rv.length
   rw [List.length_map]at this
   lia
  have hb:(bs.map V.bl)[i]? =some (V.bl bs[i]):=by rw [List.getElem?_map,List.getElem?_eq_getElem hi] <;> rfl
  obtain ⟨u,eu,ru⟩:=rv.get hb
  rw [hv]at eu
  cases eu
  cases (show v=Value.bool bs[i]from ru)
  have hQ':=hQ
  simp only [List.getElem?_eq_getElem hi,Option.getD_some]at hQ'
  exact wpAny_truthy_bool hQ'
 ·rw [hn,su]
  refine ⟨.bl (bs.all id),H,I.kept (t':=tk) fun b x e=>?_,rfl,q⟩
  exact hk b x (fun hm=>by rw [List.mem_singleton.mp hm]at e;exact Nat.lt_irrefl _ (Heap.lt_size e)) (Heap.get?_push_of_some _ e)
def xH (P:Program) (w:World) (K:W.Frag) (a:Addr) (kvs:List (Key×V)):Prop:=
 (a==sysModules)=false/\ ∀ h:Heap,K.In h-> ∃ vs,KV kvs vs/\h.DictOf (bd P w) a vs
def AE (P:Program) (w:World) (K:W.Frag) (neg:Bool):R2:=fun x y H Q=> ∃ k a kvs,x=kV k/\y=.ref a/\xH P w K a kvs/\Q (.bl (if neg then !(aW kvs k).isSome else (aW kvs k).isSome)) H
theorem yB:OpR X (compareOp .In) (AE X.prog X.w X.K false):=by
 intro pins s Z H x y v u Q I rx ry h
 obtain ⟨k,a,kvs,rfl,rfl,⟨hd,T⟩,q⟩:=h
 cases (show u=Value.ref a from ry)
 obtain ⟨vs,rel,dd⟩:=T _ I.kIn
 refine wpAny_in_of (gj rx) hd dd.mapOf ?_
 rw [<- (rel.val k).isSome_eq]
 exact ⟨.bl (aW kvs k).isSome,H,I.tok _,rfl,q⟩
end
noncomputable def nc:Expr->Bool
 | .Starred _ _=>false
 | _=>true
theorem kr {e:Expr} {es:List Expr} {env:Env} (h:nc e=true):starEach (e::es) env=(false,eval e env)::starEach es env:=by
 cases e <;> first | rfl | cases h
theorem pac {X:Cx} {e:Expr} {es:List Expr} {te:TE} {t:TA} (ha:PE X e te) (hr:PA X es t) (h:nc e=true:=by rfl):PA X (e::es) (ir te t):=aa ha hr (kr h)
noncomputable def qx:Const->Option V
 | .str x=>some (.str x)
 | .int i=>some (.int i)
 | .bool b=>some (.bl b)
 | .none=>some .non
 | _=>none
noncomputable def iK:List Expr->Option (List V)
 | []=>some []
 | .Constant c _ _::r=>(match qx c,iK r with | some v,some vs=>some (v::vs) | _,_=>none)
 | _::_=>none
theorem uT {X:Cx} {c:Const} {j:Nat} {pos:Pos} {v:V} (h:qx c=some v):PE X (.Constant c j pos) (tC v):=by
 cases c with
 | str x=>cases h;exact aX
 | int i=>cases h;exact ad
 | bool b=>cases h;exact eg
 | none=>cases h;exact uQ
 | _=>cases h
theorem lA {X:Cx}: ∀ {es:List Expr} {vs:List V},iK es=some vs->PA X es (fun _ H Q=>Q vs H)
 | [],vs,h=>by
  cases h
  exact ac
 | e::r,vs,h=>by
  cases e with
  | Constant c j pos=>
   simp only [iK]at h
   cases hc:qx c with
   | none=>rw [hc]at h;cases h
   | some v=>
    cases hr:iK r with
    | none=>rw [hc,hr]at h;cases h
    | some ws=>
     rw [hc,hr]at h
     cases h
     exact pac (uT hc) (lA hr)
  | _=>cases h
theorem wM {X:Cx} {i:Nat} {x:Str} {es:List Expr} {vs:List V} {pos p pos':Pos} (hN:X.N.Nodup) (hi:X.N[i]? =some x) (hx:Loc X.env.scope x) (hf:X.fn x=true\/X.env.scope.names.lookup x=some .local) (h:iK es=some vs):
  PS X (.Assign [.Name x pos'] (.List es p) pos) (lZ (xY (fun _ H Q=>Q vs H)) (gU i)):=
 aq hN hi hx (aU (lA h)) rfl hf
end L2
namespace HT
open PySem PyProof.Rows
section
variable {prog:Program} {w:World} {A:Around} {s:Shared} {E:Value->Shared->Prop}
theorem oX (n:Nat):Builtin.Slice.sliceAdjust none none (-1) (n:Int)=((n:Int) -1,-1):=by
 unfold Builtin.Slice.sliceAdjust
 simp
theorem oi (n:Nat):Builtin.Slice.slicePlaces ((n:Int) -1) (-1) (-1)=n:=by
 unfold Builtin.Slice.slicePlaces
 have h1: ¬ ((-1:Int) >0):=by lia
 simp only [h1,if_false]
 rw [show (- -1:Int)=1 by decide,Int.ediv_one]
 split <;> lia
theorem nC {sl:Addr} {t:Tok} {n:Nat} {Q:Int×Int×Nat->Shared->Prop} (hs:s.heap.IsSliceOf sl .none .none (.int (-1) t)) (h:Q ((n:Int) -1,-1,n) s):
  wpAny (model prog w) A (Builtin.Slice.sliceApplied (.ref sl) (pure (n:Int))) Q E s:=by
 obtain ⟨os,hos,hcs,hds⟩:=id hs
 unfold Builtin.Slice.sliceApplied Builtin.Slice.sliceFields
 refine wpAny_bind (wpAny_bind (wpAny_field hos hds (x:=.none) rfl (wpAny_bind (wpAny_field hos hds (x:=.none) rfl (wpAny_bind (wpAny_field hos hds (x:=.int (-1) t) rfl (wpAny_pure ?_)))))))
 refine wpAny_bind (dU (.int (-1) t) ?_)
 show wpAny _ _ (if ((-1:Int)==0)=true then _ else _) _ _ s
 rw [if_neg (by decide)]
 refine wpAny_bind (dU .none (wpAny_bind (dU .none (wpAny_bind (wpAny_pure ?_)))))
 show wpAny _ _ (match Builtin.Slice.sliceAdjust none none (-1) (n:Int)with | (lo,hi)=>pure (lo,(-1:Int),Builtin.Slice.slicePlaces lo hi (-1))) _ _ s
 rw [oX n]
 show wpAny _ _ (pure ((n:Int) -1,(-1:Int),Builtin.Slice.slicePlaces ((n:Int) -1) (-1) (-1))) _ _ s
 rw [oi]
 exact wpAny_pure h
theorem oP {α β:Type} {f g:α->Option β}: ∀ {l:List α},(∀ x∈l,f x=g x)->l.filterMap f=l.filterMap g
 | [],_=>rfl
 | x::r,h=>by rw [List.filterMap_cons,List.filterMap_cons,h x List.mem_cons_self,oP fun y hy=>h y (List.mem_cons_of_mem _ hy)]
theorem sF (xs:Array Value):((List.range xs.size).filterMap fun (m:Nat)=>xs[((xs.size:Int) -1+ (m:Int) * -1).toNat]?).toArray=xs.toList.reverse.toArray:=by
 congr 1
 rw [<- L2.rev_pick xs.toList,List.filterMap_map,Array.length_toList]
 refine oP fun m hm=>?_
 have:=List.mem_range.mp hm
 have e:((xs.size:Int) -1+ (m:Int) * -1).toNat=xs.size-1-m:=by lia
 rw [e]
 simp
theorem getItem_tuple_back {a sl:Addr} {items:Array Value} {t:Tok} {Q:Value->Shared->Prop} (ht:IsTup s.heap a items) (hs:s.heap.IsSliceOf sl .none .none (.int (-1) t))
  (h:Q (.ref s.heap.objs.size) {s with heap:=s.heap.push {cls:=.type "tuple",data:=.seq items.toList.reverse.toArray}})
  (hsz:items.size<=sizeLine):wpAny (model prog w) A (getItem (.ref a) (.ref sl)) Q E s:=by
 have hok:sizeOk (.seq items.toList.reverse.toArray):=by
  show items.toList.reverse.toArray.size<=sizeLine
  rw [List.size_toArray,List.length_reverse,Array.length_toList]
  exact hsz
 obtain ⟨os,hos,hcs,hds⟩:=id hs
 have hTs:s.TypeIs (.ref sl) "slice":=⟨os,hos,hcs⟩
 unfold getItem
 try with_reducible refine wpAny_holding ?_
 first | refine wpAny_bind (wpAny_pure ?_) | skip
 refine wpAny_bind (wpAny_sequenceKey ht.typeIs (by decide) ?_)
 refine wpAny_bind (wpAny_callSpecial?_slot (name:=Str.ofString "__getitem__") ht.typeIs PyProof.Rows.slot_tuple_getitem
  (wpAny_call_entry PyProof.Rows.slot_tuple_getitem ht.typeIs entry_tuple_getitem ?_ (args_tuple_getitem _ _)))
 show wpAny _ _ (Builtin.Tuple.tupleItemsOf (.ref a) >>= _) _ _ s
 refine wpAny_bind (tupleItemsOf_ ht ?_)
 refine wpAny_bind (wpAny_typeOf hTs ?_)
 rw [if_pos (by decide)]
 refine wpAny_bind (nC hs ?_)
 show wpAny _ _ (if (((items.size:Int) -1)==0&&(-1:Int)==1&&items.size==items.size)=true then _ else _) _ _ s
 rw [if_neg (by simp),sF]
 first
  | exact wpAny_bind (m:=Builtin.Tuple.tupleExact _) (wpAny_newObj_type (wpAny_pure ⟨_,rfl,wpAny_pure h⟩) hok)
  | exact wpAny_bind (m:=Builtin.Tuple.tupleExact _) (wpAny_newObj_type (wpAny_bind (wpAny_pure (wpAny_pure ⟨_,rfl,wpAny_pure h⟩))) hok)
  | exact wpAny_bind (wpAny_bind (m:=Builtin.Tuple.tupleExact _) (wpAny_newObj_type (wpAny_pure (wpAny_pure ⟨_,rfl,wpAny_pure h⟩)) hok))
  | exact wpAny_bind (wpAny_bind (m:=Builtin.Tuple.tupleExact _) (wpAny_newObj_type (wpAny_pure ⟨_,rfl,wpAny_pure h⟩) hok))
end
end HT
namespace L2
open PySem PySem.Spec PyProof.Rows
section
variable {X:Cx} {e k:Expr} {te tk:TE} {pos p2:Pos}
def x9 (K:W.Frag) (te tk:TE):TE:=fun Z H Q=>te Z H fun x H1=>tk Z H1 fun y H2=> ∃ a xs,x=.ref a/\y=.int (-1)/\SqT K H2 a xs/\ ∀ p,H2 p=none->Q (.ref p) (upd H2 p (.tup xs.reverse))
theorem ud {xs:List V} {us:List Value} (h:Vals xs us):Vals xs.reverse us.reverse:=by
 rw [<- rev_pick xs,<- rev_pick us,h.length]
 exact eZ _ h
theorem uV (he:PE X e te) (hk:PE X k tk):PE X (.Subscript e (.Slice none none (some k) p2) pos) (x9 X.K te tk):=by
 intro pins s Z H Q I h
 refine Subscript_ (thn (he pins s Z H _ I h) fun v s1 ⟨x,H1,I1,r1,q1⟩=>?_)
 refine wpAny_Slice ?_
 rw [evalPart_none,evalPart_some]
 refine wpAny_pure (wpAny_pure ?_)
 refine thn (hk pins s1 Z H1 _ I1 q1) fun vk s3 ⟨y,H3,I3,ry,a,xs,ex,ey,hq,q⟩=>?_
 subst ex ey
 obtain ⟨t,rfl⟩:=ry
 cases r1
 have I4:Inv X pins Z H3 {s3 with heap:=s3.heap.push {cls:=.type "slice",data:=.fields #[.none,.none,.int (-1) t]}}:=I3.kept (t':=s3.toks) fun b ob q=>Heap.get?_push_of_some _ q
 obtain ⟨its,r,ht,hz⟩:=I4.tuple hq
 show wpAny (model X.prog X.w) X.A (subscriptTail e (.Slice none none (some k) p2) (.ref a) (.ref s3.heap.objs.size)) (EP X pins Z Q) X.xe {s3 with heap:=s3.heap.push {cls:=.type "slice",data:=.fields #[.none,.none,.int (-1) t]}}
 refine tail_any (ops:=[.ref a,.ref s3.heap.objs.size]) ht.typeIs PyProof.Rows.slot_tuple_getitem.lookup (HT.getItem_tuple_back ht (Heap.IsSliceOf.new ..) ?_ (by rw [List.size_toArray,<- r.length];exact hz)) (by with_unfolding_all rfl)
 refine ⟨.ref (s3.heap.push {cls:=.type "slice",data:=.fields #[.none,.none,.int (-1) t]}).objs.size,_,I4.laid (t':=s3.toks) (o:=.tup xs.reverse) (fun b ob q=>Heap.get?_push_of_some _ q) (Nat.le_refl _) ?_,rfl,q _ I4.fresh⟩
 exact ⟨by rw [List.length_reverse];exact hz,_,ud r,IsTup.new _ _⟩
end
section
variable {X:Cx}
noncomputable def iu:List Int->Int
 | []=>0
 | n::r=>n+iu r
theorem sy (ns:List Int): ∀ k,k<=ns.length->preSum (fun i=>(ns[i]?).getD 0) k=iu (ns.take k):=by
 intro k
 induction k with
 | zero=>intro _;rfl
 | succ k ih=>
  intro h
  have hk:k<ns.length:=h
  show preSum (fun i=>(ns[i]?).getD 0) k+ (ns[k]?).getD 0=iu (ns.take (k+1))
  rw [ih (Nat.le_of_lt hk)]
  have: ∀ (l:List Int) (j:Nat) (hj:j<l.length),iu (l.take (j+1))=iu (l.take j) + (l[j]?).getD 0:=by
   intro l
   induction l with
   | nil=>intro j hj;cases hj
   | cons x r ih=>
    intro j hj
    cases j with
    | zero=>simp [iu]
    | succ j=>
     rw [List.take_succ_cons,List.take_succ_cons,List.getElem?_cons_succ]
     show x+iu (r.take (j+1))=x+iu (r.take j) + (r[j]?).getD 0
     rw [ih j (by simpa using hj)]
     lia
  exact (this ns k hk).symm
theorem mJ (ns:List Int) (h: ∀ n∈ns,0<=n/\n<=1000000): ∀ k,k<=ns.length->0<=preSum (fun i=>(ns[i]?).getD 0) k/\preSum (fun i=>(ns[i]?).getD 0) k<=1000000*k:=by
 intro k
 induction k with
 | zero=>intro _;exact ⟨Int.le_refl _,by show (0:Int)<=1000000* ((0:Nat):Int);lia⟩
 | succ k ih=>
  intro hk
  obtain ⟨a,b⟩:=ih (Nat.le_of_succ_le hk)
  have e:ns[k]? =some ns[k]:=List.getElem?_eq_getElem hk
  obtain ⟨c,d⟩:=h ns[k] (List.getElem_mem hk)
  show 0<=preSum (fun i=>(ns[i]?).getD 0) k+ (ns[k]?).getD 0/\preSum (fun i=>(ns[i]?).getD 0) k+ (ns[k]?).getD 0<=1000000* ((k+1:Nat):Int)
  rw [e,Option.getD_some]
  constructor <;> lia
theorem oW (hc:X.calm=true):eG X (.builtin "sum") (fun xs H Q=> ∃ (p:Addr) (ns:List Int),xs=[.ref p]/\SqL X.K H p (ns.map V.int)/\ns.length<=1000/\(∀ n∈ns,0<=n/\n<=1000000)/\Q (.int (iu ns)) H):=by
 intro pins s Z H xs us Q I r h
 obtain ⟨p,ns,rfl,hq,hle,hb,q⟩:=h
 obtain ⟨u,rfl,ru⟩:=fO r
 cases ru
 obtain ⟨its,rv,pl,hz⟩:=I.list hq
 have hl:=pl.isList
 have hlt:p<s.heap.objs.size:=by obtain ⟨_,e,_⟩:=hl;exact Heap.lt_size e
 have hlen:its.length=ns.length:=by have:=rv.length;rw [List.length_map]at this;lia
 have hn:its.toArray.size=ns.length:=by rw [List.size_toArray];exact hlen
 refine call_sum_walk (wpAny_pyIter_list hl ?_)
 refine ⟨s.heap.objs.size,[s.heap.objs.size,p],[s.heap.objs.size],its.toArray.size,_,_,fun i=>(ns[i]?).getD 0,rfl,Walks.list (A:=X.A.in1) (I.ok.hd hc) _ p (Nat.ne_of_lt hlt) its.toArray,
  ⟨⟨_,Heap.get?_push_size _ rfl,rfl,rfl⟩,hl.push _⟩,fun b hb=>?_,fun i v hP=>?_,fun j hj=>?_,fun h' tk t' hk=>?_⟩
 ·rw [Heap.size_push]
  rcases List.mem_cons.mp hb with e | e
  ·rw [e];exact Nat.lt_succ_self _
  ·rw [List.mem_singleton.mp e];exact Nat.lt_succ_of_lt hlt
 ·have hv:its[i]? =some v:=by simpa using hP
  have hi:i<ns.length:=by
   have:=(List.getElem?_eq_some_iff.mp hv).1
   lia
  have hx:(ns.map V.int)[i]? =some (V.int ns[i]):=by rw [List.getElem?_map,List.getElem?_eq_getElem hi] <;> rfl
  obtain ⟨u,eu,ru⟩:=rv.get hx
  rw [hv]at eu
  cases eu
  obtain ⟨t,rfl⟩:=ru
  refine ⟨t,?_⟩
  show Value.int ns[i] t=Value.int ((ns[i]?).getD 0) t
  rw [List.getElem?_eq_getElem hi]
  rfl
 ·rw [hn]at hj
  obtain ⟨a,b⟩:=mJ ns hb (j+1) hj
  have e:ns[j]? =some ns[j]:=List.getElem?_eq_getElem hj
  obtain ⟨c,d⟩:=hb ns[j] (List.getElem_mem hj)
  refine ⟨⟨?_,?_⟩,?_,?_⟩
  ·show -(2^63)<=(ns[j]?).getD 0
   rw [e,Option.getD_some];lia
  ·show (ns[j]?).getD 0<2^63
   rw [e,Option.getD_some];lia
  ·lia
  ·lia
 ·rw [hn,sy ns _ (Nat.le_refl _),List.take_length]
  refine ⟨.int (iu ns),H,I.kept (t':=tk) fun b x e=>?_,⟨_,rfl⟩,q⟩
  exact hk b x (fun hm=>by rw [List.mem_singleton.mp hm]at e;exact Nat.lt_irrefl _ (Heap.lt_size e)) (Heap.get?_push_of_some _ e)
end
end L2
namespace HT
open PySem PyProof.Rows
section
variable {prog:Program} {w:World} {A:Around} {s:Shared} {E:Value->Shared->Prop} {d j:Addr} {ks:List Value} {i ep:Nat}
def DEs (h:Heap) (d:Addr) (ks:List Value) (ep:Nat):Prop:= ∃ o es,h.get? d=some o/\o.ExactDict/\o.data=.dict es ep/\es.toList.map (·.key)=ks
theorem DEs.type (m:DEs s.heap d ks ep):s.TypeIs (.ref d) "dict":=by
 obtain ⟨o,_,ho,hc,_⟩:=m
 exact ⟨o,ho,hc.1⟩
theorem DEs.keeps {h h':Heap} (m:DEs h d ks ep) (k: ∀ o,h.get? d=some o->h'.get? d=some o):DEs h' d ks ep:=by
 obtain ⟨o,es,ho,r⟩:=m
 exact ⟨o,es,k o ho,r⟩
theorem DEs.lt {h:Heap} (m:DEs h d ks ep):d<h.objs.size:=by
 obtain ⟨o,es,ho,_⟩:=m
 exact Heap.lt_size ho
theorem iW {es:Array DictEntry} (e:es.toList.map (·.key)=ks):es.size=ks.length:=by
 rw [<- e,List.length_map,Array.length_toList]
theorem vI {Q:Value->Shared->Prop} (lo:(d==sysModules)=false) (m:DEs s.heap d ks ep)
  (q:Q (.ref s.heap.objs.size) {s with heap:=s.heap.push {cls:=.type "dict_keyiterator",data:=.fields #[.ref d,.int 0 0,.int ks.length 0,.int ep 0]}}):wpAny (model prog w) A (pyIter (.ref d)) Q E s:=by
 have ty:=m.type
 obtain ⟨o,es,ho,hc,hdat,hk⟩:=m
 refine wpAny_pyIter_slot ty PySem.F.slot_dict_iter (wpAny_call_entry PySem.F.slot_dict_iter ty PySem.F.entry_dict_iter ?_ (PySem.F.args_dict_iter_1 _))
 unfold Builtin.«dict.__iter__» Builtin.Dict.dictSlotNone
 refine wpAny_bind (wpAny_bind (wpAny_notOrdered_dict ty ?_))
 refine wpAny_pure (show wpAny _ _ (Builtin.Dict.showsAll d >>= _) _ _ s from ?_)
 unfold Builtin.Dict.showsAll
 rw [if_neg (by rw [lo];exact Bool.false_ne_true)]
 refine wpAny_bind (wpAny_pure (wpAny_bind (wpAny_dictEntries ho hdat (wpAny_bind (wpAny_dictEpoch ho hdat ?_)))))
 refine wpAny_bind (wpAny_newObj_type (wpAny_pure ⟨_,rfl,"dict_keyiterator",_,⟨_,Heap.get?_push_size _ rfl,rfl⟩,PySem.F.slot_dict_keyiterator_next.lookup,?_⟩))
 simpa [rawInt,iW hk]using q
theorem vv {x:Value} {Q:Option Value->Shared->Prop} (st:s.heap.IsKeyIter j d i ks.length ep) (m:DEs s.heap d ks ep) (hx:ks[i]? =some x)
  (q: ∀ h',h'.IsKeyIter j d (i+1) ks.length ep->Heap.SameBut j s.heap h'->Q (some x) {s with heap:=h'}):wpAny (model prog w) A (pyNext (.ref j)) Q E s:=by
 have ty:=st.typeIs
 obtain ⟨o,ho,hc,hd⟩:=id st
 obtain ⟨od,es,hod,hcd,hdd,hk⟩:=m
 have hz:=iW hk
 have hlt:i<ks.length:=(List.getElem?_eq_some_iff.mp hx).1
 have hes:i<es.size:=by lia
 have hkey:es[i].key=x:=by
  have e1:(es.toList.map (·.key))[i]? =some x:=by rw [hk];exact hx
  rw [List.getElem?_map,Array.getElem?_toList,Array.getElem?_eq_getElem hes]at e1
  exact Option.some.inj e1
 unfold pyNext
 refine wpAny_bind (wpAny_attempt (wpAny_callSpecial?_slot (name:=Str.ofString "__next__") ty PySem.F.slot_dict_keyiterator_next (wpAny_call_entry PySem.F.slot_dict_keyiterator_next ty PySem.F.entry_dict_keyiterator_next ?_ (PySem.F.args_dict_keyiterator_next_1 _))))
 refine wpAny_bind (wpAny_pure (wpAny_bind (wpAny_bind ?_)))
 first | refine wpAny_bind (wpAny_typeNameOfWhole_keyiter ty (wpAny_pure (wpAny_bind (wpAny_fieldsOf ho hd ?_)))) | refine wpAny_bind (wpAny_typeNameOf_keyiter ty (wpAny_pure (wpAny_bind (wpAny_fieldsOf ho hd ?_))))
 have own:Builtin.Dict_items.ownsTuple "dict_keyiterator"=false:=by decide
 simp only [own,Bool.false_eq_true,if_false]
 refine (show wpAny _ _ (if (Value.ref d==Value.none)=true then _ else _) _ _ s from ?_)
 rw [if_neg fun b0:(Value.ref d==Value.none)=true=>Bool.false_ne_true b0]
 refine wpAny_bind (wpAny_pure (wpAny_bind (wpAny_dictEntries hod hdd ?_)))
 rw [if_neg (by rw [hz];simp)]
 refine wpAny_bind (wpAny_pure (wpAny_bind (wpAny_dictEpoch hod hdd ?_)))
 rw [if_neg (by simp)]
 refine wpAny_pure ?_
 simp only [show ¬ ((i:Int) <0)from by lia,if_false,Int.toNat_natCast,Array.getElem?_eq_getElem hes]
 refine wpAny_bind ?_
 first | refine wpAny_bind (wpAny_typeNameOfWhole_keyiter ty (wpAny_pure (wpAny_bind (wpAny_isOneOf_keyiter ty ?_)))) | refine wpAny_bind (wpAny_typeNameOf_keyiter ty (wpAny_pure (wpAny_bind (wpAny_isOneOf_keyiter ty ?_))))
 refine (show wpAny _ _ (setField (.ref j) 1 (rawInt ((i:Int) +1)) >>= _) _ _ s from ?_)
 refine wpAny_bind (wpAny_setField ho hd (by simp) ?_)
 have st':(s.heap.update j (Obj.mapFields (·.setIfInBounds 1 (rawInt ((i:Int) +1))))).IsKeyIter j d (i+1) ks.length ep:=by
  refine ⟨_,Heap.get?_update_self _ ho (Obj.isFreed_of_fields (Obj.data_mapFields hd _)),(Obj.cls_mapFields ..).trans hc,?_⟩
  rw [Obj.data_mapFields hd];simp [rawInt]
 refine wpAny_bind (wpAny_holding (wpAny_bind (wpAny_isOneOf_keyiter (s:={s with heap:=s.heap.update j (Obj.mapFields (·.setIfInBounds 1 (rawInt ((i:Int) +1))))}) st'.typeIs ?_)))
 refine (show wpAny _ _ (pure es[i].key) _ _ _ from ?_)
 rw [hkey]
 exact wpAny_pure (wpAny_pure ⟨_,rfl,wpAny_pure (q _ st' (Heap.SameBut.update ..))⟩)
theorem xu {Q:Option Value->Shared->Prop} (hh:A.handled=none) (st:s.heap.IsKeyIter j d i ks.length ep) (m:DEs s.heap d ks ep) (hx:ks.length<=i)
  (q: ∀ h',Heap.ExtBut j s.heap h'->Q none {s with heap:=h'}):wpAny (model prog w) A (pyNext (.ref j)) Q E s:=by
 have ty:=st.typeIs
 obtain ⟨o,ho,hc,hd⟩:=id st
 obtain ⟨od,es,hod,hcd,hdd,hk⟩:=m
 have hz:=iW hk
 unfold pyNext
 refine wpAny_bind (wpAny_attempt (wpAny_callSpecial?_slot (name:=Str.ofString "__next__") ty PySem.F.slot_dict_keyiterator_next (wpAny_call_entry PySem.F.slot_dict_keyiterator_next ty PySem.F.entry_dict_keyiterator_next ?_ (PySem.F.args_dict_keyiterator_next_1 _))))
 refine wpAny_bind (wpAny_pure (wpAny_bind (wpAny_bind ?_)))
 first | refine wpAny_bind (wpAny_typeNameOfWhole_keyiter ty (wpAny_pure (wpAny_bind (wpAny_fieldsOf ho hd ?_)))) | refine wpAny_bind (wpAny_typeNameOf_keyiter ty (wpAny_pure (wpAny_bind (wpAny_fieldsOf ho hd ?_))))
 have own:Builtin.Dict_items.ownsTuple "dict_keyiterator"=false:=by decide
 simp only [own,Bool.false_eq_true,if_false]
 refine (show wpAny _ _ (if (Value.ref d==Value.none)=true then _ else _) _ _ s from ?_)
 rw [if_neg fun b0:(Value.ref d==Value.none)=true=>Bool.false_ne_true b0]
 refine wpAny_bind (wpAny_pure (wpAny_bind (wpAny_dictEntries hod hdd ?_)))
 rw [if_neg (by rw [hz];simp)]
 refine wpAny_bind (wpAny_pure (wpAny_bind (wpAny_dictEpoch hod hdd ?_)))
 rw [if_neg (by simp)]
 refine wpAny_pure ?_
 have hge:es.size<=i:=by lia
 simp only [show ¬ ((i:Int) <0)from by lia,if_false,Int.toNat_natCast,Array.getElem?_eq_none hge]
 refine wpAny_bind ?_
 first | refine wpAny_bind (wpAny_typeNameOfWhole_keyiter ty (wpAny_pure ?_)) | refine wpAny_bind (wpAny_typeNameOf_keyiter ty (wpAny_pure ?_))
 refine (show wpAny _ _ (setField (.ref j) 0 .none >>= _) _ _ s from wpAny_bind (wpAny_setField ho hd (by simp) ?_))
 refine (show wpAny _ _ (newExc (.type "StopIteration") [] >>= _) _ _ _ from wpAny_bind ?_)
 simp only [newExc,newTuple]
 refine wpAny_bind (wpAny_newObj_type (wpAny_bind (m:=firstArgMember _ _) (wpAny_of_eq (a:=Value.none) (by first | rfl | (simp only [firstArgMember];rfl)) (wpAny_newObj_type ?_ (by size_fits)))) (by size_fits))
 simp only [raiseNew]
 refine wpAny_bind (wpAny_handled ?_)
 rw [show A.in1.handled=none from hh]
 refine (wpAny_bind (wpAny_pure (wpAny_throw (?_))))
 refine wpAny_bind (wpAny_isInstance (T:="StopIteration") (b:=true) ⟨_,Heap.get?_push_size _ rfl,rfl⟩ isSubtype_stop (wpAny_pure (q _ ?_)))
 exact ((Heap.SameBut.update ..).extBut.push _).push _
theorem rS (hh:A.handled=none) (hne:d≠j):Walks prog w A j [j,d] [j] ks.length (fun i v=>ks[i]? =some v) (fun i h=>h.IsKeyIter j d i ks.length ep/\DEs h d ks ep) where
 sub:=fun b hb=>by rw [List.mem_singleton.mp hb];exact List.mem_cons_self
 frame:=fun _ _ _ st k=>⟨st.1.at fun o e=>k j (by simp) o e,st.2.keeps fun o e=>k d (by simp) o e⟩
 item:=fun i s Q E hi st hQ=>by
  have hx:ks[i]? =some ks[i]:=List.getElem?_eq_getElem hi
  refine vv st.1 st.2 hx fun h' st' sb=>?_
  exact hQ _ h' s.toks hx ⟨st',st.2.keeps fun o e=>sb.extBut d o hne e⟩ fun b o hb e=>sb.extBut b o (fun z=>hb (by rw [z];exact List.mem_cons_self)) e
 done:=fun s Q E st hQ=>xu hh st.1 st.2 (Nat.le_refl _) fun h' eb=>hQ h' s.toks fun b o hb e=>eb b o (fun z=>hb (by rw [z];exact List.mem_cons_self)) e
 self:=fun _ _ _ _ st hQ=>wpAny_pyIter_keyiter st.1 hQ
theorem src_des (lo:(d==sysModules)=false):PySem.W.KdlSrc prog w "dict" d d ks.length (fun i v=>ks[i]? =some v) (fun h=>DEs h d ks ep) where
 type:=fun _ m=>m.type
 there:=fun _ m=>⟨m.lt,m.lt⟩
 keep:=fun _ _ m k=>m.keeps fun o e=>k d (.inl rfl) o e
 notList:=by decide
 notTuple:=by decide
 hint:=fun _ _ _ _ m q=>PySem.W.kdl_hint_dict m.type q
 iter:=fun _ _ hh m=>⟨_,_,fun _ _ q=>vI lo m q,rS hh (Nat.ne_of_lt m.lt),⟨⟨_,Heap.get?_push_size _ rfl,rfl,rfl⟩,m.keeps fun o e=>Heap.get?_push_of_some _ e⟩⟩
end
end HT
namespace L2
open PySem PySem.Spec PyProof.Rows
section
variable {X:Cx}
noncomputable def KsOf (H:Hp):List V->List (List Key)->Prop:=Paired fun y ks=> ∃ b,y=.ref b/\H b=some (.tup (ks.map kV))
theorem KsOf.mono {H H':Hp} {ys:List V} {kss:List (List Key)} (h:KsOf H ys kss) (t: ∀ b xs,H b=some (.tup xs)->H' b=some (.tup xs)):KsOf H' ys kss:=
 Paired.mapP h fun _ _ ⟨b,e,hb⟩=>⟨b,e,t _ _ hb⟩
theorem vG {H:Hp} {kvs:List (List Key×V)} {xs:List (List Key×Addr×Value)} (r:KT H kvs xs):KsOf H (xs.map fun q=>V.ref q.2.1) (kvs.map (·.1)):=by
 induction r with
 | nil=>exact .nil
 | cons h _ ih=>exact .cons ⟨_,rfl,h.2.1⟩ ih
theorem qz (hc:X.calm=true):eG X (.type "list") (fun xs H Q=> ∃ a kvs,xs=[.ref a]/\H a=some (.dT kvs)/\ ∀ p ys,H p=none->KsOf H ys (kvs.map (·.1))->Q (.ref p) (upd H p (.lst ys))):=by
 intro pins s Z H xs us Q I r h
 obtain ⟨a,kvs,rfl,ha,q⟩:=h
 obtain ⟨u,rfl,ru⟩:=fO r
 cases ru
 obtain ⟨hz,lo,ys,kt,o,es,ep,h1,h2,h3,h4,h5⟩:=(show ObjOk X.prog X.w H s.heap a (.dT kvs)from I.hok a _ ha)
 have hm:HT.DEs s.heap a (ys.map fun q=>Value.ref q.2.1) ep:=by
  refine ⟨o,es,h1,h2,h3,?_⟩
  rw [h4,List.map_map]
  rfl
 have hl:ys.length=kvs.length:=(Paired.length kt).symm
 refine PySem.W.kdl_call (HT.src_des lo) (I.ok.hd hc) hm (by rw [List.length_map];lia) fun h' tk acc c' kp e hi=>?_
 obtain ⟨i1,i2⟩:=hi
 have hacc:acc.toList=ys.map fun q=>Value.ref q.2.1:=by
  refine List.ext_getElem? fun i=>?_
  rw [Array.getElem?_toList]
  cases hv:acc[i]? with
  | some v=>exact (i2 i v hv).symm
  | none=>
   have:acc.size<=i:=Array.getElem?_eq_none_iff.mp hv
   exact (List.getElem?_eq_none (by rw [<- i1];exact this)).symm
 have rv:Vals (ys.map fun q=>V.ref q.2.1) (ys.map fun q=>Value.ref q.2.1):=by
  clear kt h4 h5 hl i1 i2 hacc hm
  induction ys with
  | nil=>exact .nil
  | cons y r ih=>exact .cons rfl ih
 refine ⟨.ref s.heap.objs.size,_,I.laid (t':=tk) (o:=.lst (ys.map fun q=>V.ref q.2.1)) kp (Nat.le_refl _) ?_,rfl,q _ _ (I.hok.fresh (Nat.le_refl _)) (vG kt)⟩
 refine ⟨by rw [List.length_map];lia,_,c',rv,?_⟩
 rw [<- hacc,Array.toArray_toList]
 exact e
end
section
variable {X:Cx}
theorem i5 (hu:X.A.units<cLine):OpR X (compareOp .NotEq) (fun x y H Q=> ∃ a b xs,x=.ref a/\y=.ref b/\SqL X.K H a xs/\SqL X.K H b []/\Q (.bl (!xs.isEmpty)) H):=by
 intro pins s Z H x y v u Q I rx ry h
 obtain ⟨a,b,xs,rfl,rfl,ha,hb,q⟩:=h
 cases rx
 cases ry
 obtain ⟨its,r,pl,_⟩:=I.list ha
 obtain ⟨its2,r2,pl2,_⟩:=I.list hb
 cases r2
 cases r with
 | nil=>exact SeqAt.RcNeAt.lists (e:=fun _=>true) pl.isList pl2.isList rfl hu (fun j h1 _=>absurd h1 (Nat.not_lt_zero _)) X.prog X.w X.xe _ ⟨.bl _,H,I,rfl,q⟩
 | cons r1 t=>exact SeqAt.RcNeAt.lists_lengths pl.isList pl2.isList (by simp) hu X.prog X.w X.xe _ ⟨.bl _,H,I,rfl,q⟩
instance A2 (ks:List Key) (kss:List (List Key)):Decidable (ks∈kss):=decidable_of_iff (kss.any (fun l=>decide (l=ks))=true) ⟨fun h=>by
  obtain ⟨x,hx,e⟩:=List.any_eq_true.mp h
  rw [<- of_decide_eq_true e]
  exact hx,fun h=>List.any_eq_true.mpr ⟨ks,h,decide_eq_true rfl⟩⟩
theorem gM {P P':Program} {w w':World} {H:Hp} {h:Heap} {a:Addr} {ks:List Key} (ok:HOk P w H h) (e:H a=some (.tup (ks.map kV))):IsTupleKey (bd P' w') h ks a:=by
 obtain ⟨_,its,r,o,h1,h2,n,h3⟩:=(show ObjOk P w H h a (.tup (ks.map kV))from ok a _ e)
 exact ⟨o,its.toArray,n,h1,h2,h3,by simpa using jb r⟩
noncomputable def nn (H:Hp) (ks:List Key):Value->Bool
 | .ref b=>(match H b with | some (.tup xs)=>decide (xs=ks.map kV) | _=>false)
 | _=>false
theorem jz {H:Hp} {b:Addr} {ks ls:List Key} (h:H b=some (.tup (ls.map kV))):nn H ks (.ref b)=decide (ls=ks):=by
 show (match H b with | some (.tup xs)=>decide (xs=ks.map kV) | _=>false)=_
 rw [h]
 show decide (ls.map kV=ks.map kV)=decide (ls=ks)
 by_cases e:ls=ks
 ·rw [decide_eq_true e,decide_eq_true (by rw [e])]
 ·rw [decide_eq_false e,decide_eq_false fun z=>e (rC z)]
theorem qB {H:Hp} {ks:List Key} {ys:List V} {us:List Value} {kss:List (List Key)} (r:Vals ys us) (h:KsOf H ys kss):us.any (nn H ks)=decide (ks∈kss):=by
 induction r generalizing kss with
 | nil=>cases h;exact (decide_eq_false (by simp)).symm
 | @cons y u ys us r1 t ih=>
  cases h with
  | @cons _ ls _ kss h1 t2=>
   obtain ⟨b,rfl,hb⟩:=h1
   cases (show u=Value.ref b from r1)
   rw [List.any_cons,jz hb,ih t2]
   by_cases e:ls=ks
   ·have m:ks∈ls::kss:=by rw [e];exact List.mem_cons_self
    rw [decide_eq_true e,decide_eq_true m,Bool.true_or]
   ·rw [decide_eq_false e,Bool.false_or]
    refine decide_eq_decide.mpr ⟨fun h=>List.mem_cons_of_mem _ h,fun h=>?_⟩
    rcases List.mem_cons.mp h with z | z
    ·exact absurd z.symm e
    ·exact z
theorem qf {H:Hp} {ys:List V} {us:List Value} {kss:List (List Key)} (r:Vals ys us) (h:KsOf H ys kss): ∀ u∈us,∃ (b:Addr) (ls:List Key),u=.ref b/\H b=some (.tup (ls.map kV)):=by
 induction r generalizing kss with
 | nil=>intro u hu;cases hu
 | @cons y u ys us r1 t ih=>
  cases h with
  | cons h1 t2=>
   intro v hv
   rcases List.mem_cons.mp hv with e | e
   ·obtain ⟨b,rfl,hb⟩:=h1
    exact ⟨b,_,e.trans (show u=Value.ref b from r1),hb⟩
   ·exact ih t2 v e
def uL (K:W.Frag) (neg:Bool):R2:=fun x y H Q=> ∃ a p ks ys kss,x=.ref a/\y=.ref p/\H a=some (.tup (ks.map kV))/\SqL K H p ys/\KsOf H ys kss/\Q (.bl (if neg then !decide (ks∈kss)else decide (ks∈kss))) H
theorem jl (hu:X.A.units+1<cLine):OpR X (compareOp .NotIn) (uL X.K true):=by
 intro pins s Z H x y v u Q I rx ry h
 obtain ⟨a,p,ks,ys,kss,rfl,rfl,ha,hp,hk,q⟩:=h
 cases rx
 cases ry
 obtain ⟨its,r,pl,hz⟩:=I.list hp
 refine SeqAt.notIn_listAt (nn H ks) pl.isList (fun w hw=>?_) ⟨.bl _,H,I,rfl,?_⟩
 ·obtain ⟨b,ls,rfl,hb⟩:=qf r hk w (by simpa using hw)
  rw [jz hb]
  exact fun prog w' E Q hq=>wpAny_eqBool_tuple (show X.A.units+1<cLine from hu) (gM I.hok hb) (gM I.hok ha) hq
 ·rw [show its.toArray.any (nn H ks)=its.any (nn H ks) by simp,qB r hk]
  exact q
end
end L2
namespace HT
open PySem PyProof.Rows
section
variable {prog:Program} {w:World} {A:Around} {s:Shared} {E:Value->Shared->Prop} {j t:Addr} {i:Nat} {items:Array Value}
theorem vS {x:Value} {Q:Value->Shared->Prop} (st:s.heap.IsTupleIter j t i) (ht:s.heap.IsTuple t items) (hx:items[i]? =some x)
  (q: ∀ h',h'.IsTupleIter j t (i+1)->Heap.SameBut j s.heap h'->Q x {s with heap:=h'}):wpAny (model prog w) A (Builtin.SmallTypes.nextOf (.ref j)) Q E s:=by
 have ty:=st.typeIs
 obtain ⟨o,ho,hc,hd⟩:=id st
 obtain ⟨ol,hol,_,nl,hdl⟩:=ht
 unfold Builtin.SmallTypes.nextOf
 refine wpAny_bind (wpAny_callSpecial?_slot (name:=Str.ofString "__next__") ty PySem.F.slot_tuple_iterator_next (wpAny_call_entry PySem.F.slot_tuple_iterator_next ty PySem.F.entry_tuple_iterator_next ?_ (PySem.F.args_tuple_iterator_next_1 _)))
 refine (show wpAny _ _ (field (.ref j) 0 >>= _) _ _ s from wpAny_bind (wpAny_field ho hd (x:=.ref t) rfl ?_))
 refine (show wpAny _ _ (if (Value.ref t==Value.none)=true then _ else _) _ _ s from ?_)
 rw [if_neg fun b0:(Value.ref t==Value.none)=true=>Bool.false_ne_true b0]
 refine (show wpAny _ _ (field (.ref j) 1 >>= _) _ _ s from wpAny_bind (wpAny_field ho hd (x:=.int i 0) rfl ?_))
 refine (show wpAny _ _ (seqItems? (.ref t) >>= _) _ _ s from wpAny_bind (wpAny_seqItems hol hdl ?_))
 simp only [Int.toNat_natCast,hx]
 refine wpAny_bind (wpAny_setField ho hd (by simp) (wpAny_pure ⟨x,rfl,wpAny_pure (q _ ⟨_,Heap.get?_update_self _ ho (Obj.isFreed_of_fields (Obj.data_mapFields hd _)),(Obj.cls_mapFields ..).trans hc,?_⟩ (Heap.SameBut.update ..))⟩))
 rw [Obj.data_mapFields hd];simp [rawInt]
theorem oR {Q:Value->Shared->Prop} (hh:A.handled=none) (st:s.heap.IsTupleIter j t i) (ht:s.heap.IsTuple t items) (hx:items[i]? =none)
  (q: ∀ h' e,Heap.ExtBut j s.heap h'->(∃ o,h'.get? e=some o/\o.cls=.type "StopIteration")->E (.ref e) {s with heap:=h'}):wpAny (model prog w) A (Builtin.SmallTypes.nextOf (.ref j)) Q E s:=by
 have ty:=st.typeIs
 obtain ⟨o,ho,hc,hd⟩:=id st
 obtain ⟨ol,hol,_,nl,hdl⟩:=ht
 unfold Builtin.SmallTypes.nextOf
 refine wpAny_bind (wpAny_callSpecial?_slot (name:=Str.ofString "__next__") ty PySem.F.slot_tuple_iterator_next (wpAny_call_entry PySem.F.slot_tuple_iterator_next ty PySem.F.entry_tuple_iterator_next ?_ (PySem.F.args_tuple_iterator_next_1 _)))
 refine (show wpAny _ _ (field (.ref j) 0 >>= _) _ _ s from wpAny_bind (wpAny_field ho hd (x:=.ref t) rfl ?_))
 refine (show wpAny _ _ (if (Value.ref t==Value.none)=true then _ else _) _ _ s from ?_)
 rw [if_neg fun b0:(Value.ref t==Value.none)=true=>Bool.false_ne_true b0]
 refine (show wpAny _ _ (field (.ref j) 1 >>= _) _ _ s from wpAny_bind (wpAny_field ho hd (x:=.int i 0) rfl ?_))
 refine (show wpAny _ _ (seqItems? (.ref t) >>= _) _ _ s from wpAny_bind (wpAny_seqItems hol hdl ?_))
 simp only [Int.toNat_natCast,hx]
 refine wpAny_bind (wpAny_rule (wpAny_bind (wpAny_setField ho hd (by simp) (show wpAny _ _ (newExc (.type "StopIteration") [] >>= _) _ _ _ from wpAny_bind ?_))))
 simp only [newExc,newTuple]
 refine wpAny_bind (wpAny_newObj_type (wpAny_bind (m:=firstArgMember _ _) (wpAny_of_eq (a:=Value.none) (by first | rfl | (simp only [firstArgMember];rfl)) (wpAny_newObj_type ?_ (by size_fits)))) (by size_fits))
 simp only [raiseNew]
 refine wpAny_bind (wpAny_handled ?_)
 rw [show A.in1.handled=none from hh]
 exact wpAny_bind (wpAny_pure (wpAny_throw (q _ _ (((Heap.SameBut.update ..).extBut.push _).push _) ⟨_,Heap.get?_push_size _ rfl,rfl⟩)))
def SIter (c:Bool) (h:Heap) (j l:Addr) (i:Nat):Prop:=if c=true then h.IsTupleIter j l i else h.IsListIter j l i
def SSeq (c:Bool) (h:Heap) (l:Addr) (items:Array Value):Prop:=if c=true then h.IsTuple l items else h.IsList l items
theorem SIter.obj {c:Bool} {h:Heap} {l:Addr} (x:SIter c h j l i): ∃ o,h.get? j=some o/\ ∀ v,o.data≠ .cell v:=by
 cases c with
 | true=>obtain ⟨o,e,_,d⟩:=(show h.IsTupleIter j l i from x);exact ⟨o,e,fun v z=>by rw [d]at z;cases z⟩
 | false=>obtain ⟨o,e,_,d⟩:=(show h.IsListIter j l i from x);exact ⟨o,e,fun v z=>by rw [d]at z;cases z⟩
theorem SIter.at {c:Bool} {h h':Heap} {l:Addr} (x:SIter c h j l i) (k: ∀ o,h.get? j=some o->h'.get? j=some o):SIter c h' j l i:=by
 cases c with
 | true=>obtain ⟨o,e,r⟩:=(show h.IsTupleIter j l i from x);exact (show h'.IsTupleIter j l i from ⟨o,k o e,r⟩)
 | false=>obtain ⟨o,e,r⟩:=(show h.IsListIter j l i from x);exact (show h'.IsListIter j l i from ⟨o,k o e,r⟩)
theorem SSeq.at {c:Bool} {h h':Heap} {l:Addr} (x:SSeq c h l items) (k: ∀ o,h.get? l=some o->h'.get? l=some o):SSeq c h' l items:=by
 cases c with
 | true=>obtain ⟨o,e,r⟩:=(show h.IsTuple l items from x);exact (show h'.IsTuple l items from ⟨o,k o e,r⟩)
 | false=>obtain ⟨o,e,r⟩:=(show h.IsList l items from x);exact (show h'.IsList l items from ⟨o,k o e,r⟩)
theorem draws_seq (c:Bool) (hh:A.handled=none) (j l:Addr) (hne:l≠j) (items:Array Value):
  Draws prog w A j [j,l] items.size (fun i v=>items[i]? =some v) (fun i h=>SIter c h j l i/\SSeq c h l items) where
 live:=fun _ _ st=>let ⟨o,e,_⟩:=st.1.obj;⟨o,e⟩
 frame:=fun _ _ _ st k=>⟨st.1.at fun o e=>k j (by simp) o e,st.2.at fun o e=>k l (by simp) o e⟩
 item:=fun i s Q E hi st hQ=>by
  have hx:items[i]? =some items[i]:=Array.getElem?_eq_getElem hi
  cases c with
  | true=>exact vS st.1 st.2 hx fun h' st' sb=>hQ _ h' s.toks hx ⟨st',st.2.at fun o e=>sb.extBut l o hne e⟩ sb
  | false=>exact wpAny_nextOf_list_item st.1 st.2 hx fun h' st' sb=>hQ _ h' s.toks hx ⟨st',st.2.at fun o e=>sb.extBut l o hne e⟩ sb
 done:=fun s Q E st hE=>by
  cases c with
  | true=>exact oR hh st.1 st.2 (by simp) hE
  | false=>exact wpAny_nextOf_list_end hh st.1 st.2 (by simp) hE
end
structure ZAp (z TI TO i1 i2:Addr) (f1 f2:List Addr):Prop where
 tz:TI≠z
 oz:TO≠z
 a1z:i1≠z
 a2z:i2≠z
 to:TI≠TO
 t1:TI≠i1
 t2:TI≠i2
 o1:TO≠i1
 o2:TO≠i2
 ii:i1≠i2
 z1:z∉f1
 z2:z∉f2
 p1:TO∉f1
 p2:TO∉f2
 q1:i2∉f1
 q2:i1∉f2
section
variable {prog:Program} {w:World} {A:Around} {s:Shared} {E:Value->Shared->Prop} {z TI TO i1 i2:Addr} {f1 f2:List Addr} {n1 n2 k:Nat} {P1 P2:Nat->Value->Prop} {S1 S2:Nat->Heap->Prop} {a b:Value}
theorem ua {Q:Value->Shared->Prop} (D1:Draws prog w A i1 f1 n1 P1 S1) (D2:Draws prog w A i2 f2 n2 P2 S2) (D:ZAp z TI TO i1 i2 f1 f2)
  (hz:IsZip s.heap z TI TO .none) (hTI:IsPair s.heap TI (.ref i1) (.ref i2)) (hTO:IsPair s.heap TO a b) (st1:S1 k s.heap) (st2:S2 k s.heap) (k1:k<n1) (k2:k<n2)
  (q: ∀ x y h' tk,P1 k x->P2 k y->IsZip h' z TI TO (rawInt s.heap.objs.size)->IsPair h' TO x y->S1 (k+1) h'->S2 (k+1) h'->IsPair h' s.heap.objs.size x y->
   (∀ c o,c≠z->c≠TO->c≠i1->c≠i2->s.heap.get? c=some o->h'.get? c=some o)->Q (.ref s.heap.objs.size) {s with heap:=h',toks:=tk}):
  wpAny (model prog w) A (Builtin.«zip.__next__» ⟨[.ref z],[]⟩) (fun fin s'=> ∃ v,fin=.done (.ret v)/\Q v s') E s:=by
 refine (show wpAny _ _ (field (.ref z) 2 >>= _) _ _ _ from wpAny_bind (wpAny_field hz rfl (x:=.bool false) rfl ?_))
 refine (show wpAny _ _ (field (.ref z) 3 >>= _) _ _ _ from wpAny_bind (wpAny_field hz rfl (x:=.ref TI) rfl (wpAny_bind (wpAny_seqItems hTI rfl ?_))))
 refine (show wpAny _ _ (Builtin.SmallTypes.ownedTupleIsFree (.ref z) >>= _) _ _ _ from wpAny_bind ?_)
 unfold Builtin.SmallTypes.ownedTupleIsFree
 refine wpAny_bind (wpAny_field hz rfl (x:=.none) rfl (wpAny_pure ?_))
 simp only [if_true]
 refine wpAny_bind (wpAny_rule (wpAny_bind (wpAny_field hz rfl (x:=.ref TO) rfl (wpAny_bind (wpAny_setField_rec hz (by simp) fun g1 zz1 sb1=>?_)))))
 replace zz1:IsZip g1 z TI TO .ellipsis:=zz1
 refine wpAny_bind ?_
 simp only [List.zipIdx_cons,List.zipIdx_nil,List.forIn_cons,List.forIn_nil]
 refine wpAny_bind (wpAny_bind (wpAny_onRaise (show wpAny _ _ (Builtin.SmallTypes.nextOf (.ref i1) >>= _) _ _ _ from ?_)))
 refine wpAny_bind (D1.item k _ _ _ k1 (D1.frame k s.heap g1 st1 fun c hc o e=>sb1.extBut c o (fun x=>D.z1 (x▸hc)) e) fun x g2 tk2 hx s1' sb2=>wpAny_pure ?_)
 have to2:IsPair g2 TO a b:=sb2.extBut _ _ D.o1 (sb1.extBut _ _ D.oz hTO)
 refine wpAny_bind (wpAny_seqItems to2 rfl (wpAny_bind (wpAny_updateSeq_pair to2 fun g3 to3 sb3=>?_)))
 replace to3:IsPair g3 TO x b:=to3
 refine wpAny_bind (wpAny_letGo (wpAny_pure ?_))
 refine wpAny_bind (wpAny_bind (wpAny_onRaise (show wpAny _ _ (Builtin.SmallTypes.nextOf (.ref i2) >>= _) _ _ _ from ?_)))
 refine wpAny_bind (D2.item k _ _ _ k2 (D2.frame k s.heap g3 st2 fun c hc o e=>?_) fun y g4 tk4 hy s2' sb4=>wpAny_pure ?_)
 ·exact sb3.extBut c o (fun x=>D.p2 (x▸hc)) (sb2.extBut c o (fun x=>D.q2 (x▸hc)) (sb1.extBut c o (fun x=>D.z2 (x▸hc)) e))
 have to4:IsPair g4 TO x b:=sb4.extBut _ _ D.o2 to3
 refine wpAny_bind (wpAny_seqItems to4 rfl (wpAny_bind (wpAny_updateSeq_pair to4 fun g5 to5 sb5=>?_)))
 replace to5:IsPair g5 TO x y:=to5
 refine wpAny_bind (wpAny_letGo (wpAny_pure (wpAny_pure ?_)))
 refine wpAny_bind (wpAny_seqItems to5 rfl (wpAny_bind (wpAny_newTuple ?_)))
 have sz:g5.objs.size=s.heap.objs.size:=by rw [sb5.1,sb4.1,sb3.1,sb2.1,sb1.1]
 have zz5:IsZip g5 z TI TO .ellipsis:=sb5.extBut _ _ D.oz.symm (sb4.extBut _ _ D.a2z.symm (sb3.extBut _ _ D.oz.symm (sb2.extBut _ _ D.a1z.symm zz1)))
 have kk5: ∀ c o,c≠z->c≠TO->c≠i1->c≠i2->s.heap.get? c=some o->g5.get? c=some o:=fun c o c1 c2 c3 c4 e=>
  sb5.extBut c o c2 (sb4.extBut c o c4 (sb3.extBut c o c2 (sb2.extBut c o c3 (sb1.extBut c o c1 e))))
 have zlt:z<g5.objs.size:=Heap.lt_size zz5
 refine (show wpAny _ _ (Builtin.SmallTypes.ownedTupleHandOut (.ref z) (.ref g5.objs.size) >>= _) _ _ _ from wpAny_bind ?_)
 unfold Builtin.SmallTypes.ownedTupleHandOut
 have zz6:IsZip (g5.push {cls:=.type "tuple",data:=.seq #[x,y]}) z TI TO .ellipsis:=Heap.get?_push_of_some _ zz5
 refine wpAny_bind (wpAny_setField_rec zz6 (by simp) fun g7 zz7 sb7=>?_)
 replace zz7:IsZip g7 z TI TO (rawInt g5.objs.size):=zz7
 refine wpAny_setField_rec zz7 (by simp) fun g8 zz8 sb8=>?_
 replace zz8:IsZip g8 z TI TO (rawInt g5.objs.size):=zz8
 have up: ∀ c o,c≠z->g5.get? c=some o->g8.get? c=some o:=fun c o c1 e=>sb8.extBut c o c1 (sb7.extBut c o c1 (Heap.get?_push_of_some _ e))
 have tt8:IsPair g8 g5.objs.size x y:=sb8.extBut _ _ (Nat.ne_of_gt zlt) (sb7.extBut _ _ (Nat.ne_of_gt zlt) (Heap.get?_push_size _ rfl))
 rw [sz]at zz8 tt8
 refine wpAny_pure ⟨_,rfl,(show Q (.ref g5.objs.size) _ from ?_)⟩
 rw [sz]
 refine q x y g8 _ hx hy zz8 (up _ _ D.oz to5) ?_ ?_ tt8 fun c o c1 c2 c3 c4 e=>up c o c1 (kk5 c o c1 c2 c3 c4 e)
 ·refine D1.frame (k+1) g2 g8 s1' fun c hc o e=>up c o (fun x=>D.z1 (x▸hc)) (sb5.extBut c o (fun x=>D.p1 (x▸hc)) (sb4.extBut c o (fun x=>D.q1 (x▸hc)) (sb3.extBut c o (fun x=>D.p1 (x▸hc)) e)))
 ·exact D2.frame (k+1) g4 g8 s2' fun c hc o e=>up c o (fun x=>D.z2 (x▸hc)) (sb5.extBut c o (fun x=>D.p2 (x▸hc)) e)
theorem nG {Q:Fin->Shared->Prop} (D1:Draws prog w A i1 f1 n1 P1 S1) (D:ZAp z TI TO i1 i2 f1 f2)
  (hz:IsZip s.heap z TI TO .none) (hTI:IsPair s.heap TI (.ref i1) (.ref i2)) (hTO:IsPair s.heap TO a b) (st1:S1 n1 s.heap)
  (q: ∀ h' e,(∀ c o,c≠z->c≠TO->c≠i1->c≠i2->s.heap.get? c=some o->h'.get? c=some o)->(∃ o,h'.get? e=some o/\o.cls=.type "StopIteration")->E (.ref e) {s with heap:=h'}):
  wpAny (model prog w) A (Builtin.«zip.__next__» ⟨[.ref z],[]⟩) Q E s:=by
 refine (show wpAny _ _ (field (.ref z) 2 >>= _) _ _ _ from wpAny_bind (wpAny_field hz rfl (x:=.bool false) rfl ?_))
 refine (show wpAny _ _ (field (.ref z) 3 >>= _) _ _ _ from wpAny_bind (wpAny_field hz rfl (x:=.ref TI) rfl (wpAny_bind (wpAny_seqItems hTI rfl ?_))))
 refine (show wpAny _ _ (Builtin.SmallTypes.ownedTupleIsFree (.ref z) >>= _) _ _ _ from wpAny_bind ?_)
 unfold Builtin.SmallTypes.ownedTupleIsFree
 refine wpAny_bind (wpAny_field hz rfl (x:=.none) rfl (wpAny_pure ?_))
 simp only [if_true]
 refine wpAny_bind (wpAny_rule (wpAny_bind (wpAny_field hz rfl (x:=.ref TO) rfl (wpAny_bind (wpAny_setField_rec hz (by simp) fun g1 zz1 sb1=>?_)))))
 replace zz1:IsZip g1 z TI TO .ellipsis:=zz1
 refine wpAny_bind ?_
 simp only [List.zipIdx_cons,List.zipIdx_nil,List.forIn_cons,List.forIn_nil]
 refine wpAny_bind (wpAny_bind (wpAny_onRaise (show wpAny _ _ (Builtin.SmallTypes.nextOf (.ref i1) >>= _) _ _ _ from ?_)))
 refine wpAny_bind (D1.done _ _ _ (D1.frame n1 s.heap g1 st1 fun c hc o e=>sb1.extBut c o (fun x=>D.z1 (x▸hc)) e) fun g2 e eb2 he=>?_)
 obtain ⟨oe,hoe,hce⟩:=he
 have zz2:IsZip g2 z TI TO .ellipsis:=eb2 _ _ D.a1z.symm zz1
 have ez:e≠z:=fun x=>by subst x;rw [zz2]at hoe;cases hoe;simp at hce
 exact wpAny_setField_rec zz2 (by simp) fun g3 _ sb3=>q g3 e (fun c o c1 _ c3 _ x=>sb3.extBut c o c1 (eb2 c o c3 (sb1.extBut c o c1 x))) ⟨oe,sb3.extBut _ _ ez hoe,hce⟩
theorem next_zip {Q:Option Value->Shared->Prop} (D1:Draws prog w A.in1 i1 f1 n1 P1 S1) (D2:Draws prog w A.in1 i2 f2 n2 P2 S2) (D:ZAp z TI TO i1 i2 f1 f2)
  (hz:IsZip s.heap z TI TO .none) (hTI:IsPair s.heap TI (.ref i1) (.ref i2)) (hTO:IsPair s.heap TO a b) (st1:S1 k s.heap) (st2:S2 k s.heap) (k1:k<n1) (k2:k<n2)
  (q: ∀ x y h' tk,P1 k x->P2 k y->IsZip h' z TI TO (rawInt s.heap.objs.size)->IsPair h' TO x y->S1 (k+1) h'->S2 (k+1) h'->IsPair h' s.heap.objs.size x y->
   (∀ c o,c≠z->c≠TO->c≠i1->c≠i2->s.heap.get? c=some o->h'.get? c=some o)->Q (some (.ref s.heap.objs.size)) {s with heap:=h',toks:=tk}):
  wpAny (model prog w) A (pyNext (.ref z)) Q E s:=by
 have ty:s.TypeIs (.ref z) "zip":=⟨_,hz,rfl⟩
 unfold pyNext
 exact wpAny_bind (wpAny_attempt (wpAny_callSpecial?_slot (name:=Str.ofString "__next__") ty PySem.F.slot_zip_next (wpAny_call_entry PySem.F.slot_zip_next ty PySem.F.entry_zip_next
  (ua D1 D2 D hz hTI hTO st1 st2 k1 k2 fun x y h' tk a0 b0 a1 a2 a3 a4 a5 a6=>wpAny_pure (q x y h' tk a0 b0 a1 a2 a3 a4 a5 a6)) (PySem.F.args_zip_next_1 _))))
theorem end_zip {Q:Option Value->Shared->Prop} (D1:Draws prog w A.in1 i1 f1 n1 P1 S1) (D:ZAp z TI TO i1 i2 f1 f2)
  (hz:IsZip s.heap z TI TO .none) (hTI:IsPair s.heap TI (.ref i1) (.ref i2)) (hTO:IsPair s.heap TO a b) (st1:S1 n1 s.heap)
  (q: ∀ h',(∀ c o,c≠z->c≠TO->c≠i1->c≠i2->s.heap.get? c=some o->h'.get? c=some o)->Q none {s with heap:=h'}):wpAny (model prog w) A (pyNext (.ref z)) Q E s:=by
 have ty:s.TypeIs (.ref z) "zip":=⟨_,hz,rfl⟩
 unfold pyNext
 refine wpAny_bind (wpAny_attempt (wpAny_callSpecial?_slot (name:=Str.ofString "__next__") ty PySem.F.slot_zip_next (wpAny_call_entry PySem.F.slot_zip_next ty PySem.F.entry_zip_next
  (nG D1 D hz hTI hTO st1 fun h' e kk he=>?_) (PySem.F.args_zip_next_1 _))))
 obtain ⟨o,ho,hc⟩:=he
 exact wpAny_bind (wpAny_isInstance (T:="StopIteration") (b:=true) ⟨o,ho,hc⟩ isSubtype_stop (wpAny_pure (q _ kk)))
end
section
variable {prog:Program} {w:World} {A:Around} {s:Shared} {E:Value->Shared->Prop}
noncomputable def tIt (l:Addr):Obj:={cls:=.type "tuple_iterator",data:=.fields #[.ref l,.int 0 0]}
noncomputable def zG2 (h:Heap) (l1 l2:Addr):Heap:=(h.push (tIt l1)).push (tIt l2)
noncomputable def zG3 (h:Heap) (l1 l2:Addr):Heap:=(zG2 h l1 l2).push {cls:=.type "tuple",data:=.seq #[.ref h.objs.size,.ref (h.push (tIt l1)).objs.size]}
noncomputable def zG4 (h:Heap) (l1 l2:Addr):Heap:=(zG3 h l1 l2).push {cls:=.type "tuple",data:=.seq #[.none,.none]}
noncomputable def zG5 (h:Heap) (l1 l2:Addr):Heap:=(zG4 h l1 l2).push {cls:=.type "zip",data:=.fields #[.none,.bool false,.bool false,.ref (zG2 h l1 l2).objs.size,.ref (zG3 h l1 l2).objs.size]}
theorem tZ (l1 l2:Addr) (xs ys:Array Value):Meets (Builtin.«zip.__new__» ⟨[.type "zip",.ref l1,.ref l2],[]⟩)
  (fun _ R s=>s.heap.IsTuple l1 xs/\s.heap.IsTuple l2 ys/\R (.ok (.ret (.ref (zG4 s.heap l1 l2).objs.size))) {s with heap:=zG5 s.heap l1 l2}):=
 .of_wp fun prog w A R s h=>by
  obtain ⟨hp,g,d,tk,os⟩:=s
  obtain ⟨a1,a2,h⟩:=h
  have sub:=sub_zip
  have b1:Heap.IsTuple (Shared.heap ⟨hp,g,d,tk,os⟩) l1 xs:=a1
  have b2:Heap.IsTuple (Shared.heap ⟨hp.push {cls:=.type "tuple_iterator",data:=.fields #[.ref l1,.int 0 0]},g,d,tk,os⟩) l2 ys:=Heap.IsTuple.push a2 _
  wp_walk using wpAny_pyIter_tuple b1,wpAny_pyIter_tuple b2
  exact ⟨_,rfl,h⟩
theorem call_zipS {c:Bool} {l1 l2:Addr} {xs ys:Array Value} {Q:Value->Shared->Prop} (a1:SSeq c s.heap l1 xs) (a2:SSeq c s.heap l2 ys)
  (q: ∀ h',IsZip h' (s.heap.objs.size+4) (s.heap.objs.size+2) (s.heap.objs.size+3) .none->IsPair h' (s.heap.objs.size+2) (.ref s.heap.objs.size) (.ref (s.heap.objs.size+1))->
   IsPair h' (s.heap.objs.size+3) .none .none->SIter c h' s.heap.objs.size l1 0->SIter c h' (s.heap.objs.size+1) l2 0->
   (∀ b o,s.heap.get? b=some o->h'.get? b=some o)->Q (.ref (s.heap.objs.size+4)) {s with heap:=h'}):wpAny (model prog w) A (call (.type "zip") [.ref l1,.ref l2]) Q E s:=by
 cases c with
 | false=>exact call_zip_2 a1 a2 fun h' b1 b2 b3 b4 b5 _ b7=>q h' b1 b2 b3 b4 b5 b7
 | true=>
  refine callType_new PySem.F.called_zip (by decide) (PySem.F.typeCall_zip_2 _ _) (PySem.F.newCall_zip_2 _ _) (fun obj=>PySem.F.args_object_init_3 obj _ _) PySem.F.entry_zip_new (tZ l1 l2 xs ys) ⟨a1,a2,?_⟩
  have z1:(s.heap.push (tIt l1)).objs.size=s.heap.objs.size+1:=Heap.size_push ..
  have z2:(zG2 s.heap l1 l2).objs.size=s.heap.objs.size+2:=by unfold zG2;rw [Heap.size_push,z1]
  have z3:(zG3 s.heap l1 l2).objs.size=s.heap.objs.size+3:=by unfold zG3;rw [Heap.size_push,z2]
  have z4:(zG4 s.heap l1 l2).objs.size=s.heap.objs.size+4:=by unfold zG4;rw [Heap.size_push,z3]
  have g5:(zG5 s.heap l1 l2).get? (zG4 s.heap l1 l2).objs.size=some {cls:=.type "zip",data:=.fields #[.none,.bool false,.bool false,.ref (zG2 s.heap l1 l2).objs.size,.ref (zG3 s.heap l1 l2).objs.size]}:=Heap.get?_push_size _ rfl
  have g4:(zG5 s.heap l1 l2).get? (zG3 s.heap l1 l2).objs.size=some {cls:=.type "tuple",data:=.seq #[.none,.none]}:=Heap.get?_push_of_some _ (Heap.get?_push_size _ rfl)
  have g3:(zG5 s.heap l1 l2).get? (zG2 s.heap l1 l2).objs.size=some {cls:=.type "tuple",data:=.seq #[.ref s.heap.objs.size,.ref (s.heap.push (tIt l1)).objs.size]}:=Heap.get?_push_of_some _ (Heap.get?_push_of_some _ (Heap.get?_push_size _ rfl))
  have g2:(zG5 s.heap l1 l2).get? (s.heap.push (tIt l1)).objs.size=some (tIt l2):=Heap.get?_push_of_some _ (Heap.get?_push_of_some _ (Heap.get?_push_of_some _ (Heap.get?_push_size _ rfl)))
  have g1:(zG5 s.heap l1 l2).get? s.heap.objs.size=some (tIt l1):=Heap.get?_push_of_some _ (Heap.get?_push_of_some _ (Heap.get?_push_of_some _ (Heap.get?_push_of_some _ (Heap.get?_push_size _ rfl))))
  show _/\_
  rw [z2,z3,z4]at g5
  rw [z1,z2]at g3
  rw [z3]at g4
  rw [z1]at g2
  rw [z4]
  exact ⟨⟨_,g5,rfl⟩,q _ g5 g3 g4 (show Heap.IsTupleIter _ _ _ _ from ⟨_,g1,rfl,rfl⟩) (show Heap.IsTupleIter _ _ _ _ from ⟨_,g2,rfl,rfl⟩) fun b o x=>
   Heap.get?_push_of_some _ (Heap.get?_push_of_some _ (Heap.get?_push_of_some _ (Heap.get?_push_of_some _ (Heap.get?_push_of_some _ x))))⟩
end
end HT
namespace L2
open PySem PySem.Spec PyProof.Rows
noncomputable def gX (c:Bool) (xs:List V):HO:=if c=true then .tup xs else .lst xs
theorem nW {c:Bool} {xs ys:List V} (h:gX c xs=gX c ys):xs=ys:=by
 cases c with
 | true=>exact HO.tup.inj h
 | false=>exact HO.lst.inj h
theorem Inv.seqS {X:Cx} {pins:List (Addr×Obj)} {Z:St} {H:Hp} {s:Shared} {c:Bool} {a:Addr} {xs:List V} (I:Inv X pins Z H s) (h:H a=some (gX c xs)): ∃ its:List Value,Vals xs its/\HT.SSeq c s.heap a its.toArray/\xs.length<=sizeLine:=by
 cases c with
 | true=>obtain ⟨its,r,p,z⟩:=I.tuple (SqT.of (K:=X.K) h);exact ⟨its,r,p,z⟩
 | false=>obtain ⟨its,r,p,z⟩:=I.list (SqL.of (K:=X.K) h);exact ⟨its,r,p.isList,z⟩
noncomputable def Itz (c:Bool) (l1 l2:Addr):It:=
 ⟨fun i H=> ∃ xs ys x y,H l1=some (gX c xs)/\H l2=some (gX c ys)/\xs[i]? =some x/\ys[i]? =some y,
  fun i H v H'=> ∃ T x y,H T=none/\v=.ref T/\H'=upd H T (.tup [x,y])/\ ∀ xs ys,H l1=some (gX c xs)->H l2=some (gX c ys)->xs[i]? =some x/\ys[i]? =some y,
  fun i H=> ∃ xs ys,H l1=some (gX c xs)/\H l2=some (gX c ys)/\xs.length=i/\ys.length=i⟩
def ZAt (c:Bool) (z TI TO i1 i2 l1 l2:Addr) (i:Nat) (h:Heap):Prop:=IsZip h z TI TO .none/\IsPair h TI (.ref i1) (.ref i2)/\(∃ a b,IsPair h TO a b)/\HT.SIter c h i1 l1 i/\HT.SIter c h i2 l2 i
theorem fp5 {z TI TO i1 i2 b:Addr} (h:b∈[z,TI,TO,i1,i2]):b=z\/b=TI\/b=TO\/b=i1\/b=i2:=by simpa using h
theorem ug {P:Program} {w:World} {K:W.Frag} {es:List Expr} {kk:Nat} {tpos:Pos} (c:Bool) (z TI TO i1 i2 l1 l2:Addr) (nd:[z,TI,TO,i1,i2].Nodup):
  tX P w K (.Tuple es kk tpos) (Itz c l1 l2) [z,TI,TO,i1,i2] z (ZAt c z TI TO i1 i2 l1 l2):=by
 simp only [List.nodup_cons,List.mem_cons,List.not_mem_nil,or_false,not_or,List.nodup_nil,and_true]at nd
 obtain ⟨⟨n1,n2,n3,n4⟩,⟨n5,n6,n7⟩,⟨n8,n9⟩,n10,_⟩:=nd
 have ap: ∀ {X:Cx} {pins:List (Addr×Obj)} {H:Hp} {xs ys:List V},(∀ b∈[z,TI,TO,i1,i2],kq X pins H b)->H l1=some (gX c xs)->H l2=some (gX c ys)->
   HT.ZAp z TI TO i1 i2 [i1,l1] [i2,l2]/\l1≠i1/\l2≠i2:=by
  intro X pins H xs ys hf h1 h2
  have a: ∀ b∈[z,TI,TO,i1,i2],b≠l1/\b≠l2:=fun b hb=>⟨(aj h1 (hf b hb).1).symm,(aj h2 (hf b hb).1).symm⟩
  have az:=a z (by simp)
  have aO:=a TO (by simp)
  have a1:=a i1 (by simp)
  have a2:=a i2 (by simp)
  refine ⟨⟨Ne.symm n1,Ne.symm n2,Ne.symm n3,Ne.symm n4,n5,n6,n7,n8,n9,n10,?_,?_,?_,?_,?_,?_⟩,Ne.symm a1.1,Ne.symm a2.2⟩ <;> simp only [List.mem_cons,List.not_mem_nil,or_false,not_or]
  ·exact ⟨n3,az.1⟩
  ·exact ⟨n4,az.2⟩
  ·exact ⟨n8,aO.1⟩
  ·exact ⟨n9,aO.2⟩
  ·exact ⟨Ne.symm n10,a2.1⟩
  ·exact ⟨n10,a1.2⟩
 refine ⟨by simp,fun i h st b hb=>?_,fun i h h' st k=>?_,?_,?_,fun _ _ _ _ _ st h=>wpAny_pyIter_zip st.1 h⟩
 ·obtain ⟨h1,h2,⟨a,b',h3⟩,h4,h5⟩:=st
  rcases fp5 hb with rfl | rfl | rfl | rfl | rfl
  ·exact ⟨_,h1,fun v e=>nomatch e⟩
  ·exact ⟨_,h2,fun v e=>nomatch e⟩
  ·exact ⟨_,h3,fun v e=>nomatch e⟩
  ·exact h4.obj
  ·exact h5.obj
 ·obtain ⟨h1,h2,⟨a,b',h3⟩,h4,h5⟩:=st
  exact ⟨k z (by simp) _ h1,k TI (by simp) _ h2,⟨a,b',k TO (by simp) _ h3⟩,h4.at fun o e=>k i1 (by simp) o e,h5.at fun o e=>k i2 (by simp) o e⟩
 ·intro X hP hw hK hc i pins s Z H E I hf st hg
  subst hP hw hK
  obtain ⟨xs,ys,x,y,hx,hy,ex,ey⟩:=hg
  obtain ⟨its1,r1,q1,_⟩:=I.seqS hx
  obtain ⟨its2,r2,q2,_⟩:=I.seqS hy
  obtain ⟨u,hu,ru⟩:=r1.get ex
  obtain ⟨v,hv,rv⟩:=r2.get ey
  obtain ⟨z0,t0,⟨a,b,o0⟩,s1,s2⟩:=st
  obtain ⟨D,e1,e2⟩:=ap hf hx hy
  refine HT.next_zip (HT.draws_seq (A:=X.A.in1) c (I.ok.hd hc) i1 l1 e1 its1.toArray) (HT.draws_seq (A:=X.A.in1) c (I.ok.hd hc) i2 l2 e2 its2.toArray) D z0 t0 o0 ⟨s1,q1⟩ ⟨s2,q2⟩
   (by rw [List.size_toArray];exact (List.getElem?_eq_some_iff.mp hu).1) (by rw [List.size_toArray];exact (List.getElem?_eq_some_iff.mp hv).1) fun x' y' h' tk px py z1 o1 t1 t2 pr kk=>?_
  have ex':x'=u:=by
   have p1:its1[i]? =some x':=by simpa using px
   rw [hu]at p1;exact (Option.some.inj p1).symm
  have ey':y'=v:=by
   have p1:its2[i]? =some y':=by simpa using py
   rw [hv]at p1;exact (Option.some.inj p1).symm
  subst ex' ey'
  refine ⟨_,rfl,wpAny_letOwnedTupleGo_zip z1 fun h'' z2 sb=>?_⟩
  have lt: ∀ {b:Addr} {ob:Obj},s.heap.get? b=some ob->b≠s.heap.objs.size:=fun e=>Nat.ne_of_lt (Heap.lt_size e)
  have fT:H s.heap.objs.size=none:=I.hok.fresh (Nat.le_refl _)
  have keep: ∀ b ob,b∉[z,TO,i1,i2]->s.heap.get? b=some ob->h''.get? b=some ob:=fun b ob hb e=>by
   simp only [List.mem_cons,List.not_mem_nil,or_false,not_or]at hb
   exact sb.extBut b ob hb.1 (kk b ob hb.1 hb.2.1 hb.2.2.1 hb.2.2.2 e)
  have sub: ∀ b,b∈[z,TO,i1,i2]->b∈[z,TI,TO,i1,i2]:=fun b hb=>by
   simp only [List.mem_cons,List.not_mem_nil,or_false]at hb ⊢
   rcases hb with h | h | h | h
   ·exact .inl h
   ·exact .inr (.inr (.inl h))
   ·exact .inr (.inr (.inr (.inl h)))
   ·exact .inr (.inr (.inr (.inr h)))
  have trk: ∀ b uo,H b=some uo->b∉[z,TO,i1,i2]:=fun b uo e hb=>by rw [(hf b (sub b hb)).1]at e;cases e
  have ptT:IsPair h'' s.heap.objs.size x' y':=sb.extBut _ _ (Ne.symm (lt z0)) pr
  have I2:Inv X pins Z (upd H s.heap.objs.size (.tup [x,y])) {s with heap:=h'',toks:=tk}:=by
   refine I.step (g':=s.gens) (d':=s.drawn) (ch:=[z,TO,i1,i2]) (fun b hb=>?_) (fun b ob _ _ hb e _=>keep b ob hb e) (fun b ob _ _ hb e _=>⟨ob.slots,keep b ob hb e⟩) (fun b ob hb e n=>by rw [am (lt e)];exact n)
    (fun b ob hb e=>⟨ob,keep b ob hb e⟩) (fun b zs e=>by rw [am (aj e fT)];exact e) (fun b ob uo e=>by rw [am (aj e fT)];exact e) (fun b ps e=>⟨#[],by rw [am (aj e fT),e];simp⟩) (fun m hm=>?_) (fun b uo e=>?_) I.bare
   ·obtain ⟨_,f1,_,f3,f4,f5⟩:=hf b (sub b hb)
    exact ⟨f3,f1,f4,f5⟩
   ·obtain ⟨ob,es',ep,ho,r⟩:=hm
    exact ⟨ob,es',ep,keep _ ob (fun hb=>(hf _ (sub _ hb)).2.1 rfl) ho,r⟩
   ·by_cases hb:b=s.heap.objs.size
    ·subst hb
     rw [ab]at e
     cases e
     exact ⟨by show 2<=sizeLine;decide,[x',y'],.cons ru (.cons rv .nil),_,ptT,rfl,_,rfl⟩
    ·rw [am hb]at e
     refine (I.hok b uo e).stay (fun c' v' hc' q=>keep c' v' ?_ q) (fun c' q=>by rw [am (aj q fT)];exact q) fun c' zs q=>by rw [am (aj q fT)];exact q
     rcases hc' with h | h
     ·rw [h];exact trk b uo e
     ·exact trk c' _ h
  refine ⟨.ref s.heap.objs.size,_,I2,rfl,⟨_,x,y,fT,rfl,rfl,fun xs' ys' h1 h2=>?_⟩,⟨z2,sb.extBut _ _ (Ne.symm n1) (kk _ _ (Ne.symm n1) n5 n6 n7 t0),⟨_,_,sb.extBut _ _ (Ne.symm n2) o1⟩,t1.1.at fun o e=>sb.extBut _ o (Ne.symm n3) e,t2.1.at fun o e=>sb.extBut _ o (Ne.symm n4) e⟩,fun b hb=>?_⟩
  ·rw [hx]at h1
   rw [hy]at h2
   rw [<- nW (Option.some.inj h1),<- nW (Option.some.inj h2)]
   exact ⟨ex,ey⟩
  ·have hb': ∃ ob,s.heap.get? b=some ob:=by
    rcases fp5 hb with rfl | rfl | rfl | rfl | rfl
    ·exact ⟨_,z0⟩
    ·exact ⟨_,t0⟩
    ·exact ⟨_,o0⟩
    ·obtain ⟨ob,e,_⟩:=s1.obj;exact ⟨ob,e⟩
    ·obtain ⟨ob,e,_⟩:=s2.obj;exact ⟨ob,e⟩
   obtain ⟨ob,e⟩:=hb'
   rw [am (lt e)]
   exact (hf b hb).1
 ·intro X hP hw hK hc i pins s Z H E I hf st hg
  subst hP hw hK
  obtain ⟨xs,ys,hx,hy,l,l'⟩:=hg
  obtain ⟨its1,r1,q1,_⟩:=I.seqS hx
  obtain ⟨z0,t0,⟨a,b,o0⟩,s1,s2⟩:=st
  obtain ⟨D,e1,e2⟩:=ap hf hx hy
  have hi:i=its1.toArray.size:=by rw [List.size_toArray,<- l];exact r1.length
  rw [hi]at s1
  refine HT.end_zip (HT.draws_seq (A:=X.A.in1) c (I.ok.hd hc) i1 l1 e1 its1.toArray) D z0 t0 o0 ⟨s1,q1⟩ fun h' kk=>⟨rfl,?_⟩
  have keep: ∀ b ob,b∉[z,TO,i1,i2]->s.heap.get? b=some ob->h'.get? b=some ob:=fun b ob hb e=>by
   simp only [List.mem_cons,List.not_mem_nil,or_false,not_or]at hb
   exact kk b ob hb.1 hb.2.1 hb.2.2.1 hb.2.2.2 e
  have sub: ∀ b,b∈[z,TO,i1,i2]->b∈[z,TI,TO,i1,i2]:=fun b hb=>by
   simp only [List.mem_cons,List.not_mem_nil,or_false]at hb ⊢
   rcases hb with h | h | h | h
   ·exact .inl h
   ·exact .inr (.inr (.inl h))
   ·exact .inr (.inr (.inr (.inl h)))
   ·exact .inr (.inr (.inr (.inr h)))
  have trk: ∀ b uo,H b=some uo->b∉[z,TO,i1,i2]:=fun b uo e hb=>by rw [(hf b (sub b hb)).1]at e;cases e
  refine I.step (g':=s.gens) (d':=s.drawn) (t':=s.toks) (ch:=[z,TO,i1,i2]) (fun b hb=>?_) (fun b ob _ _ hb e _=>keep b ob hb e) (fun b ob _ _ hb e _=>⟨ob.slots,keep b ob hb e⟩) (fun b ob hb e n=>n)
   (fun b ob hb e=>⟨ob,keep b ob hb e⟩) (fun b zs e=>e) (fun b ob uo e=>e) (fun b ps e=>⟨#[],by rw [e];simp⟩) (fun m hm=>?_) (fun b uo e=>?_) I.bare
  ·obtain ⟨_,f1,_,f3,f4,f5⟩:=hf b (sub b hb)
   exact ⟨f3,f1,f4,f5⟩
  ·obtain ⟨ob,es',ep,ho,r⟩:=hm
   exact ⟨ob,es',ep,keep _ ob (fun hb=>(hf _ (sub _ hb)).2.1 rfl) ho,r⟩
  ·refine (I.hok b uo e).stay (fun c' v' hc' q=>keep c' v' ?_ q) (fun _ q=>q) fun _ _ q=>q
   rcases hc' with h | h
   ·rw [h];exact trk b uo e
   ·exact trk c' _ h
noncomputable def AH (ta:TA):TI:=fun Z H R=>ta Z H fun vs H1=> ∃ c l1 l2 xs ys,vs=[.ref l1,.ref l2]/\H1 l1=some (gX c xs)/\H1 l2=some (gX c ys)/\R (Itz c l1 l2) H1
theorem uP {X:Cx} {es:List Expr} {kk:Nat} {tpos:Pos} {a b:Expr} {ta:TA} {p pos:Pos} (hg:Gl X "zip") (hm:X.mg "zip"=none) (ha:PA X [a,b] ta) (hs:starEach [a,b] X.env=[(false,eval a X.env),(false,eval b X.env)]:=by rfl) (hs2:starEach [b] X.env=[(false,eval b X.env)]:=by rfl):
  PI X (.Tuple es kk tpos) (.Call (.Name "zip" p) [a,b] [] pos) (AH ta):=by
 intro pins s Z H R I h
 refine Call_ (ig I hg hm (show bootBuiltins "zip"=some (.type "zip") by decide +kernel) (PyProof.Rows.callWith_type1 (thn (ha pos pins s Z H _ I h) fun us s1 ⟨vs,H1,I1,r1,q1⟩=>?_) (by rw [hs,hs2]) (by rw [hs2];rfl)))
 obtain ⟨c,l1,l2,xs,ys,rfl,hx,hy,q⟩:=q1
 obtain ⟨u,v,rfl,ru,rv⟩:=qI r1
 cases (show u=Value.ref l1 from ru)
 cases (show v=Value.ref l2 from rv)
 obtain ⟨its1,_,e1,_⟩:=I1.seqS hx
 obtain ⟨its2,_,e2,_⟩:=I1.seqS hy
 refine HT.call_zipS e1 e2 fun h' a1 a2 a3 a4 a5 kp=>?_
 have I2:Inv X pins Z H1 {s1 with heap:=h'}:=I1.kept (t':=s1.toks) kp
 refine wpAny_pyIter_zip a1 ?_
 refine ⟨s1.heap.objs.size+4,[s1.heap.objs.size+4,s1.heap.objs.size+2,s1.heap.objs.size+3,s1.heap.objs.size,s1.heap.objs.size+1],_,_,H1,rfl,I2,ug c _ _ _ _ _ l1 l2 (by simp),⟨a1,a2,⟨_,_,a3⟩,a4,a5⟩,fun b hb=>?_,q⟩
 have hb':s1.heap.objs.size<=b:=by rcases fp5 hb with rfl | rfl | rfl | rfl | rfl <;> lia
 exact I1.fpOk hb' (I1.hok.fresh hb')
structure rR (sc0:Scope) (N0:List Str) (scope:Scope) (x x2:Str) (ys:List Str) (fr:List Nat):Prop where
 kind:scope.kind=.function
 nocell: ∀ y∈scope.names,y.2≠ .cell
 loc: ∀ y∈scope.names,y.2=.local->scope.names.lookup y.1=some .local
 xl:(bx sc0 scope).lookup x=some .local
 xl2:(bx sc0 scope).lookup x2=some .local
 free: ∀ y∈scope.names,y.2=.free->sc0.names.lookup y.1=some .cell
 nd:(x::x2::ys).Nodup
 len:ys.length=fr.length
 sl: ∀ q∈ys.zip fr,N0[q.2]? =some q.1/\sc0.names.lookup q.1=some .cell/\(bx sc0 scope).lookup q.1=some .cell
noncomputable def dl (X:Cx) (x x2:Str) (ys:List Str) (scope:Scope) (C:Addr) (s:Shared) (H:Hp) (ex:List Addr):Cx:=
 {X with N:=x::x2::ys,s₀:=s,H₀:=H,env:=compEnvC scope (eB X.env.cells scope.names) C X.env,outer:=X.stack,stack:=X.stack,ex:=ex,fn:=fun _=>false,pn:=[],xe:=fun _ _=>False}
def qM (fr:List Nat) (te:TE) (Z:St) (J:It) (H1:Hp) (Q:VK):Prop:=
 ∀ p,H1 p=none-> ∃ W:Nat->Nat->List V->Hp->Prop,(∃ m,W 0 m [] (upd H1 p (.lst [])))/\ ∀ i m ys H,W i m ys H->H p=some (.lst ys)/\
  ((J.stop i H/\Q (.ref p) H)\/(J.go i H/\ys.length<sizeLine/\ ∀ x H',J.yld i H x H'-> ∃ T v1 v2,x=.ref T/\H' T=some (.tup [v1,v2])/\te (some v1::some v2::cS fr Z) H' fun v H2=>
   H2 p=some (.lst ys)/\ ∃ m',m'<m/\W (i+1) m' (ys++[v]) (upd H2 p (.lst (ys++[v])))))
def uj (wi:TI) (fr:List Nat) (te:TE):TE:=fun Z H Q=>wi Z H fun J H1=>qM fr te Z J H1 Q
section
variable {X:Cx} {x x2:Str} {px px2 tpos pos fpos:Pos} {kk:Nat} {iter elt:Expr} {scope sc0:Scope} {N0 ys:List Str} {fr:List Nat} {wi:TI} {te:TE} {pins:List (Addr×Obj)} {Z:St} {H:Hp} {s:Shared}
theorem qy {use:Option (Value->Sem Unit)} {Qv:Value->Shared->Prop} {Q:VK} (hcalm:X.calm=true) (hi:PI X (.Tuple [.Name x px,.Name x2 px2] kk tpos) iter wi) (hsc:X.env.scope=sc0) (hN:X.N=N0) (ok:rR sc0 N0 scope x x2 ys fr)
  (hE: ∀ C s H ex,PE (dl X x x2 ys scope C s H ex) elt te) (I:Inv X pins Z H s) (h:uj wi fr te Z H Q) (hs: ∀ v,foldedSetIterable iter X.env v=pure v)
  (fin: ∀ (p C:Addr) (H':Hp) (s':Shared) (m:Str->Option Value),Inv X pins Z H' s'->s'.heap.Ns C m->H' C=none->C≠X.env.locals->X.s₀.heap.objs.size<=C->(∀ y c,X.env.cells.lookup y=some c->c≠C)->(∀ q∈X.pn++pins,q.1≠C)->Q (.ref p) H'->
   compPost (model X.prog X.w) X.A X.xe use Qv (.ref p) C (.ok .next) s'):
  wpAny (model X.prog X.w) X.A (comprehension (.ListComp elt [⟨.Tuple [.Name x px,.Name x2 px2] kk tpos,iter,[],0⟩] scope pos) scope X.env fpos (newList []) false (eval iter X.env) use) Qv X.xe s:=by
 subst hsc hN
 have hkof: ∀ y,X.env.kindOf y=X.env.scope.names.lookup y:=fun y=>rfl
 have hfree: ∀ y∈scope.names,y.2=.free-> ∃ c,X.env.cells.lookup y.1=some c:=fun y hy e=>I.ok.has y.1 (.inl (ok.free y hy e))
 refine wpAny_comprehension_free (gs:=[]) rfl hs (eX hfree) ok.kind ok.loc (thn (hi pins s Z H _ I h) fun v s1 h1=>thn h1 fun itv s2 h2=>?_)
 obtain ⟨it,fp,tn,J,H2,e,I2,T,st2,f2,hp⟩:=h2
 subst e
 refine wpAny_newObj_type (wpAny_newFunctionEnv ok.nocell (by intro y hy;simp at hy) (fun h₁ hns₁ hsb₁=>?_) ok.kind)
 dsimp only at hns₁ hsb₁ ⊢
 have I3:Inv X pins Z (upd H2 s2.heap.objs.size (.lst [])) {s2 with heap:=s2.heap.push {cls:=.type "list",data:=.seq ([]:List Value).toArray}}:=
  I2.lnew (its:=[]) (ys:=[]) (t':=s2.toks) .nil (Nat.zero_le _)
 have hf2: ∀ b∈fp,b<s2.heap.objs.size:=fun b hb=>by
  obtain ⟨o,e,_⟩:=T.obj _ _ st2 b hb
  exact Heap.lt_size e
 have hps:s2.heap.objs.size< (s2.heap.push {cls:=.type "list",data:=.seq ([]:List Value).toArray}).objs.size:=by rw [Heap.size_push];exact Nat.lt_succ_self _
 have W0:=hp s2.heap.objs.size I2.fresh
 have st3:tn 0 (s2.heap.push {cls:=.type "list",data:=.seq ([]:List Value).toArray}):=T.keep _ _ _ st2 fun b hb o e=>Heap.get?_push_of_some _ e
 generalize hpp:s2.heap.objs.size=p at I3 W0 hf2 hps ⊢
 generalize hh3:(s2.heap.push {cls:=.type "list",data:=.seq ([]:List Value).toArray})=h3 at I3 hns₁ hsb₁ hps st3 ⊢
 generalize hH3:upd H2 p (.lst [])=H3 at I3 W0
 have hold: ∀ b o,h3.get? b=some o->h₁.get? b=some o:=fun b o e=>hsb₁.extBut b o (Nat.ne_of_lt (Heap.lt_size e)) (Heap.get?_push_of_some _ e)
 have fH3: ∀ b∈fp,H3 b=none:=fun b hb=>by
  rw [<- hH3,am (Nat.ne_of_lt (hf2 b hb))]
  exact (f2 b hb).1
 have hclos: ∀ y c,(eB X.env.cells scope.names).lookup y=some c->X.env.cells.lookup y=some c:=fun y c e=>dN e
 have hcell3: ∀ y c,X.env.cells.lookup y=some c->c<h3.objs.size:=fun y c e=>by
  obtain ⟨v,o,ho,_⟩:=I3.cell y c e
  exact Heap.lt_size ho
 have hlt3:X.env.locals<h3.objs.size:=I3.lt
 have Yok:(dl X x x2 ys scope h3.objs.size {s2 with heap:=h3} H3 fp).Ok:={
  mod:=I.ok.mod
  kind:=ok.kind
  glob:=I.ok.glob
  blt:=I.ok.blt
  above:=Nat.le_refl _
  inj:=fun y z c e1 e2=>I.ok.inj y z c (hclos _ _ e1) (hclos _ _ e2)
  has:=fun y hk=>by
   have hfr:(y,NameKind.free)∈scope.names:=by
    have hm: ∃ k,(bx X.env.scope scope).lookup y=some k/\(k=.cell\/k=.free):=by
     rcases hk with hk | hk
     ·exact ⟨_,hk,.inl rfl⟩
     ·exact ⟨_,hk,.inr rfl⟩
    obtain ⟨k,hk,hkk⟩:=hm
    have hmem:=mem_of_lookup hk
    unfold bx at hmem
    obtain ⟨⟨n,k0⟩,hn,en⟩:=List.mem_map.mp hmem
    dsimp only at en
    split at en
    ·rename_i hc
     simp only [Bool.and_eq_true]at hc
     have hk0:k0=.free:=by simpa using hc.1.1
     cases en
     rw [<- hk0]
     exact hn
    ·cases en
     rcases hkk with e | e
     ·exact absurd e (ok.nocell _ hn)
     ·rw [<- e]
      exact hn
   obtain ⟨c,hc⟩:=hfree _ hfr rfl
   exact ⟨c,du hc hfr⟩
  cab:=fun y c hf _=>by cases hf
  hd:=I.ok.hd
  frames:=I.ok.frames
  stk:=.inl rfl
  exf:=fun b hb=>⟨fun e=>absurd (hf2 b hb) (by rw [e];exact Nat.not_lt.mpr (Nat.le_of_lt hps)),fun y c e=>(f2 b hb).2.2.2.2.1 y c (hclos _ _ e)⟩
  bs:=fun b o e=>⟨(I3.bs b o e).1,(I3.bs b o e).2⟩
  bsz:=Nat.le_trans I.ok.bsz I3.sz
  noex:=fun b o e hb=>by
   rcases (f2 b hb).2.2.2.1 with q | q
   ·exact I.ok.noex b o e q
   ·have h1:b<X.base.objs.size:=Heap.lt_size e
    exact absurd h1 (Nat.not_lt.mpr (Nat.le_trans I.ok.bsz q))
  exfs:=fun b hb hm=>by
   rcases List.mem_cons.mp (I3.stkSub b hm)with q | q
   ·exact (f2 b hb).2.1 q
   ·exact (f2 b hb).2.2.1 q
  funs:=I3.stack
  frf:=I3.stkFree}
 have IY:Inv (dl X x x2 ys scope h3.objs.size {s2 with heap:=h3} H3 fp) [] (none::none::cS fr Z) H3 {s2 with heap:=h₁,toks:=s2.toks+ ([]:List (Str×Value)).length}:={
  ok:=Yok
  os:=rfl
  bare:=I2.bare
  base:=Un.kept hold
  loc:=by
   refine ⟨_,hns₁,fun i y v hy hv hvis=>?_⟩
   match i,hy,hv with
   | 0,_,hv=>cases hv
   | 1,_,hv=>cases hv
   | j+2,hy,hv=>
    have hy':ys[j]? =some y:=hy
    have hv':(cS fr Z)[j]? =some (some v):=hv
    unfold cS at hv'
    rw [List.getElem?_map]at hv'
    obtain ⟨i0,hi0,hv0⟩:=Option.map_eq_some_iff.mp hv'
    have hz:(y,i0)∈ys.zip fr:=by
     refine List.mem_iff_getElem?.mpr ⟨j,?_⟩
     rw [List.getElem?_zip_eq_some]
     exact ⟨hy',hi0⟩
    obtain ⟨hn,hk,hk2⟩:=ok.sl _ hz
    have hZ:Z[i0]? =some (some v):=by
     cases e:Z[i0]? with
     | none=>rw [e]at hv0;cases hv0
     | some o=>
      rw [e]at hv0
      rw [show o=some v from hv0]
    obtain ⟨m,hm,hl⟩:=I3.loc
    obtain ⟨u,ru,lk⟩:=hl i0 y v hn hZ (.inr (.inl hk))
    refine ⟨u,ru,.inr ⟨.inl hk2,?_⟩⟩
    rcases lk with ⟨a,_⟩ | ⟨_,c,hc,hcell⟩
    ·have a':X.env.scope.names.lookup y=some .local:=a
     have hk':X.env.scope.names.lookup y=some .cell:=hk
     rw [hk']at a'
     cases a'
    ·have hfr:(y,NameKind.free)∈scope.names:=by
      have hmem:=mem_of_lookup hk2
      unfold bx at hmem
      obtain ⟨⟨n,k0⟩,hn0,en⟩:=List.mem_map.mp hmem
      dsimp only at en
      split at en
      ·rename_i hc0
       simp only [Bool.and_eq_true]at hc0
       have hk0:k0=.free:=by simpa using hc0.1.1
       cases en
       rw [<- hk0]
       exact hn0
      ·cases en
       exact absurd rfl (ok.nocell _ hn0)
     exact ⟨c,du hc hfr,hcell.keeps hold⟩
  cell:=fun y c e=>by
   obtain ⟨v,hv⟩:=I3.cell y c (hclos _ _ e)
   exact ⟨v,hv.keeps hold⟩
  free:=I3.fresh
  freeC:=fun y c e=>I3.freeC y c (hclos _ _ e)
  pin:=fun q hq=>by cases hq
  hok:=I3.hok.kept hold
  len:=by
   show (none::none::cS fr Z).length=(x::x2::ys).length
   rw [List.length_cons,List.length_cons,List.length_cons,List.length_cons,ok.len]
   unfold cS
   rw [List.length_map]}
 have hxl:(dl X x x2 ys scope h3.objs.size {s2 with heap:=h3} H3 fp).env.scope.names.lookup x=some .local:=ok.xl
 have hxl2:(dl X x x2 ys scope h3.objs.size {s2 with heap:=h3} H3 fp).env.scope.names.lookup x2=some .local:=ok.xl2
 have pgx:PG (dl X x x2 ys scope h3.objs.size {s2 with heap:=h3} H3 fp) (.Tuple [.Name x px,.Name x2 px2] kk tpos) (yY X.K 2 (rE (gU 0) (rE (gU 1) Aj))):=
  eU hcalm (aT (aH (i:=0) ok.nd rfl (.inl hxl) (.inr hxl)) (aT (aH (i:=1) ok.nd rfl (.inl hxl2) (.inr hxl2)) dv))
 have pel:=hE h3.objs.size {s2 with heap:=h3} H3 fp
 obtain ⟨W,⟨m0,w0⟩,turn⟩:=W0
 have stat: ∀ {H':Hp},(∀ b∈fp,H' b=none)-> ∀ b∈fp,kq (dl X x x2 ys scope h3.objs.size {s2 with heap:=h3} H3 fp) [] H' b:=fun hn b hb=>
  ⟨hn b hb,(Yok.exf b hb).1,Yok.exfs b hb,.inl hb,(Yok.exf b hb).2,fun q hq=>by cases hq⟩
 have loop:codeAny (model X.prog X.w) X.A (.compLoop (.ListComp elt [⟨.Tuple [.Name x px,.Name x2 px2] kk tpos,iter,[],0⟩] scope pos) 0 (.ref it) (.ref p) (compEnvC scope (eB X.env.cells scope.names) h3.objs.size X.env))
   (compPost (model X.prog X.w) X.A X.xe use Qv (.ref p) h3.objs.size) {s2 with heap:=h₁,toks:=s2.toks+ ([]:List (Str×Value)).length}:=by
  refine gV (fun n s'=> ∃ i zs v0 w0 H',Inv (dl X x x2 ys scope h3.objs.size {s2 with heap:=h3} H3 fp) [] (v0::w0::cS fr Z) H' s'/\tn i s'.heap/\(∀ b∈fp,H' b=none)/\W i n zs H') ?_ m0
   ⟨0,[],none,none,H3,IY,T.keep _ _ _ st3 fun b hb o e=>hold b o e,fH3,w0⟩
  rintro n s5 ⟨i,zs,v0,wv0,H5,I5,st5,fr5,w5⟩
  obtain ⟨hacc,turn5⟩:=turn i n zs H5 w5
  rcases turn5 with ⟨stop,qn⟩ | ⟨go,hlen,step⟩
  ·refine thn (T.done (dl X x x2 ys scope h3.objs.size {s2 with heap:=h3} H3 fp) rfl rfl rfl hcalm i [] s5 _ H5 _ I5 (stat fr5) st5 stop) fun r s6 ⟨hr,I6⟩=>?_
   subst hr
   obtain ⟨m6,n6,_⟩:=I6.loc
   refine fin p h3.objs.size H5 s6 m6 (I3.call' I6.os I6.base I6.hok I6.bare fun b hb=>⟨(f2 b hb).2.2.2.1,(f2 b hb).2.1,(f2 b hb).2.2.2.2.1,(f2 b hb).2.2.2.2.2⟩) n6 I6.free (Nat.ne_of_gt hlt3) I3.sz (fun y c e=>Nat.ne_of_lt (hcell3 y c e)) (fun q hq=>?_) qn
   exact Nat.ne_of_lt (Heap.lt_size (I3.pin q hq).1)
  ·refine thn (T.item (dl X x x2 ys scope h3.objs.size {s2 with heap:=h3} H3 fp) rfl rfl rfl hcalm i [] s5 _ H5 _ I5 (stat fr5) st5 go) fun r s6 ⟨u,hr,h6⟩=>?_
   subst hr
   refine thn h6 fun _ s7 ⟨xv,H7,I7,r7,y7,st7,fr7⟩=>?_
   have I7':=I7.pinned (stat fr7) (T.obj _ _ st7)
   obtain ⟨T7,v1,v2,eT,hT7,step7⟩:=step xv H7 y7
   refine thn (pgx _ s7 _ H7 xv u (fun Z' H'=>Z'=some v1::some v2::cS fr Z/\H'=H7) I7' r7 ⟨T7,[v1,v2],eT,SqT.of hT7,rfl,v1,[v2],rfl,v2,[],rfl,rfl,rfl,rfl⟩) fun _ s8 ⟨Z8,H8,I8,e8,e8'⟩=>?_
   subst e8 e8'
   refine thn (pel _ s8 _ H8 _ I8 step7) fun yv s9 ⟨v9,H9,I9,r9,hp9,m',hm',w9⟩=>?_
   refine thn (bM _ s9 _ H9 (.ref p) [v9] (.ref p) [yv] (fun _ H'=>H'=upd H9 p (.lst (zs++[v9]))) I9 rfl (.cons r9 .nil) ⟨p,zs,v9,rfl,rfl,hp9,hlen,rfl⟩) fun _ s10 ⟨_,H10,I10,_,e10⟩=>?_
   subst e10
   refine ⟨m',hm',i+1,zs++[v9],some v1,some v2,_,I10.unpinned,T.keep _ _ _ st7 fun b hb o e=>(I10.pin (b,o) (List.mem_append_right _ (List.mem_append_right _ (cu hb e)))).1,fun b hb=>?_,w9⟩
   obtain ⟨o,e,d⟩:=T.obj _ _ st7 b hb
   exact (I10.pin (b,o) (List.mem_append_right _ (List.mem_append_right _ (cu hb e)))).2.1
 exact codeAny_compStart_list loop (T.self X.A 0 _ _ _ (T.keep _ _ _ st3 fun b hb o e=>hold b o e) loop)
theorem on (hcalm:X.calm=true) (hi:PI X (.Tuple [.Name x px,.Name x2 px2] kk tpos) iter wi) (hsc:X.env.scope=sc0) (hN:X.N=N0) (ok:rR sc0 N0 scope x x2 ys fr)
  (hE: ∀ C s H ex,PE (dl X x x2 ys scope C s H ex) elt te) (hs: ∀ v,foldedSetIterable iter X.env v=pure v:=by intro _;rfl):
  PE X (.ListComp elt [⟨.Tuple [.Name x px,.Name x2 px2] kk tpos,iter,[],0⟩] scope pos) (uj wi fr te):=by
 intro pins s Z H Q I h
 rw [eval_ListComp]
 refine qy (use:=none) (Qv:=EP X pins Z Q) (Q:=Q) hcalm hi hsc hN ok hE I h hs fun p C H' s' m I' hn h0 h1 h2 h3 h4 q=>?_
 refine ⟨m,hn,fun h' sb=>⟨.ref p,H',I'.turned (t':=s'.toks) (fun b o hb e=>sb.extBut b o hb e) h0 (Ne.symm (Ne.symm h1)) (.inr h2) h3 h4,rfl,q⟩⟩
end
end L2
namespace My
open PySem L2
variable {P:Program} {w:World} {K:W.Frag} {mg:Str->Option Value} {base:Heap} {aD aR f f10 f11 f12 f13 f2 f3 f4 f5 f6 f7 f8 f9 g:Addr} {fd fd10 fd11 fd12 fd13 fd2 fd3 fd4 fd5 fd6 fd7 fd8 fd9 gd:FuncData}
noncomputable def xc (c:Nat):Bool:=decide (97<=c/\c<=122)
noncomputable def cQ (x:Str):Bool:=decide (1<=x.length)&&decide (x.length<=8)&&x.cps.toList.all xc
def ops:List Str:=["plus","less","times","least","most"]
inductive Fm where
 | num (n:Int)
 | own (x:Str)
 | part (k:Int) (x:Str)
 | bin (op:Str) (a b:Fm)
 | whn (a b c:Fm)
noncomputable def Fm.size:Fm->Nat
 | .num _=>1
 | .own _=>1
 | .part _ _=>1
 | .bin _ a b=>a.size+b.size+1
 | .whn a b c=>a.size+b.size+c.size+1
noncomputable def Fm.wf:Fm->Prop
 | .num n=> -999999<=n/\n<=999999
 | .own x=>cQ x=true
 | .part k x=>(0<=k/\k<=2)/\cQ x=true
 | .bin op a b=>op∈ops/\a.wf/\b.wf
 | .whn a b c=>a.wf/\b.wf/\c.wf
theorem Fm.size_pos: ∀ f:Fm,1<=f.size
 | .num _=>Nat.le_refl 1
 | .own _=>Nat.le_refl 1
 | .part _ _=>Nat.le_refl 1
 | .bin _ a b=>by show 1<=a.size+b.size+1;lia
 | .whn a b c=>by show 1<=a.size+b.size+c.size+1;lia
noncomputable def Rep (H:Hp):Fm->V->Prop
 | .num n,v=> ∃ a,v=.ref a/\H a=some (.tup [.str "num",.int n])
 | .own x,v=> ∃ a,v=.ref a/\H a=some (.tup [.str "own",.str x])
 | .part k x,v=> ∃ a,v=.ref a/\H a=some (.tup [.str "part",.int k,.str x])
 | .bin op A B,v=> ∃ a u w,v=.ref a/\H a=some (.tup [.str op,u,w])/\Rep H A u/\Rep H B w
 | .whn A B C,v=> ∃ a u w z,v=.ref a/\H a=some (.tup [.str "when",u,w,z])/\Rep H A u/\Rep H B w/\Rep H C z
def TK (H H':Hp):Prop:= ∀ a xs,H a=some (.tup xs)->H' a=some (.tup xs)
theorem TK.refl (H:Hp):TK H H:=fun _ _ h=>h
theorem TK.trans {H H1 H2:Hp} (a:TK H H1) (b:TK H1 H2):TK H H2:=fun c o h=>b c o (a c o h)
theorem TK.upd {H:Hp} {p:Addr} {o:HO} (h: ∀ xs,H p≠some (.tup xs)):TK H (upd H p o):=fun a xs e=>by
 by_cases q:a=p
 ·subst q
  exact absurd e (h xs)
 ·rw [am q]
  exact e
theorem TK.lst {H:Hp} {p:Addr} {o:HO} {ys:List V} (h:H p=some (.lst ys)):TK H (L2.upd H p o):=TK.upd fun xs e=>by rw [h]at e;cases e
theorem TK.new {H:Hp} {p:Addr} {o:HO} (h:H p=none):TK H (L2.upd H p o):=TK.upd fun xs e=>by rw [h]at e;cases e
theorem Rep.mono {H H':Hp} (t:TK H H'): ∀ {f:Fm} {v:V},Rep H f v->Rep H' f v
 | .num _,_,⟨a,e,h⟩=>⟨a,e,t _ _ h⟩
 | .own _,_,⟨a,e,h⟩=>⟨a,e,t _ _ h⟩
 | .part _ _,_,⟨a,e,h⟩=>⟨a,e,t _ _ h⟩
 | .bin _ _ _,_,⟨a,u,w,e,h,r1,r2⟩=>⟨a,u,w,e,t _ _ h,Rep.mono t r1,Rep.mono t r2⟩
 | .whn _ _ _,_,⟨a,u,w,z,e,h,r1,r2,r3⟩=>⟨a,u,w,z,e,t _ _ h,Rep.mono t r1,Rep.mono t r2,Rep.mono t r3⟩
noncomputable def isV (T:String) (H:Hp) (v:V):Bool:=match v with
 | .bl _=>T=="bool"||T=="int"
 | .int _=>T=="int"
 | .str _=>T=="str"
 | .ref a=>(match H a with | some (.lst _)=>T=="list" | some (.tup _)=>T=="tuple" | some (.dK _)=>T=="dict" | _=>false)
 | _=>false
noncomputable def Sh (H:Hp):V->Prop
 | .non=>True
 | .bl _=>True
 | .int _=>True
 | .str x=>x.length<=1000
 | .ref a=>(∃ xs,H a=some (.lst xs))\/(∃ xs,H a=some (.tup xs))\/ ∃ kvs,H a=some (.dK kvs)
 | _=>False
section
variable {X:Cx}
theorem xj (K:W.Frag) (t T:String) (ht:t∈["NoneType","bool","int","str","list","tuple","dict"]) (hT:T∈["bool","int","str","list","tuple","dict"]):
  PySem.W.kitOne K (.type t) (.type T)=some (t==T||(t=="bool"&&T=="int")):=by
 simp only [List.mem_cons,List.not_mem_nil,or_false]at ht hT
 rcases ht with rfl | rfl | rfl | rfl | rfl | rfl | rfl <;> rcases hT with rfl | rfl | rfl | rfl | rfl | rfl <;> first | rfl | (with_unfolding_all rfl) | (with_unfolding_all decide)
theorem v4:eG X (.builtin "isinstance") (fun xs H Q=> ∃ x T,xs=[x,.ty T]/\Sh H x/\T∈["bool","int","str","list","tuple","dict"]/\Q (.bl (isV T H x)) H):=by
 intro pins s Z H xs us Q I r h
 obtain ⟨x,T,rfl,hs,hT,q⟩:=h
 have go: ∀ t,iM X.K H x (.type t)->t∈["NoneType","bool","int","str","list","tuple","dict"]->isV T H x=(t==T||(t=="bool"&&T=="int"))->wpAny (model X.prog X.w) X.A (call (.builtin "isinstance") us) (EP X pins Z Q) X.xe s:=by
  intro t ty ht e
  refine v3 pins s Z H _ us Q I r ⟨x,T,.type t,_,rfl,ty,xj X.K t T ht hT,?_⟩
  rw [<- e]
  exact q
 have hTT:=hT
 simp only [List.mem_cons,List.not_mem_nil,or_false]at hTT
 cases x with
 | non=>exact go _ .non (by simp) (by rcases hTT with rfl | rfl | rfl | rfl | rfl | rfl <;> rfl)
 | bl b=>exact go _ (.bl b) (by simp) (by rcases hTT with rfl | rfl | rfl | rfl | rfl | rfl <;> rfl)
 | int i=>exact go _ (.int i) (by simp) (by rcases hTT with rfl | rfl | rfl | rfl | rfl | rfl <;> rfl)
 | str z=>exact go _ (.str z) (by simp) (by rcases hTT with rfl | rfl | rfl | rfl | rfl | rfl <;> rfl)
 | ref a=>
  rcases hs with ⟨ys,e⟩ | ⟨ys,e⟩ | ⟨ys,e⟩
  ·exact go _ (.lst e) (by simp) (by simp only [isV,e];rcases hTT with rfl | rfl | rfl | rfl | rfl | rfl <;> rfl)
  ·exact go _ (.tup e) (by simp) (by simp only [isV,e];rcases hTT with rfl | rfl | rfl | rfl | rfl | rfl <;> rfl)
  ·exact go _ (.dK e) (by simp) (by simp only [isV,e];rcases hTT with rfl | rfl | rfl | rfl | rfl | rfl <;> rfl)
 | byt _=>exact hs.elim
 | flt _=>exact hs.elim
 | ty _=>exact hs.elim
end
end My
namespace L2
open PySem PySem.Spec PyProof.Rows
section
variable {prog:Program} {w:World} {A:Around} {R:Result->Shared->Prop} {s:Shared}
theorem kj {elt target iter cnd:Expr} {scope:Scope} {pos:Pos} {it acc:Value} {env:Env} (I:Nat->Shared->Prop)
  (turn: ∀ n s,I n s->wpAny (model prog w) A (pyNext it) (fun r s₁=>match r with
   | none=>R (.ok .next) s₁
   | some v=>wpAny (model prog w) A (letOwnedTupleGo target it v) (fun _ s₁'=>wpAny (model prog w) A (assign target env v) (fun _ s₂=>wpAny (model prog w) A (isTrue cnd env (eval cnd env)) (fun ok s₃=>
     if ok=true then wpAny (model prog w) A (eval elt env) (fun x s₄=>
      wpAny (model prog w) A (call (.builtin "list.append") [acc,x]) (fun _ s₅=> ∃ m,m<n/\I m s₅) (fun _ _=>False) s₄) (fun _ _=>False) s₃
     else ∃ m,m<n/\I m s₃) (fun _ _=>False) s₂) (fun _ _=>False) s₁') (fun _ _=>False) s₁) (fun _ _=>False) s)
  (n:Nat) (h:I n s):codeAny (model prog w) A (.compLoop (.ListComp elt [⟨target,iter,[cnd],0⟩] scope pos) 0 it acc env) R s:=by
 refine codeAny_loop rfl I (fun n s hI=>?_) n h
 show wpAny _ _ ((compTurn (.ListComp elt [⟨target,iter,[cnd],0⟩] scope pos) 0 it acc env).onRaise (fun x=>do noteFrame x env;theTreesLotGoes x)) _ _ s
 refine wpAny_noted ?_
 rw [compTurn_list]
 refine wpAny_noRaise ?_
 refine wpAny_bind (wpAny_standAt (wpAny_bind (wpAny_mono (turn n s hI) (fun r s₁ h₁=>?_) fun _ _ h'=>h')))
 cases r with
 | none=>exact wpAny_pure h₁
 | some v=>
  refine wpAny_bind (wpAny_mono h₁ (fun _ s₁' h₁'=>?_) fun _ _ h'=>h')
  refine wpAny_bind (wpAny_mono h₁' (fun _ s₂ h₂=>wpAny_bind (wpAny_mono (wpAny_tests_one h₂) (fun ok s₃ h₃=>?_) fun _ _ h'=>h')) fun _ _ h'=>h')
  cases ok with
  | false=>exact wpAny_pure ⟨rfl,h₃⟩
  | true=>
   exact wpAny_bind (wpAny_bind (wpAny_mono h₃ (fun x s₄ h₄=>wpAny_bind (wpAny_mono h₄ (fun _ s₅ h₅=>wpAny_pure (wpAny_pure ⟨rfl,h₅⟩)) fun _ _ h'=>h')) fun _ _ h'=>h'))
end
def qL (fr:List Nat) (tc:TT) (te:TE) (Z:St) (J:It) (H1:Hp) (Q:VK):Prop:=
 ∀ p,H1 p=none-> ∃ W:Nat->Nat->List V->Hp->Prop,(∃ m,W 0 m [] (upd H1 p (.lst [])))/\ ∀ i m ys H,W i m ys H->H p=some (.lst ys)/\
  ((J.stop i H/\Q (.ref p) H)\/(J.go i H/\ys.length<sizeLine/\ ∀ x H',J.yld i H x H'->tc (some x::cS fr Z) H' fun b H2=>if b=true then te (some x::cS fr Z) H2 fun v H3=>
   H3 p=some (.lst ys)/\ ∃ m',m'<m/\W (i+1) m' (ys++[v]) (upd H3 p (.lst (ys++[v])))else ∃ m',m'<m/\W (i+1) m' ys H2))
def pq (wi:TI) (fr:List Nat) (tc:TT) (te:TE):TE:=fun Z H Q=>wi Z H fun J H1=>qL fr tc te Z J H1 Q
section
variable {X:Cx} {x:Str} {px pos fpos:Pos} {iter elt cnd:Expr} {scope sc0:Scope} {N0 ys:List Str} {fr:List Nat} {wi:TI} {tc:TT} {te:TE} {pins:List (Addr×Obj)} {Z:St} {H:Hp} {s:Shared}
theorem ki {use:Option (Value->Sem Unit)} {Qv:Value->Shared->Prop} {Q:VK} (hcalm:X.calm=true) (hi:PI X (.Name x px) iter wi) (hsc:X.env.scope=sc0) (hN:X.N=N0) (ok:il sc0 N0 scope x ys fr)
  (hT: ∀ C s H ex,PT (bY X x ys scope C s H ex) cnd tc) (hE: ∀ C s H ex,PE (bY X x ys scope C s H ex) elt te) (I:Inv X pins Z H s) (h:pq wi fr tc te Z H Q) (hs: ∀ v,foldedSetIterable iter X.env v=pure v)
  (fin: ∀ (p C:Addr) (H':Hp) (s':Shared) (m:Str->Option Value),Inv X pins Z H' s'->s'.heap.Ns C m->H' C=none->C≠X.env.locals->X.s₀.heap.objs.size<=C->(∀ y c,X.env.cells.lookup y=some c->c≠C)->(∀ q∈X.pn++pins,q.1≠C)->Q (.ref p) H'->
   compPost (model X.prog X.w) X.A X.xe use Qv (.ref p) C (.ok .next) s'):
  wpAny (model X.prog X.w) X.A (comprehension (.ListComp elt [⟨.Name x px,iter,[cnd],0⟩] scope pos) scope X.env fpos (newList []) false (eval iter X.env) use) Qv X.xe s:=by
 subst hsc hN
 have hkof: ∀ y,X.env.kindOf y=X.env.scope.names.lookup y:=fun y=>rfl
 have hfree: ∀ y∈scope.names,y.2=.free-> ∃ c,X.env.cells.lookup y.1=some c:=fun y hy e=>I.ok.has y.1 (.inl (ok.free y hy e))
 refine wpAny_comprehension_free (gs:=[]) rfl hs (eX hfree) ok.kind ok.loc (thn (hi pins s Z H _ I h) fun v s1 h1=>thn h1 fun itv s2 h2=>?_)
 obtain ⟨it,fp,tn,J,H2,e,I2,T,st2,f2,hp⟩:=h2
 subst e
 refine wpAny_newObj_type (wpAny_newFunctionEnv ok.nocell (by intro y hy;simp at hy) (fun h₁ hns₁ hsb₁=>?_) ok.kind)
 dsimp only at hns₁ hsb₁ ⊢
 have I3:Inv X pins Z (upd H2 s2.heap.objs.size (.lst [])) {s2 with heap:=s2.heap.push {cls:=.type "list",data:=.seq ([]:List Value).toArray}}:=
  I2.lnew (its:=[]) (ys:=[]) (t':=s2.toks) .nil (Nat.zero_le _)
 have hf2: ∀ b∈fp,b<s2.heap.objs.size:=fun b hb=>by
  obtain ⟨o,e,_⟩:=T.obj _ _ st2 b hb
  exact Heap.lt_size e
 have hps:s2.heap.objs.size< (s2.heap.push {cls:=.type "list",data:=.seq ([]:List Value).toArray}).objs.size:=by rw [Heap.size_push];exact Nat.lt_succ_self _
 have W0:=hp s2.heap.objs.size I2.fresh
 have st3:tn 0 (s2.heap.push {cls:=.type "list",data:=.seq ([]:List Value).toArray}):=T.keep _ _ _ st2 fun b hb o e=>Heap.get?_push_of_some _ e
 generalize hpp:s2.heap.objs.size=p at I3 W0 hf2 hps ⊢
 generalize hh3:(s2.heap.push {cls:=.type "list",data:=.seq ([]:List Value).toArray})=h3 at I3 hns₁ hsb₁ hps st3 ⊢
 generalize hH3:upd H2 p (.lst [])=H3 at I3 W0
 have hold: ∀ b o,h3.get? b=some o->h₁.get? b=some o:=fun b o e=>hsb₁.extBut b o (Nat.ne_of_lt (Heap.lt_size e)) (Heap.get?_push_of_some _ e)
 have fH3: ∀ b∈fp,H3 b=none:=fun b hb=>by
  rw [<- hH3,am (Nat.ne_of_lt (hf2 b hb))]
  exact (f2 b hb).1
 have hclos: ∀ y c,(eB X.env.cells scope.names).lookup y=some c->X.env.cells.lookup y=some c:=fun y c e=>dN e
 have hcell3: ∀ y c,X.env.cells.lookup y=some c->c<h3.objs.size:=fun y c e=>by
  obtain ⟨v,o,ho,_⟩:=I3.cell y c e
  exact Heap.lt_size ho
 have hlt3:X.env.locals<h3.objs.size:=I3.lt
 have Yok:(bY X x ys scope h3.objs.size {s2 with heap:=h3} H3 fp).Ok:={
  mod:=I.ok.mod
  kind:=ok.kind
  glob:=I.ok.glob
  blt:=I.ok.blt
  above:=Nat.le_refl _
  inj:=fun y z c e1 e2=>I.ok.inj y z c (hclos _ _ e1) (hclos _ _ e2)
  has:=fun y hk=>by
   have hfr:(y,NameKind.free)∈scope.names:=by
    have hm: ∃ k,(bx X.env.scope scope).lookup y=some k/\(k=.cell\/k=.free):=by
     rcases hk with hk | hk
     ·exact ⟨_,hk,.inl rfl⟩
     ·exact ⟨_,hk,.inr rfl⟩
    obtain ⟨k,hk,hkk⟩:=hm
    have hmem:=mem_of_lookup hk
    unfold bx at hmem
    obtain ⟨⟨n,k0⟩,hn,en⟩:=List.mem_map.mp hmem
    dsimp only at en
    split at en
    ·rename_i hc
     simp only [Bool.and_eq_true]at hc
     have hk0:k0=.free:=by simpa using hc.1.1
     cases en
     rw [<- hk0]
     exact hn
    ·cases en
     rcases hkk with e | e
     ·exact absurd e (ok.nocell _ hn)
     ·rw [<- e]
      exact hn
   obtain ⟨c,hc⟩:=hfree _ hfr rfl
   exact ⟨c,du hc hfr⟩
  cab:=fun y c hf _=>by cases hf
  hd:=I.ok.hd
  frames:=I.ok.frames
  stk:=.inl rfl
  exf:=fun b hb=>⟨fun e=>absurd (hf2 b hb) (by rw [e];exact Nat.not_lt.mpr (Nat.le_of_lt hps)),fun y c e=>(f2 b hb).2.2.2.2.1 y c (hclos _ _ e)⟩
  bs:=fun b o e=>⟨(I3.bs b o e).1,(I3.bs b o e).2⟩
  bsz:=Nat.le_trans I.ok.bsz I3.sz
  noex:=fun b o e hb=>by
   rcases (f2 b hb).2.2.2.1 with q | q
   ·exact I.ok.noex b o e q
   ·have h1:b<X.base.objs.size:=Heap.lt_size e
    exact absurd h1 (Nat.not_lt.mpr (Nat.le_trans I.ok.bsz q))
  exfs:=fun b hb hm=>by
   rcases List.mem_cons.mp (I3.stkSub b hm)with q | q
   ·exact (f2 b hb).2.1 q
   ·exact (f2 b hb).2.2.1 q
  funs:=I3.stack
  frf:=I3.stkFree}
 have IY:Inv (bY X x ys scope h3.objs.size {s2 with heap:=h3} H3 fp) [] (none::cS fr Z) H3 {s2 with heap:=h₁,toks:=s2.toks+ ([]:List (Str×Value)).length}:={
  ok:=Yok
  os:=rfl
  bare:=I2.bare
  base:=Un.kept hold
  loc:=by
   refine ⟨_,hns₁,fun i y v hy hv hvis=>?_⟩
   cases i with
   | zero=>cases hv
   | succ j=>
    have hy':ys[j]? =some y:=hy
    have hv':(cS fr Z)[j]? =some (some v):=hv
    unfold cS at hv'
    rw [List.getElem?_map]at hv'
    obtain ⟨i0,hi0,hv0⟩:=Option.map_eq_some_iff.mp hv'
    have hz:(y,i0)∈ys.zip fr:=by
     refine List.mem_iff_getElem?.mpr ⟨j,?_⟩
     rw [List.getElem?_zip_eq_some]
     exact ⟨hy',hi0⟩
    obtain ⟨hn,hk,hk2⟩:=ok.sl _ hz
    have hZ:Z[i0]? =some (some v):=by
     cases e:Z[i0]? with
     | none=>rw [e]at hv0;cases hv0
     | some o=>
      rw [e]at hv0
      rw [show o=some v from hv0]
    obtain ⟨m,hm,hl⟩:=I3.loc
    obtain ⟨u,ru,lk⟩:=hl i0 y v hn hZ (.inr (.inl hk))
    refine ⟨u,ru,.inr ⟨.inl hk2,?_⟩⟩
    rcases lk with ⟨a,_⟩ | ⟨_,c,hc,hcell⟩
    ·have a':X.env.scope.names.lookup y=some .local:=a
     have hk':X.env.scope.names.lookup y=some .cell:=hk
     rw [hk']at a'
     cases a'
    ·have hfr:(y,NameKind.free)∈scope.names:=by
      have hmem:=mem_of_lookup hk2
      unfold bx at hmem
      obtain ⟨⟨n,k0⟩,hn0,en⟩:=List.mem_map.mp hmem
      dsimp only at en
      split at en
      ·rename_i hc0
       simp only [Bool.and_eq_true]at hc0
       have hk0:k0=.free:=by simpa using hc0.1.1
       cases en
       rw [<- hk0]
       exact hn0
      ·cases en
       exact absurd rfl (ok.nocell _ hn0)
     exact ⟨c,du hc hfr,hcell.keeps hold⟩
  cell:=fun y c e=>by
   obtain ⟨v,hv⟩:=I3.cell y c (hclos _ _ e)
   exact ⟨v,hv.keeps hold⟩
  free:=I3.fresh
  freeC:=fun y c e=>I3.freeC y c (hclos _ _ e)
  pin:=fun q hq=>by cases hq
  hok:=I3.hok.kept hold
  len:=by
   show (none::cS fr Z).length=(x::ys).length
   rw [List.length_cons,List.length_cons,ok.len]
   unfold cS
   rw [List.length_map]}
 have hxl:(bY X x ys scope h3.objs.size {s2 with heap:=h3} H3 fp).env.scope.names.lookup x=some .local:=ok.xl
 have pgx:PG (bY X x ys scope h3.objs.size {s2 with heap:=h3} H3 fp) (.Name x px) (gU 0):=aH (i:=0) ok.nd rfl (.inl hxl) (.inr hxl)
 have pel:=hE h3.objs.size {s2 with heap:=h3} H3 fp
 have ptl:=hT h3.objs.size {s2 with heap:=h3} H3 fp
 obtain ⟨W,⟨m0,w0⟩,turn⟩:=W0
 have stat: ∀ {H':Hp},(∀ b∈fp,H' b=none)-> ∀ b∈fp,kq (bY X x ys scope h3.objs.size {s2 with heap:=h3} H3 fp) [] H' b:=fun hn b hb=>
  ⟨hn b hb,(Yok.exf b hb).1,Yok.exfs b hb,.inl hb,(Yok.exf b hb).2,fun q hq=>by cases hq⟩
 have loop:codeAny (model X.prog X.w) X.A (.compLoop (.ListComp elt [⟨.Name x px,iter,[cnd],0⟩] scope pos) 0 (.ref it) (.ref p) (compEnvC scope (eB X.env.cells scope.names) h3.objs.size X.env))
   (compPost (model X.prog X.w) X.A X.xe use Qv (.ref p) h3.objs.size) {s2 with heap:=h₁,toks:=s2.toks+ ([]:List (Str×Value)).length}:=by
  refine kj (fun n s'=> ∃ i zs v0 H',Inv (bY X x ys scope h3.objs.size {s2 with heap:=h3} H3 fp) [] (v0::cS fr Z) H' s'/\tn i s'.heap/\(∀ b∈fp,H' b=none)/\W i n zs H') ?_ m0
   ⟨0,[],none,H3,IY,T.keep _ _ _ st3 fun b hb o e=>hold b o e,fH3,w0⟩
  rintro n s5 ⟨i,zs,v0,H5,I5,st5,fr5,w5⟩
  obtain ⟨hacc,turn5⟩:=turn i n zs H5 w5
  rcases turn5 with ⟨stop,qn⟩ | ⟨go,hlen,step⟩
  ·refine thn (T.done (bY X x ys scope h3.objs.size {s2 with heap:=h3} H3 fp) rfl rfl rfl hcalm i [] s5 _ H5 _ I5 (stat fr5) st5 stop) fun r s6 ⟨hr,I6⟩=>?_
   subst hr
   obtain ⟨m6,n6,_⟩:=I6.loc
   refine fin p h3.objs.size H5 s6 m6 (I3.call' I6.os I6.base I6.hok I6.bare fun b hb=>⟨(f2 b hb).2.2.2.1,(f2 b hb).2.1,(f2 b hb).2.2.2.2.1,(f2 b hb).2.2.2.2.2⟩) n6 I6.free (Nat.ne_of_gt hlt3) I3.sz (fun y c e=>Nat.ne_of_lt (hcell3 y c e)) (fun q hq=>?_) qn
   exact Nat.ne_of_lt (Heap.lt_size (I3.pin q hq).1)
  ·refine thn (T.item (bY X x ys scope h3.objs.size {s2 with heap:=h3} H3 fp) rfl rfl rfl hcalm i [] s5 _ H5 _ I5 (stat fr5) st5 go) fun r s6 ⟨u,hr,h6⟩=>?_
   subst hr
   refine thn h6 fun _ s7 ⟨xv,H7,I7,r7,y7,st7,fr7⟩=>?_
   have I7':=I7.pinned (stat fr7) (T.obj _ _ st7)
   refine thn (pgx _ s7 _ H7 xv u (fun Z' H'=>Z'=some xv::cS fr Z/\H'=H7) I7' r7 ⟨rfl,rfl⟩) fun _ s8 ⟨Z8,H8,I8,e8,e8'⟩=>?_
   subst e8 e8'
   refine thn (ptl _ s8 _ H8 _ I8 (step xv H8 y7)) fun bb s8' ⟨H8',I8',hb⟩=>?_
   cases bb with
   | false=>
    obtain ⟨m',hm',w9⟩:=hb
    refine ⟨m',hm',i+1,zs,some xv,_,I8'.unpinned,T.keep _ _ _ st7 fun b hb o e=>(I8'.pin (b,o) (List.mem_append_right _ (List.mem_append_right _ (cu hb e)))).1,fun b hb=>?_,w9⟩
    obtain ⟨o,e,d⟩:=T.obj _ _ st7 b hb
    exact (I8'.pin (b,o) (List.mem_append_right _ (List.mem_append_right _ (cu hb e)))).2.1
   | true=>
   refine thn (pel _ s8' _ H8' _ I8' hb) fun yv s9 ⟨v9,H9,I9,r9,hp9,m',hm',w9⟩=>?_
   refine thn (bM _ s9 _ H9 (.ref p) [v9] (.ref p) [yv] (fun _ H'=>H'=upd H9 p (.lst (zs++[v9]))) I9 rfl (.cons r9 .nil) ⟨p,zs,v9,rfl,rfl,hp9,hlen,rfl⟩) fun _ s10 ⟨_,H10,I10,_,e10⟩=>?_
   subst e10
   refine ⟨m',hm',i+1,zs++[v9],some xv,_,I10.unpinned,T.keep _ _ _ st7 fun b hb o e=>(I10.pin (b,o) (List.mem_append_right _ (List.mem_append_right _ (cu hb e)))).1,fun b hb=>?_,w9⟩
   obtain ⟨o,e,d⟩:=T.obj _ _ st7 b hb
   exact (I10.pin (b,o) (List.mem_append_right _ (List.mem_append_right _ (cu hb e)))).2.1
 exact codeAny_compStart_list loop (T.self X.A 0 _ _ _ (T.keep _ _ _ st3 fun b hb o e=>hold b o e) loop)
theorem om (hcalm:X.calm=true) (hi:PI X (.Name x px) iter wi) (hsc:X.env.scope=sc0) (hN:X.N=N0) (ok:il sc0 N0 scope x ys fr)
  (hT: ∀ C s H ex,PT (bY X x ys scope C s H ex) cnd tc) (hE: ∀ C s H ex,PE (bY X x ys scope C s H ex) elt te) (hs: ∀ v,foldedSetIterable iter X.env v=pure v:=by intro _;rfl):
  PE X (.ListComp elt [⟨.Name x px,iter,[cnd],0⟩] scope pos) (pq wi fr tc te):=by
 intro pins s Z H Q I h
 rw [eval_ListComp]
 refine ki (use:=none) (Qv:=EP X pins Z Q) (Q:=Q) hcalm hi hsc hN ok hT hE I h hs fun p C H' s' m I' hn h0 h1 h2 h3 h4 q=>?_
 refine ⟨m,hn,fun h' sb=>⟨.ref p,H',I'.turned (t':=s'.toks) (fun b o hb e=>sb.extBut b o hb e) h0 (Ne.symm (Ne.symm h1)) (.inr h2) h3 h4,rfl,q⟩⟩
theorem fZ {i:Nat} {y:Str} {py spos:Pos} (hcalm:X.calm=true) (hnd:X.N.Nodup) (hiN:X.N[i]? =some y) (hy:Loc X.env.scope y) (hi:PI X (.Name x px) iter wi) (hsc:X.env.scope=sc0) (hN:X.N=N0) (ok:il sc0 N0 scope x ys fr)
  (hT: ∀ C s H ex,PT (bY X x ys scope C s H ex) cnd tc) (hE: ∀ C s H ex,PE (bY X x ys scope C s H ex) elt te) (hsw:swapsWith (.ListComp elt [⟨.Name x px,iter,[cnd],0⟩] scope pos) (some (.Name y py)) spos.line X.env=pure true:=by rfl)
  (hs: ∀ v,foldedSetIterable iter X.env v=pure v:=by intro _;rfl) (hf:X.fn y=true\/X.env.scope.names.lookup y=some .local:=by first | exact .inl rfl | exact .inr rfl | assumption):
  PS X (.Assign [.Name y py] (.ListComp elt [⟨.Name x px,iter,[cnd],0⟩] scope pos) spos) (lZ (pq wi fr tc te) (gU i)):=by
 intro pins s Z H D I h
 rw [exec_Assign_Name_used _ _ _ _ hsw]
 refine wpAny_bind (wpAny_standAt (wpAny_bind ?_))
 show wpAny _ X.A (do let _ <- comprehension (.ListComp elt [⟨.Name x px,iter,[cnd],0⟩] scope pos) scope X.env _ (newList []) false (eval iter X.env) (some (assign (.Name y py) X.env))) _ _ s
 refine wpAny_bind (thn (ki (use:=some (assign (.Name y py) X.env)) (Qv:=fun _ s'=>SP X pins D .next s') (Q:=fun v H'=>D.nx (Z.set i (some v)) H') hcalm hi hsc hN ok hT hE I h hs fun p C H' s' m I' hn h0 h1 h2 h3 h4 q=>?_) fun _ s' hq=>wpAny_pure (wpAny_pure hq))
 show wpAny _ X.A (assign (.Name y py) X.env (.ref p)) _ _ s'
 refine wpAny_assign_Name (iQ (v:=.ref p) I' hnd hiN hy rfl (fun s'' I'' ⟨a,sb,ha⟩=>?_) hf)
 have hCa:C≠a:=by
  rcases ha with e | e
  ·rw [e];exact h1
  ·exact (h3 y a e).symm
 refine ⟨m,hn.sameBut sb hCa,fun h' sb'=>⟨_,H',I''.turned (t':=s''.toks) (fun b o hb e=>sb'.extBut b o hb e) h0 h1 (.inr h2) h3 h4,q⟩⟩
end
end L2
namespace My
open PySem L2
def top (i:Nat):Stmt:=PySem.Challenge.pw_boughworth_k44_steps_looked_at.main.body.getD i (.Pass ⟨0,0,0,0⟩)
abbrev pQ:Stmt:=top 3
abbrev mj:Stmt:=top 4
abbrev pL:Stmt:=top 5
abbrev jO:Stmt:=top 7
abbrev jS:Stmt:=top 8
abbrev fV:Stmt:=top 9
abbrev jQ:Stmt:=top 10
abbrev jP:Stmt:=top 11
abbrev jw:Stmt:=top 12
abbrev pP:Stmt:=top 13
abbrev ml:Stmt:=top 14
abbrev fY:Stmt:=top 16
abbrev gE:Stmt:=top 17
abbrev gH:Stmt:=top 18
abbrev ju:Stmt:=top 19
abbrev iY:Stmt:=top 20
abbrev dB:Stmt:=top 22
abbrev pM:Stmt:=top 23
abbrev pI:Stmt:=top 24
abbrev pJ:Stmt:=top 25
abbrev mi:Stmt:=top 26
abbrev mv:Stmt:=top 27
abbrev gY:Stmt:=top 28
abbrev uE:Stmt:=top 30
abbrev uB:Stmt:=top 31
abbrev pS:Stmt:=top 32
abbrev fX:Stmt:=top 33
abbrev mn:Stmt:=top 34
abbrev uD:Stmt:=top 35
abbrev fh:Stmt:=top 36
abbrev pK:Stmt:=top 37
abbrev fU:Stmt:=top 38
abbrev dW:Stmt:=top 39
abbrev pO:Stmt:=top 40
abbrev fJ:Stmt:=top 41
abbrev jR:Stmt:=top 42
abbrev mq:Stmt:=top 43
abbrev iZ:Stmt:=top 44
abbrev mr:Stmt:=top 45
abbrev pN:Stmt:=top 46
abbrev pR:Stmt:=top 47
abbrev fS:Stmt:=top 48
abbrev cX:Stmt:=top 49
abbrev my:Stmt:=top 50
abbrev gI:Stmt:=top 51
abbrev uC:Stmt:=top 52
abbrev jv:Stmt:=top 53
abbrev mh:Stmt:=top 54
abbrev nX:Stmt:=top 55
abbrev mw:Stmt:=top 56
abbrev iX:Stmt:=top 57
abbrev fW:Stmt:=top 58
abbrev fg:Stmt:=top 59
structure Gb (mg:Str->Option Value):Prop where
 isi:mg "isinstance"=none
 int:mg "int"=none
 bool:mg "bool"=none
 str:mg "str"=none
 tuple:mg "tuple"=none
 len:mg "len"=none
 all:mg "all"=none
 range:mg "range"=none
 max:mg "max"=none
 min:mg "min"=none
theorem af {H:Hp} {p:Addr} (h:H p=none) (o:HO):Same H (upd H p o):=fun b u q=>by rw [am (aj q h)];exact q
noncomputable def eA (k:Str):Option Nat:=if k∈ops then some 2 else if k="when" then some 3 else none
noncomputable def dA:List V->List V
 | .str k::r=>if (eA k).isSome then r else []
 | _=>[]
noncomputable def lI:List (Key×V):=[(.inr "plus",.int 2),(.inr "less",.int 2),(.inr "times",.int 2),(.inr "least",.int 2),(.inr "most",.int 2),(.inr "when",.int 3)]
theorem yV (k:Str):aW lI (.inr k)=(eA k).map fun (n:Nat)=>V.int n:=by
 unfold eA ops lI
 by_cases h1:k="plus"
 ·subst h1;decide +kernel
 by_cases h2:k="less"
 ·subst h2;decide +kernel
 by_cases h3:k="times"
 ·subst h3;decide +kernel
 by_cases h4:k="least"
 ·subst h4;decide +kernel
 by_cases h5:k="most"
 ·subst h5;decide +kernel
 by_cases h6:k="when"
 ·subst h6;decide +kernel
 have ne: ∀ {y:Str},¬ k=y-> ¬ (Sum.inr y:Key)=Sum.inr k:=fun h e=>h (Sum.inr.inj e).symm
 rw [bc (ne h1),bc (ne h2),bc (ne h3),bc (ne h4),bc (ne h5),bc (ne h6),ue,if_neg,if_neg h6]
 ·rfl
 ·simp only [List.mem_cons,List.not_mem_nil,or_false,not_or]
  exact ⟨h1,h2,h3,h4,h5⟩
theorem bi {α:Type} {x:α} {r:List α}:atI (x::r) 0=some x:=ar (j:=0) rfl
theorem AU {α:Type} {x y:α} {r:List α}:atI (x::y::r) 1=some y:=ar (j:=1) rfl
theorem AT {α:Type} {x y z:α} {r:List α}:atI (x::y::z::r) 2=some z:=ar (j:=2) rfl
def qZ:Sp:=fun vs H Q _=> ∃ a k r,vs=[.ref a]/\H a=some (.tup (.str k::r))/\r.length<=1000/\ ∀ p H',Same H H'->H' p=some (.tup (dA (.str k::r)))->Q (.ref p) H'
theorem wJ:aB ["formula"] ["formula"] (ag pQ):=fsc
theorem vo (F:Fun K "inner_of" "inner_of" pQ f fd) (mD:mg "INNER_COUNTS"=some (.ref aD)) (D:xH P w K aD lI):FnOk P w K mg base CX0 1 f fd ["formula"] qZ:=by
 refine F.ok wJ (fun vs H Q E h=>?_) (fun cdv A outer s H vs Q E hr h=>?_)
 ·obtain ⟨a,k,r,rfl,_⟩:=h
  rfl
 obtain ⟨a,k,r,rfl,ha,hl,q⟩:=h
 refine ⟨_,ai (ax (ga (aw yB (ao (r:=aC K) al (pv 0) ad (fun _ _=>rfl)) (rj (v:=.ref aD) rfl mD rfl) (by with_unfolding_all rfl)) (aN pG (pv 0) (aV ad) aZ) (aP ac))),?_⟩
 refine ⟨_,rfl,a,_,0,_,rfl,rfl,SqT.of ha,bi,.inr k,aD,lI,rfl,rfl,D,_,rfl,?_⟩
 have hv:=yV k
 cases hk:eA k with
 | none=>
  rw [hk]at hv
  refine cU (fun c=>?_) (fun c=>?_)
  ·rw [hv]at c
   exact absurd c (by decide)
  ·refine ⟨(by show 0<=sizeLine;decide),fun p hp=>?_⟩
   refine q p _ (af hp _) ?_
   rw [ab]
   show some (HO.tup [])=some (HO.tup (if (eA k).isSome=true then r else []))
   rw [hk]
   rfl
 | some n=>
  rw [hk]at hv
  refine cU (fun c=>?_) (fun c=>?_)
  ·refine ⟨_,rfl,1,rfl,a,_,rfl,SqT.of ha,?_,fun p hp=>?_⟩
   ·rintro ⟨h1,_⟩
    have:HT.sIx (V.str k::r).length 0 (some 1)=min 1 (V.str k::r).length:=HT.sIx_nat _ _ 1
    rw [this,List.length_cons]at h1
    lia
   ·refine q p _ (af hp _) ?_
    rw [ab]
    have e1:HT.sIx (V.str k::r).length 0 (some 1)=1:=by
     have:HT.sIx (V.str k::r).length 0 (some 1)=min 1 (V.str k::r).length:=HT.sIx_nat _ _ 1
     rw [this,List.length_cons]
     lia
    have e2:cW (V.str k::r) (some 1) none=r:=by
     unfold cW
     rw [e1,HT.sIx_none,List.length_cons,List.drop_one,List.tail_cons,Nat.add_sub_cancel,List.take_length]
    show some (HO.tup (cW (V.str k::r) (some 1) none))=some (HO.tup (if (eA k).isSome=true then r else []))
    rw [hk,e2]
    rfl
  ·rw [hv]at c
   exact absurd rfl c
def Kp (tp:Addr) (H H':Hp):Prop:= ∀ b o,H b=some o->b≠tp->H' b=some o
theorem Kp.refl {tp:Addr} {H:Hp}:Kp tp H H:=fun _ _ h _=>h
theorem Kp.trans {tp:Addr} {H H1 H2:Hp} (a:Kp tp H H1) (b:Kp tp H1 H2):Kp tp H H2:=fun c o h n=>b c o (a c o h n) n
theorem Kp.same {tp:Addr} {H H1 H2:Hp} (a:Kp tp H H1) (b:Same H1 H2):Kp tp H H2:=fun c o h n=>b c o (a c o h n)
theorem Kp.tape {tp:Addr} {H:Hp} {o:HO}:Kp tp H (upd H tp o):=fun b u h n=>by rw [am n];exact h
theorem Kp.new {tp p:Addr} {H H1:Hp} {o:HO} (a:Kp tp H H1) (h:H1 p=none):Kp tp H (upd H1 p o):=a.same (af h _)
def Tp (H:Hp) (tp:Addr):Prop:= ∃ t:Int,H tp=some (.lst [.int t])
theorem Kp.tk {tp:Addr} {H H':Hp} (a:Kp tp H H') (t:Tp H tp):TK H H':=fun b xs h=>a b _ h fun e=>by
 obtain ⟨t,ht⟩:=t
 subst e
 rw [ht]at h
 cases h
theorem Tp.new {H:Hp} {tp p:Addr} {o:HO} (t:Tp H tp) (h:H p=none):Tp (upd H p o) tp:=by
 obtain ⟨t,ht⟩:=t
 exact ⟨t,by rw [am (aj ht h)];exact ht⟩
inductive pE (K:W.Frag) (vs:List V) (H:Hp) (Q:VK) (E_:XK):Prop
 | mk: ∀ (a:Addr) (ns:List Int) (k:Int),(vs=[.ref a,.int k])->(SqL K H a (ns.map V.int))->(ns.length<=63)->(0<=k)->(∀ c:Int,Q (.int c) H)->pE K vs H Q E_
inductive iS (K:W.Frag) (vs:List V) (H:Hp) (Q:VK) (E_:XK):Prop
 | mk: ∀ (a:Addr) (ns:List Int) (k:Int),(vs=[.ref a,.int k])->(SqL K H a (ns.map V.int))->(ns.length<=63)->(0<=k)->(k<1000)->(∀ p t,H p=none->Q (.ref p) (upd H p (.lst [.int t])))->iS K vs H Q E_
inductive bo  (vs:List V) (H:Hp) (Q:VK) (E_:XK):Prop
 | mk: ∀ (tp:Addr) (m:Int),(vs=[.ref tp,.int m])->(Tp H tp)->(0<m)->(m<1073741824)->(∀ d t:Int,0<=d->d<m->Q (.int d) (upd H tp (.lst [.int t])))->bo vs H Q E_
inductive iw  (vs:List V) (H:Hp) (Q:VK) (E_:XK):Prop
 | mk: ∀ tp,(vs=[.ref tp])->(Tp H tp)->(∀ (n:Int) H',-999999<=n->n<=999999->Kp tp H H'->Tp H' tp->Q (.int n) H')->iw vs H Q E_
theorem yg:aB ["script","k"] ["script","k"] (ag uE):=fsc
theorem wV (F:Fun K "_law_cell_at" "_law_cell_at" uE f fd) (G:Gb mg):FnOk P w K mg base CX0 1 f fd ["script","k"] (pE K):=by
 refine F.ok yg (fun vs H Q E h=>?_) (fun cdv A outer s H vs Q E hr h=>?_)
 ·obtain ⟨a,ns,k,rfl,_⟩:=h
  rfl
 obtain ⟨a,ns,k,rfl,hS,hl,hk,q⟩:=h
 refine ⟨_,ae (aY (aw fK (pv 1) (aF (r:=de K) aA rfl G.len PySem.boot_len (aa (pv 0) ac)) (ay _)) (ai (ax (ao (r:=cI K) aS (pv 0) (pv 1) (fun _ _=>rfl)))) aK) (ai (ax ad)),?_⟩
 refine ⟨_,rfl,_,rfl,a,_,rfl,.inl hS,_,_,rfl,rfl,_,rfl,?_⟩
 refine cU (fun c=>?_) (fun c=>?_)
 ·have c':k< (((ns.map V.int).length:Nat):Int):=of_decide_eq_true c
  rw [List.length_map]at c'
  have hk':k.toNat<ns.length:=by lia
  have e:atI (ns.map V.int) k=some (V.int ns[k.toNat]):=by
   have ek:k=((k.toNat:Nat):Int):=by lia
   have q:atI (ns.map V.int) ((k.toNat:Nat):Int)=some (V.int ns[k.toNat]):=ar (by rw [List.getElem?_map,List.getElem?_eq_getElem hk'] <;> rfl)
   rw [<- ek]at q
   exact q
  exact ⟨_,rfl,_,rfl,a,_,k,_,rfl,rfl,hS,e,q _⟩
 ·exact q 0
theorem scTape:aB ["script","k","cell","p","one","two","three","four"] ["script","k"] (ag uB):=fsc
theorem wS (F:Fun K "_law_tape" "_law_tape" uB f fd) (GC:FnOk P w K mg base CX0 1 g gd ["script","k"] (pE K)) (bC:Binds K gd ["script","k"] []) (kC:W.keepIn K (.ref g)=true) (mC:mg "_law_cell_at"=some (.ref g)):
  FnOk P w K mg base CX0 2 f fd ["script","k"] (iS K):=by
 refine F.ok scTape (fun vs H Q E h=>?_) (fun cdv A outer s H vs Q E hr h=>?_)
 ·obtain ⟨a,ns,k,rfl,_⟩:=h
  rfl
 obtain ⟨a,ns,k,rfl,hS,hl,hk,hk2,q⟩:=h
 refine ⟨_,ae (aq (i:=2) scTape.nd rfl (Or.inl rfl) (ak GC hr rfl mC kC bC .nil av (aa (pv 0) (aa (pv 1) ac))))
  (ae (aY (aw bq (aE cM (pv 2) ad) ad (ay _)) (ai (ax (aU (aa (aE mY (pv 2) ad) ac)))) aK)
  (ae (aq (i:=3) scTape.nd rfl (Or.inl rfl) ad)
  (ae (aq (i:=4) scTape.nd rfl (Or.inl rfl) (aE cM (aE bf (aE bf (aE dF (aE cM (pv 2) (pv 3)) ad) (aE dF ad (pv 1))) ad) (pv 3)))
  (ae (aq (i:=5) scTape.nd rfl (Or.inl rfl) (aE cM (aE bf (aE bf (aE dF (pv 4) (pv 4)) (aE dF ad (pv 1))) (pv 4)) (pv 3)))
  (ae (aq (i:=6) scTape.nd rfl (Or.inl rfl) (aE cM (aE bf (aE dF (pv 5) (pv 5)) (pv 4)) (pv 3)))
  (ae (aq (i:=7) scTape.nd rfl (Or.inl rfl) (aE cM (aE bf (aE dF (pv 6) (pv 6)) (pv 5)) (pv 3)))
  (ai (ax (aU (aa (aE bf (aE dF (aE bf (aE dF (aE bf (aE dF (pv 4) (pv 3)) (pv 5)) (pv 3)) (pv 6)) (pv 3)) (pv 7)) ac)))))))))),?_⟩
 refine ⟨_,rfl,_,rfl,a,ns,k,rfl,hS,hl,hk,fun c=>?_⟩
 refine ⟨_,rfl,_,_,rfl,rfl,(by show (0:Int) <2;decide),rfl,_,rfl,?_⟩
 refine cU (fun _=>?_) (fun _=>?_)
 ·exact ⟨_,rfl,_,_,rfl,rfl,⟨by decide,by decide⟩,(by show 1<=sizeLine;decide),fun p hp=>q p _ hp⟩
 have hp0:(0:Int) <2305843009213693951:=by decide
 have mm: ∀ x:Int,-(2^64) <x%2305843009213693951/\x%2305843009213693951<2^64:=fun x=>by
  have h1:=Int.emod_nonneg x (show (2305843009213693951:Int)≠0 by decide)
  have h2:=Int.emod_lt_of_pos x hp0
  lia
 have hkk: -(2^64) <k/\k<2^64:=by lia
 have hpp:(-(2^64):Int) <2305843009213693951/\(2305843009213693951:Int) <2^64:=by decide
 refine ⟨_,rfl,_,rfl,_,_,rfl,rfl,hp0,_,_,rfl,rfl,.inl (mm _),_,rfl,_,_,rfl,rfl,.inr hkk,_,_,rfl,rfl,_,_,rfl,rfl,_,rfl,_,_,rfl,rfl,hp0,?_⟩
 refine ⟨_,rfl,_,rfl,_,_,rfl,rfl,.inl (mm _),_,rfl,_,_,rfl,rfl,.inr hkk,_,_,rfl,rfl,_,rfl,_,_,rfl,rfl,_,rfl,_,_,rfl,rfl,hp0,?_⟩
 refine ⟨_,rfl,_,rfl,_,_,rfl,rfl,.inl (mm _),_,rfl,_,_,rfl,rfl,_,rfl,_,_,rfl,rfl,hp0,?_⟩
 refine ⟨_,rfl,_,rfl,_,_,rfl,rfl,.inl (mm _),_,rfl,_,_,rfl,rfl,_,rfl,_,_,rfl,rfl,hp0,?_⟩
 refine ⟨_,rfl,_,rfl,_,_,rfl,rfl,.inr hpp,_,rfl,_,_,rfl,rfl,_,rfl,_,_,rfl,rfl,.inr hpp,_,rfl,_,_,rfl,rfl,_,rfl,_,_,rfl,rfl,.inr hpp,_,rfl,_,_,rfl,rfl,(by show 1<=sizeLine;decide),fun p hp=>q p _ hp⟩
theorem scDigit:aB ["tape","many","found"] ["tape","many"] (ag pS):=fsc
theorem vq (F:Fun K "_law_digit" "_law_digit" pS f fd):FnOk P w K mg base CX0 1 f fd ["tape","many"] bo:=by
 refine F.ok scDigit (fun vs H Q E h=>?_) (fun cdv A outer s H vs Q E hr h=>?_)
 ·obtain ⟨tp,m,rfl,_⟩:=h
  rfl
 obtain ⟨tp,m,rfl,⟨t,ht⟩,hm,hm2,q⟩:=h
 refine ⟨_,ae (aq (i:=2) scDigit.nd rfl (Or.inl rfl) (aE cM (ao (r:=cI K) aS (pv 0) ad (fun _ _=>rfl)) (pv 1)))
  (ae (pV (aE mY (ao (r:=cI K) aS (pv 0) ad (fun _ _=>rfl)) (pv 1)) (yp (pv 0) ad uu))
  (ai (ax (pv 2)))),?_⟩
 refine ⟨_,rfl,tp,_,0,_,rfl,rfl,SqL.of ht,bi,_,rfl,_,_,rfl,rfl,hm,?_⟩
 refine ⟨_,rfl,tp,_,0,_,rfl,rfl,SqL.of ht,bi,_,rfl,_,_,rfl,rfl,⟨hm,hm2⟩,?_⟩
 refine ⟨_,rfl,tp,_,0,0,rfl,rfl,ht,rfl,?_⟩
 exact ⟨_,rfl,q (t%m) (t/m) (Int.emod_nonneg _ (by lia)) (Int.emod_lt_of_pos _ hm)⟩
theorem scNumber:aB ["tape","way"] ["tape"] (ag mn):=fsc
theorem sN (F:Fun K "_law_number" "_law_number" mn f fd) (GD:FnOk P w K mg base CX0 1 g gd ["tape","many"] bo) (bD:Binds K gd ["tape","many"] []) (kD:W.keepIn K (.ref g)=true) (mD:mg "_law_digit"=some (.ref g)):
  FnOk P w K mg base CX0 2 f fd ["tape"] iw:=by
 refine F.ok scNumber (fun vs H Q E h=>?_) (fun cdv A outer s H vs Q E hr h=>?_)
 ·obtain ⟨tp,rfl,_⟩:=h
  rfl
 obtain ⟨tp,rfl,hT,q⟩:=h
 refine ⟨_,ae (aq (i:=1) scNumber.nd rfl (Or.inl rfl) (ak GD hr rfl mD kD bD .nil av (aa (pv 0) (aa ad ac))))
  (ae (aY (aw fK (pv 1) ad (ay _)) (ai (ax (pv 1))) aK)
  (ai (ax (ao (r:=cI K) aS (aU (aa (dY c7 ad) (aa (aE fD (ak GD hr rfl mD kD bD .nil av (aa (pv 0) (aa ad ac))) ad)
   (aa (aE fD (ak GD hr rfl mD kD bD .nil av (aa (pv 0) (aa ad ac))) ad) ac)))) (aE fD (pv 1) ad) (fun _ _=>rfl))))),?_⟩
 refine ⟨_,rfl,tp,6,rfl,hT,by decide,by decide,fun d t h0 h1=>?_⟩
 refine ⟨_,rfl,_,_,rfl,rfl,_,rfl,?_⟩
 refine cU (fun c=>?_) (fun c=>?_)
 ·exact ⟨_,rfl,q d _ (by lia) (by lia) Kp.tape ⟨t,ab⟩⟩
 have c':3<=d:=by
  rcases Int.lt_or_le d 3 with z | z
  ·exact absurd (decide_eq_true z) c
  ·exact z
 refine ⟨_,rfl,_,rfl,tp,1001,rfl,⟨t,ab⟩,by decide,by decide,fun d2 t2 h20 h21=>?_⟩
 refine ⟨_,_,rfl,rfl,_,rfl,tp,1999999,rfl,⟨t2,ab⟩,by decide,by decide,fun d3 t3 h30 h31=>?_⟩
 refine ⟨_,_,rfl,rfl,(by show 3<=sizeLine;decide),fun p hp=>?_⟩
 rw [eJ,eJ]at hp ⊢
 have hd:d=3\/d=4\/d=5:=by lia
 have fin: ∀ n:Int,-999999<=n->n<=999999->Q (.int n) (upd (upd H tp (.lst [.int t3])) p (.lst [.int (-1),.int (d2-500),.int (d3-999999)])):=fun n h1 h2=>
  q n _ h1 h2 (Kp.tape.new hp) (Tp.new ⟨t3,ab⟩ hp)
 rcases hd with rfl | rfl | rfl
 ·exact ⟨_,rfl,_,_,rfl,rfl,p,_,0,_,rfl,rfl,SqL.of ab,bi,fin _ (by lia) (by lia)⟩
 ·exact ⟨_,rfl,_,_,rfl,rfl,p,_,1,_,rfl,rfl,SqL.of ab,AU,fin _ (by lia) (by lia)⟩
 ·exact ⟨_,rfl,_,_,rfl,rfl,p,_,2,_,rfl,rfl,SqL.of ab,AT,fin _ (by lia) (by lia)⟩
theorem sI {k:Str} (h:k∈ops):k.length<=1000:=by
 unfold ops at h
 simp only [List.mem_cons,List.not_mem_nil,or_false]at h
 rcases h with rfl | rfl | rfl | rfl | rfl <;> decide +kernel
theorem fu {x:Str} (h:cQ x=true):x.length<=1000:=by
 unfold cQ at h
 simp only [Bool.and_eq_true,decide_eq_true_eq]at h
 lia
theorem tN {op:Str} (h:op∈ops):eA op=some 2:=by unfold eA;rw [if_pos h]
theorem qm:eA "when"=some 3:=by decide +kernel
theorem tO:eA "num"=none:=by decide +kernel
theorem lH:eA "own"=none:=by decide +kernel
theorem j9:eA "part"=none:=by decide +kernel
theorem eY {α:Type} {xs:List α} {d:Int} (h0:0<=d) (h1:d<xs.length): ∃ x,atI xs d=some x/\xs[d.toNat]? =some x:=by
 have hk:d.toNat<xs.length:=by lia
 have ek:d=((d.toNat:Nat):Int):=by lia
 have q:atI xs ((d.toNat:Nat):Int)=some xs[d.toNat]:=ar (List.getElem?_eq_getElem hk)
 rw [<- ek]at q
 exact ⟨_,q,List.getElem?_eq_getElem hk⟩
theorem lc (z:Str) {j:Int} (h0:0<=j) (h1:j<=z.length):((Txt.slice z none (some j)).length:Int)=j:=by
 rcases PyProof.Rows.slice_ns_cases z j h0 with ⟨_,h⟩ | ⟨h,_⟩
 ·exact h
 ·lia
noncomputable def letters:Str:="abcdefghijklmnopqrstuvwxyz"
theorem oH:letters.cps.toList.all xc=true:=by decide +kernel
theorem jn:letters.length=26:=by decide +kernel
theorem tH {d:Int} (h0:0<=d) (h1:d<26): ∃ c,atI letters.cps.toList d=some c/\xc c=true:=by
 have hl:letters.cps.toList.length=26:=by decide +kernel
 obtain ⟨c,e,e2⟩:=eY (xs:=letters.cps.toList) h0 (by rw [hl];lia)
 exact ⟨c,e,List.all_eq_true.mp oH c (List.mem_of_getElem? e2)⟩
theorem xB (x y:Str):(x++y).length=x.length+y.length:=by
 show (x.cps++y.cps).size=_
 rw [Array.size_append]
 rfl
def names13:List Str:=["own","up","down","min","max","of","top","form","sort","wheel","book","tree","ok"]
theorem aneq:(Txt.slice "aneqoubi" none (some 7)).length=7/\(Txt.slice "aneqoubi" none (some 7)).cps.toList.all xc=true:=by decide +kernel
theorem rF:("eyzmopq":Str).length=7:=by decide +kernel
theorem Tp.same {H H':Hp} {tp:Addr} (t:Tp H tp) (s:Same H H'):Tp H' tp:=by
 obtain ⟨t0,e⟩:=t
 exact ⟨t0,s _ _ e⟩
noncomputable def oI (d:Int):Nat:=(atI letters.cps.toList d).getD 0
noncomputable def fw (tu:Int):Str:=(⟨#[oI tu]⟩:Str)++Txt.slice "aneqoubi" none (some 7)
noncomputable def nm0 (tu:Int) (i:Nat):Str:=if (0+ (i:Int)) <8 then Txt.slice (fw tu) none (some (0+ (i:Int) +1))else (⟨#[oI ((tu+1) %26)]⟩:Str)++Txt.slice (fw tu) none (some (0+ (i:Int) -8))
noncomputable def nm1 (tu:Int) (i:Nat):Str:=((names13)[((tu+ (0+ (i:Int))) %13).toNat]?).getD ""
noncomputable def nm2 (tu:Int) (i:Nat):Str:=(⟨#[oI ((tu+ (0+ (i:Int))) %26)]⟩:Str)++Txt.slice "eyzmopq" none (some ((tu+3* (0+ (i:Int))) %8))
noncomputable def kx (way:Nat) (tu:Int) (i:Nat):Str:=if way=0 then nm0 tu i else if way=1 then nm1 tu i else nm2 tu i
def NamesAre (m:Nat) (ws:List Str):Prop:= ∃ (way tu:Nat) (back:Bool),way<3/\tu<26/\ws=(if back=true then ((List.range m).map (kx way tu)).reverse else (List.range m).map (kx way tu))
inductive iy  (vs:List V) (H:Hp) (Q:VK) (E_:XK):Prop
 | mk: ∀ tp m,(vs=[.ref tp,.int m])->(Tp H tp)->(0<=m)->(m<=13)->(∀ l (ws:List Str) H',H' l=some (.lst (ws.map V.str))->(ws.length:Int)=m->NamesAre m.toNat ws->l≠tp->Kp tp H H'->Tp H' tp->Q (.ref l) H')->iy vs H Q E_
theorem nh {d:Int} (h0:0<=d) (h1:d<26):atI letters.cps.toList d=some (oI d):=by
 obtain ⟨c,e,_⟩:=tH h0 h1
 unfold oI
 rw [e]
 rfl
theorem um (tu:Int):(fw tu).length=8:=by unfold fw;rw [xB,aneq.1];rfl
theorem scNamesX:aB ["tape","many","letters","way","turn","back","stem","names","words"] ["tape","many"] (ag fX):=fsc
theorem sP (F:Fun K "_law_names" "_law_names" fX f fd) (G:Gb mg) (GD:FnOk P w K mg base CX0 1 g gd ["tape","many"] bo) (bD:Binds K gd ["tape","many"] []) (kD:W.keepIn K (.ref g)=true) (mD:mg "_law_digit"=some (.ref g)):
  FnOk P w K mg base CX0 2 f fd ["tape","many"] iy:=by
 refine F.ok scNamesX (fun vs H Q E h=>?_) (fun cdv A outer s H vs Q E hr h=>?_)
 ·obtain ⟨tp,m,rfl,_⟩:=h
  rfl
 obtain ⟨tp,m,rfl,hT,hm0,hm1,q⟩:=h
 obtain ⟨t,ht,hread⟩: ∃ t,PSs (cV CX0 P w K mg base ["tape","many","letters","way","turn","back","stem","names","words"] "_law_names" (ag fX) f cdv A outer s H E).nox ((bV fX).drop 5) t/\
   ∀ (b:Int) (l:Addr) (way tu:Nat) (H2:Hp) (o2 o3 o4 o6 o8:Option V),(b=1\/b= -1)->way<3->tu<26->H2 l=some (.lst (((List.range m.toNat).map (kx way tu)).map V.str))->Kp tp H H2->Tp H2 tp->
    t {nx:=fun _ H'=>Q .non H',rt:=Q} [some (.ref tp),some (.int m),o2,o3,o4,some (.int b),o6,some (.ref l),o8] H2:=by
  refine ⟨_,ai (ax (mX (pv 7) (pv 5))),fun b l way tu H2 o2 o3 o4 o6 o8 hb hw1 hw2 hl k2 t2=>?_⟩
  have hlen:(((List.range m.toNat).map (kx way tu)).length:Int)=m:=by rw [List.length_map,List.length_range];lia
  refine ⟨_,rfl,_,rfl,l,_,b,rfl,rfl,SqL.of hl,by lia,fun p hp=>?_⟩
  have hpt:p≠tp:=fun e=>by
   obtain ⟨t0,e0⟩:=t2
   subst e
   rw [e0]at hp
   cases hp
  rcases hb with rfl | rfl
  ·rw [rY]
   exact q p _ _ ab hlen ⟨way,tu,false,hw1,hw2,rfl⟩ hpt (k2.new hp) (t2.new hp)
  ·rw [iR,<- List.map_reverse]
   exact q p _ _ ab (by rw [List.length_reverse];exact hlen) ⟨way,tu,true,hw1,hw2,rfl⟩ hpt (k2.new hp) (t2.new hp)
 have cw: ∀ {te:TE} {fr:List Nat} {Z:St} {H2:Hp} {Q2:VK} (g:Nat->Str),(∀ (i:Nat) (H3:Hp) (k:VK),(i:Int) <m->k (.str (g i)) H3->te (some (.int (0+i))::cS fr Z) H3 k)->
   (∀ p,H2 p=none->Q2 (.ref p) (upd H2 p (.lst (((List.range m.toNat).map g).map V.str))))->iP fr te Z (Itr 0 m.toNat) H2 Q2:=by
  intro te fr Z H2 Q2 g hs hd
  refine gQ (n:=m.toNat) (R:=fun i v=>v=.int (0+i)) (by lia) nk iF jy
   (fun p i zs H'=>H'=upd H2 p (.lst zs)/\zs=((List.range i).map g).map V.str) (fun p hp=>⟨rfl,rfl⟩) ?_ ?_ ?_
  ·rintro p i zs H' ⟨rfl,rfl⟩
   exact ⟨ab,by rw [List.length_map,List.length_map,List.length_range]⟩
  ·rintro p i zs H' v k hp hi rfl ⟨rfl,rfl⟩ hk
   exact hs i _ k (by lia) (hk (.str (g i)) _ ab ⟨eJ,by rw [List.range_succ];simp⟩)
  ·rintro p zs H' hp ⟨rfl,rfl⟩
   exact hd p hp
 refine ⟨_,ae (aq (i:=2) scNamesX.nd rfl (Or.inr rfl) aX)
  (ae (aq (i:=3) scNamesX.nd rfl (Or.inl rfl) (ak GD hr rfl mD kD bD .nil av (aa (pv 0) (aa ad ac))))
  (ae (aq (i:=4) scNamesX.nd rfl (Or.inr rfl) (ak GD hr rfl mD kD bD .nil av (aa (pv 0) (aa ad ac))))
  (ae (aq (i:=5) scNamesX.nd rfl (Or.inl rfl) (aE fD ad (aE dF ad (ak GD hr rfl mD kD bD .nil av (aa (pv 0) (aa ad ac))))))
  (ae (aY (aw bq (pv 3) ad (ay _))
   (ae (aq (i:=6) scNamesX.nd rfl (Or.inr rfl) (aE ic (ao qk (pv 2) (pv 4) (fun _ _=>rfl)) (aN me aX aZ (aV ad))))
   (ai (eN (i:=7) (sc0:=ag fX) (N0:=["tape","many","letters","way","turn","back","stem","names","words"]) (ys:=["letters","stem","turn"]) (fr:=[2,6,4]) rfl scNamesX.nd rfl (Or.inl rfl) (br rfl G.range (aa (pv 1) ac)) rfl rfl
    cok
    (fun C s H ex=>ga (aw fK (pv 0) ad (ay _)) (aN me (pv 2) aZ (aV (aE bf (pv 0) ad)))
     (aE ic (ao qk (pv 1) (aE cM (aE bf (pv 3) ad) ad) (fun _ _=>rfl)) (aN me (pv 2) aZ (aV (aE fD (pv 0) ad))))))))
   (ai (aY (aw bq (pv 3) ad (ay _))
    (@ae _ _ _ _ _ (@wM _ 8 _ _ (names13.map V.str) _ _ _ scNamesX.nd rfl (Or.inr rfl) (Or.inl rfl) rfl)
    (ai (eN (i:=7) (sc0:=ag fX) (N0:=["tape","many","letters","way","turn","back","stem","names","words"]) (ys:=["turn","words"]) (fr:=[4,8]) rfl scNamesX.nd rfl (Or.inl rfl) (br rfl G.range (aa (pv 1) ac)) rfl rfl
     cok
     (fun C s H ex=>ao (r:=cI K) aS (pv 2) (aE cM (aE bf (pv 1) (pv 0)) ad) (fun _ _=>rfl)))))
    (ai (eN (i:=7) (sc0:=ag fX) (N0:=["tape","many","letters","way","turn","back","stem","names","words"]) (ys:=["letters","turn"]) (fr:=[2,4]) rfl scNamesX.nd rfl (Or.inl rfl) (br rfl G.range (aa (pv 1) ac)) rfl rfl
     cok
     (fun C s H ex=>aE ic (ao qk (pv 1) (aE cM (aE bf (pv 2) (pv 0)) ad) (fun _ _=>rfl)) (aN me aX aZ (aV (aE cM (aE bf (pv 2) (aE dF ad (pv 0))) ad)))))))))
  ht)))),?_⟩
 refine ⟨_,rfl,tp,3,rfl,hT,by decide,by decide,fun wy t1 hw0 hw1=>?_⟩
 refine ⟨_,rfl,tp,26,rfl,⟨t1,ab⟩,by decide,by decide,fun tu t2 htu0 htu1=>?_⟩
 rw [eJ]
 refine ⟨_,rfl,tp,2,rfl,⟨t2,ab⟩,by decide,by decide,fun bk t3 hb0 hb1=>?_⟩
 rw [eJ]
 refine ⟨2,_,rfl,rfl,.inl ⟨by decide,by decide⟩,1,_,rfl,rfl,?_⟩
 have hb:(1-2*bk=1\/1-2*bk= -1):=by lia
 have k3:Kp tp H (upd H tp (.lst [.int t3])):=Kp.tape
 have tt3:Tp (upd H tp (.lst [.int t3])) tp:=⟨t3,ab⟩
 generalize upd H tp (.lst [.int t3])=H3 at k3 tt3 ⊢
 have l26:(letters.length:Int)=26:=by rw [jn];rfl
 have lsz:letters.length<=sizeLine:=by rw [jn];exact Nat.le_of_lt (aG (by decide))
 refine ⟨_,rfl,rfl,_,rfl,?_⟩
 refine cU (fun c=>?_) (fun c=>?_)
 ·-- stems
  have hwy:wy=0:=V.int.inj (of_decide_eq_true c)
  have ec0:=nh htu0 htu1
  refine ⟨_,rfl,_,rfl,letters,tu,oI tu,rfl,rfl,lsz,ec0,7,rfl,"aneqoubi",rfl,(by decide +kernel),_,_,rfl,rfl,?_,?_⟩
  ·rw [aneq.1]
   show 1+7<=sizeLine
   exact Nat.le_of_lt (aG (by decide))
  have zl:=um tu
  have zsz:(fw tu).length<=sizeLine:=by rw [zl];exact Nat.le_of_lt (aG (by decide))
  refine ⟨_,rfl,m,rfl,by lia,by lia,?_⟩
  refine cw (nm0 tu) ?_ ?_
  ·intro i H4 k hi hk
   refine ⟨_,rfl,_,_,rfl,rfl,_,rfl,?_⟩
   refine cU (fun ci=>?_) (fun ci=>?_)
   ·have ci':(0+ (i:Int)) <8:=of_decide_eq_true ci
    refine ⟨_,rfl,_,rfl,_,_,rfl,rfl,_,rfl,fw tu,rfl,zsz,?_⟩
    unfold nm0 at hk
    rw [if_pos ci']at hk
    exact hk
   ·have ci': ¬ (0+ (i:Int)) <8:=fun y=>ci (decide_eq_true y)
    have ec1:=nh (d:=(tu+1) %26) (Int.emod_nonneg _ (by decide)) (Int.emod_lt_of_pos _ (by decide))
    have e:=lc (fw tu) (j:=0+ (i:Int) -8) (by lia) (by rw [zl];lia)
    unfold nm0 at hk
    rw [if_neg ci']at hk
    refine ⟨_,rfl,_,rfl,_,_,rfl,rfl,_,_,rfl,rfl,(by show (0:Int) <26;decide),letters,_,oI ((tu+1) %26),rfl,rfl,lsz,ec1,_,rfl,_,rfl,_,_,rfl,rfl,_,rfl,fw tu,rfl,zsz,_,_,rfl,rfl,?_,hk⟩
    show 1+ (Txt.slice (fw tu) none (some (0+ (i:Int) -8))).length<=sizeLine
    exact Nat.le_of_lt (aG (by lia))
  ·intro p hp
   have etu:((tu.toNat:Nat):Int)=tu:=by lia
   refine hread (1-2*bk) p 0 tu.toNat _ _ _ _ _ _ hb (by decide) (by lia) ?_ (k3.new hp) (tt3.new hp)
   rw [etu]
   exact ab
 ·refine ⟨_,rfl,rfl,_,rfl,?_⟩
  refine cU (fun c2=>?_) (fun c2=>?_)
  ·-- written words
   refine ⟨(by show 13<=sizeLine;decide),fun pw hpw=>?_⟩
   refine ⟨_,rfl,m,rfl,by lia,by lia,?_⟩
   have s4:Same H3 (upd H3 pw (.lst (names13.map V.str))):=af hpw _
   have g4:(upd H3 pw (.lst (names13.map V.str))) pw=some (.lst (names13.map V.str)):=ab
   have k4:Kp tp H (upd H3 pw (.lst (names13.map V.str))):=k3.same s4
   have tt4:Tp (upd H3 pw (.lst (names13.map V.str))) tp:=tt3.new hpw
   generalize upd H3 pw (.lst (names13.map V.str))=H4 at s4 g4 k4 tt4 ⊢
   refine gQ (n:=m.toNat) (R:=fun i v=>v=.int (0+i)) (by lia) nk iF jy
    (fun p i zs H'=>H'=upd H4 p (.lst zs)/\H4 p=none/\zs=((List.range i).map (nm1 tu)).map V.str) (fun p hp=>⟨rfl,hp,rfl⟩) ?_ ?_ ?_
   ·rintro p i zs H' ⟨rfl,_,rfl⟩
    exact ⟨ab,by rw [List.length_map,List.length_map,List.length_range]⟩
   ·rintro p i zs H' v k hp hi rfl ⟨rfl,hp4,rfl⟩ hk
    have h1:=Int.emod_nonneg (tu+ (0+ (i:Int))) (show (13:Int)≠0 by decide)
    have h2:=Int.emod_lt_of_pos (tu+ (0+ (i:Int))) (show (0:Int) <13 by decide)
    obtain ⟨xv,ex,ex2⟩:=eY (xs:=names13.map V.str) h1 (by rw [List.length_map];exact h2)
    have exv:xv=.str (nm1 tu i):=by
     rw [List.getElem?_map]at ex2
     unfold nm1
     cases hx:names13[((tu+ (0+ (i:Int))) %13).toNat]? with
     | none=>rw [hx]at ex2;cases ex2
     | some y=>rw [hx]at ex2;exact (Option.some.inj ex2).symm
    subst exv
    have g5:(upd H4 p (.lst (((List.range i).map (nm1 tu)).map V.str))) pw=some (.lst (names13.map V.str)):=by rw [am (aj g4 hp4)];exact g4
    refine ⟨_,rfl,_,rfl,_,rfl,_,_,rfl,rfl,_,_,rfl,rfl,(by show (0:Int) <13;decide),pw,_,_,_,rfl,rfl,SqL.of g5,ex,?_⟩
    exact hk _ _ ab ⟨eJ,hp4,by rw [List.range_succ];simp⟩
   ·rintro p zs H' hp ⟨rfl,hp4,rfl⟩
    have etu:((tu.toNat:Nat):Int)=tu:=by lia
    refine hread (1-2*bk) p 1 tu.toNat _ _ _ _ _ _ hb (by decide) (by lia) ?_ (k4.new hp4) (tt4.new hp4)
    rw [etu]
    exact ab
  ·-- a letter and a tail
   refine ⟨_,rfl,m,rfl,by lia,by lia,?_⟩
   refine cw (nm2 tu) ?_ ?_
   ·intro i H4 k hi hk
    have ec1:=nh (d:=(tu+ (0+ (i:Int))) %26) (Int.emod_nonneg _ (by decide)) (Int.emod_lt_of_pos _ (by decide))
    have h1:=Int.emod_nonneg (tu+3* (0+ (i:Int))) (show (8:Int)≠0 by decide)
    have h2:=Int.emod_lt_of_pos (tu+3* (0+ (i:Int))) (show (0:Int) <8 by decide)
    have e:=lc "eyzmopq" (j:=(tu+3* (0+ (i:Int))) %8) h1 (by rw [rF];lia)
    refine ⟨_,rfl,_,rfl,_,rfl,_,_,rfl,rfl,_,_,rfl,rfl,(by show (0:Int) <26;decide),letters,_,oI ((tu+ (0+ (i:Int))) %26),rfl,rfl,lsz,ec1,_,rfl,_,rfl,3,_,rfl,rfl,.inl ⟨by decide,by decide⟩,_,_,rfl,rfl,_,_,rfl,rfl,(by show (0:Int) <8;decide),_,rfl,"eyzmopq",rfl,(by rw [rF];exact Nat.le_of_lt (aG (by decide))),_,_,rfl,rfl,?_,hk⟩
    ·show 1+ (Txt.slice "eyzmopq" none (some ((tu+3* (0+ (i:Int))) %8))).length<=sizeLine
     exact Nat.le_of_lt (aG (by lia))
   ·intro p hp
    have etu:((tu.toNat:Nat):Int)=tu:=by lia
    refine hread (1-2*bk) p 2 tu.toNat _ _ _ _ _ _ hb (by decide) (by lia) ?_ (k3.new hp) (tt3.new hp)
    rw [etu]
    exact ab
theorem gm (xs:List V) {j:Int} (h0:0<=j) (h1:j<=xs.length):cW xs none (some j)=xs.take j.toNat:=by
 have ej:j=((j.toNat:Nat):Int):=by lia
 have e:HT.sIx xs.length xs.length (some j)=j.toNat:=by
  rw [ej,HT.sIx_nat]
  lia
 unfold cW
 rw [e,HT.sIx_none,List.drop_zero,Nat.sub_zero]
theorem kg (xs:List V) {j:Int} (h0:0<=j) (h1:j<=xs.length):cW xs (some j) none=xs.drop j.toNat:=by
 have ej:j=((j.toNat:Nat):Int):=by lia
 have e:HT.sIx xs.length 0 (some j)=j.toNat:=by
  rw [ej,HT.sIx_nat]
  lia
 unfold cW
 rw [e,HT.sIx_none]
 apply List.take_of_length_le
 rw [List.length_drop]
 lia
theorem yc {xs:List V} {j:Nat} (h:j+2<=xs.length): ∃ a x y b,xs=a++x::y::b/\a.length=j/\xs.take j=a/\xs.drop (j+2)=b:=by
 refine ⟨xs.take j,xs[j],xs[j+1],xs.drop (j+2),?_,by rw [List.length_take];lia,rfl,rfl⟩
 rw [<- List.drop_eq_getElem_cons (by lia),<- List.drop_eq_getElem_cons (by lia),List.take_append_drop]
theorem ya {xs:List V} {j:Nat} (h:j+3<=xs.length): ∃ a x y z b,xs=a++x::y::z::b/\a.length=j/\xs.take j=a/\xs.drop (j+3)=b:=by
 refine ⟨xs.take j,xs[j],xs[j+1],xs[j+2],xs.drop (j+3),?_,by rw [List.length_take];lia,rfl,rfl⟩
 rw [<- List.drop_eq_getElem_cons (by lia),<- List.drop_eq_getElem_cons (by lia),<- List.drop_eq_getElem_cons (by lia),List.take_append_drop]
theorem kn {a b:List V} {x:V} {d:Int} (h:d=(a.length:Int)):atI (a++x::b) d=some x:=by
 subst h
 exact ar (by rw [List.getElem?_append_right (Nat.le_refl _),Nat.sub_self];rfl)
theorem zA {A B R:Prop} {c1 c2:Bool} (hr:(if c2=true then A else B)->R) (h1:c1=true->c2=true->A) (h2: ¬ (c1=true/\c2=true)->B):if c1=true then R else (if false=true then A else B):=by
 cases c1 with
 | true=>
  rw [if_pos rfl]
  apply hr
  cases c2 with
  | true=>rw [if_pos rfl];exact h1 rfl rfl
  | false=>exact bh (h2 fun z=>Bool.false_ne_true z.2)
 | false=>exact bh (bh (h2 fun z=>Bool.false_ne_true z.1))
noncomputable def Fm.wfp (ρ:Fm->Prop):Fm->Prop
 | .num n=> -999999<=n/\n<=999999
 | .own x=>cQ x=true/\ρ (.own x)
 | .part k x=>((0<=k/\k<=2)/\cQ x=true)/\ρ (.part k x)
 | .bin op a b=>op∈ops/\a.wfp ρ/\b.wfp ρ
 | .whn a b c=>a.wfp ρ/\b.wfp ρ/\c.wfp ρ
theorem Fm.wfp.wf {ρ:Fm->Prop}: ∀ {f:Fm},f.wfp ρ->f.wf
 | .num _,h=>h
 | .own _,h=>h.1
 | .part _ _,h=>h.1
 | .bin _ _ _,h=>⟨h.1,Fm.wfp.wf h.2.1,Fm.wfp.wf h.2.2⟩
 | .whn _ _ _,h=>⟨Fm.wfp.wf h.1,Fm.wfp.wf h.2.1,Fm.wfp.wf h.2.2⟩
inductive FsP (ρ:Fm->Prop) (H:Hp):List V->Nat->Prop where
 | nil:FsP ρ H [] 0
 | cons {v:V} {f:Fm} {vs:List V} {n:Nat}:Rep H f v->f.wfp ρ->FsP ρ H vs n->FsP ρ H (v::vs) (f.size+n)
theorem FsP.append {ρ:Fm->Prop} {H:Hp} {xs ys:List V} {m n:Nat} (a:FsP ρ H xs m) (b:FsP ρ H ys n):FsP ρ H (xs++ys) (m+n):=by
 induction a with
 | nil=>rw [Nat.zero_add];exact b
 | cons r w _ ih=>rw [Nat.add_assoc];exact .cons r w ih
theorem FsP.split {ρ:Fm->Prop} {H:Hp}: ∀ {xs ys:List V} {n:Nat},FsP ρ H (xs++ys) n-> ∃ a b,FsP ρ H xs a/\FsP ρ H ys b/\n=a+b
 | [],ys,n,h=>⟨0,n,.nil,h,by lia⟩
 | x::r,ys,n,h=>by
  cases h with
  | cons rp wf t=>
   obtain ⟨a,b,h1,h2,e⟩:=FsP.split t
   exact ⟨_,b,.cons rp wf h1,h2,by lia⟩
theorem FsP.mono {ρ:Fm->Prop} {H H':Hp} (t:TK H H') {xs:List V} {n:Nat} (h:FsP ρ H xs n):FsP ρ H' xs n:=by
 induction h with
 | nil=>exact .nil
 | cons r w _ ih=>exact .cons (r.mono t) w ih
def LvsP (ρ:Fm->Prop) (H:Hp) (rs:List V):Prop:= ∀ v∈rs,∃ f,Rep H f v/\f.wfp ρ/\f.size=1
theorem LvsP.mono {ρ:Fm->Prop} {H H':Hp} (t:TK H H') {rs:List V} (h:LvsP ρ H rs):LvsP ρ H' rs:=fun v hv=>by
 obtain ⟨f,r,w,s⟩:=h v hv
 exact ⟨f,r.mono t,w,s⟩
inductive l8 (ρ:Fm->Prop) (vs:List V) (H:Hp) (Q:VK) (E_:XK):Prop
 | mk: ∀ tp rl rs,(vs=[.ref tp,.ref rl])->(Tp H tp)->(rl≠tp)->(H rl=some (.lst rs))->(rs.length<=1000)->(LvsP ρ H rs)->(∀ v f H',Rep H' f v->f.wfp ρ->f.size=1->Kp tp H H'->Tp H' tp->Q v H')->l8 ρ vs H Q E_
inductive fz (ρ:Fm->Prop) (vs:List V) (H:Hp) (Q:VK) (E_:XK):Prop
 | mk: ∀ tp rl rs,(vs=[.ref tp,.ref rl])->(Tp H tp)->(rl≠tp)->(H rl=some (.lst rs))->(rs.length<=1000)->(LvsP ρ H rs)->(∀ v f H',Rep H' f v->f.wfp ρ->f.size<=15->Kp tp H H'->Tp H' tp->Q v H')->fz ρ vs H Q E_
theorem wG:aB ["tape","readings"] ["tape","readings"] (ag uD):=fsc
theorem vh {ρ:Fm->Prop} (F:Fun K "_law_leaf" "_law_leaf" uD f fd) (G:Gb mg) (GD:FnOk P w K mg base CX0 1 g gd ["tape","many"] bo) (bD:Binds K gd ["tape","many"] []) (kD:W.keepIn K (.ref g)=true) (mD:mg "_law_digit"=some (.ref g))
  (GN:FnOk P w K mg base CX0 2 f2 fd2 ["tape"] iw) (bN:Binds K fd2 ["tape"] []) (kN:W.keepIn K (.ref f2)=true) (mN:mg "_law_number"=some (.ref f2)):
  FnOk P w K mg base CX0 3 f fd ["tape","readings"] (l8 ρ):=by
 refine F.ok wG (fun vs H Q E h=>?_) (fun cdv A outer s H vs Q E hr h=>?_)
 ·obtain ⟨tp,rl,rs,rfl,_⟩:=h
  rfl
 obtain ⟨tp,rl,rs,rfl,hT,hne,hrl,hlen,hL,q⟩:=h
 have hr1:=hr.mono (show 1<=2 by decide)
 refine ⟨_,ae (aY (PW.pt (hV (aw iB (aF (r:=de K) aA rfl G.len PySem.boot_len (aa (pv 1) ac)) ad (ay _))
   (fA (aw fK (ak GD hr1 rfl mD kD bD .nil av (aa (pv 0) (aa ad ac))) ad (ay _)))))
   (ai (ax (ao (r:=cI K) aS (pv 1) (ak GD hr1 rfl mD kD bD .nil av (aa (pv 0) (aa (aF (r:=de K) aA rfl G.len PySem.boot_len (aa (pv 1) ac)) ac))) (fun _ _=>rfl)))) aK)
  (ai (ax (aP (aa aX (aa (ak GN hr rfl mN kN bN .nil av (aa (pv 0) ac)) ac))))),?_⟩
 have num: ∀ H1,Kp tp H H1->Tp H1 tp->(jF 0 ([some (V.ref tp),some (.ref rl)]:St) H1 fun v H1=>iw [v] H1 (fun x H2=>[V.str "num",x].length<=sizeLine/\ ∀ p,H2 p=none->Q (.ref p) (upd H2 p (.tup [V.str "num",x]))) E0):=fun H1 k1 t1=>by
  refine ⟨_,rfl,tp,rfl,t1,fun n H2 h1 h2 k2 t2=>⟨(by show 2<=sizeLine;decide),fun p hp=>?_⟩⟩
  exact q _ (.num n) _ ⟨p,rfl,ab⟩ ⟨h1,h2⟩ rfl ((k1.trans k2).new hp) (t2.new hp)
 refine ⟨_,rfl,rl,rs,rfl,.inl (SqL.of hrl),_,_,rfl,rfl,_,rfl,?_⟩
 refine cU (fun c=>?_) (fun c=>?_)
 ·have c':0<rs.length:=by have:=of_decide_eq_true c;lia
  refine ⟨_,rfl,tp,4,rfl,hT,by decide,by decide,fun d t h0 h1=>?_⟩
  refine ⟨_,_,rfl,rfl,_,rfl,?_⟩
  refine cU (fun c2=>?_) (fun c2=>?_)
  ·have h2:(upd H tp (.lst [.int t])) rl=some (.lst rs):=by rw [am hne];exact hrl
   refine ⟨_,rfl,_,rfl,_,rfl,rl,rs,rfl,.inl (SqL.of h2),tp,_,rfl,⟨t,ab⟩,by lia,by lia,fun d2 t2 h20 h21=>?_⟩
   rw [eJ]
   have h3:(upd H tp (.lst [.int t2])) rl=some (.lst rs):=by rw [am hne];exact hrl
   obtain ⟨x,ex,ex2⟩:=eY (xs:=rs) h20 h21
   obtain ⟨fm,r,wf,sz⟩:=hL x (List.mem_of_getElem? ex2)
   have k2:Kp tp H (upd H tp (.lst [.int t2])):=Kp.tape
   exact ⟨rl,rs,d2,x,rfl,rfl,SqL.of h3,ex,q x fm _ (r.mono (k2.tk hT)) wf sz k2 ⟨t2,ab⟩⟩
  ·exact num _ Kp.tape ⟨t,ab⟩
 ·exact num _ Kp.refl hT
theorem xq {H:Hp} {a b:List V} {x y:V} {n:Nat} (h:FsP ρ H (a++x::y::b) n): ∃ A B,Rep H A x/\Rep H B y/\A.wfp ρ/\B.wfp ρ/\ ∃ m1 m2,FsP ρ H a m1/\FsP ρ H b m2/\n=m1+ (A.size+ (B.size+m2)):=by
 obtain ⟨m1,r,h1,h2,e⟩:=h.split
 cases h2 with
 | cons ra wa h3=>
  cases h3 with
  | cons rb wb h4=>exact ⟨_,_,ra,rb,wa,wb,m1,_,h1,h4,e⟩
theorem xp {H:Hp} {a b:List V} {x y z:V} {n:Nat} (h:FsP ρ H (a++x::y::z::b) n): ∃ A B C,Rep H A x/\Rep H B y/\Rep H C z/\A.wfp ρ/\B.wfp ρ/\C.wfp ρ/\ ∃ m1 m2,FsP ρ H a m1/\FsP ρ H b m2/\n=m1+ (A.size+ (B.size+ (C.size+m2))):=by
 obtain ⟨m1,r,h1,h2,e⟩:=h.split
 cases h2 with
 | cons ra wa h3=>
  cases h3 with
  | cons rb wb h4=>
   cases h4 with
   | cons rc wc h5=>exact ⟨_,_,_,ra,rb,rc,wa,wb,wc,m1,_,h1,h5,e⟩
theorem scFormulaP:aB ["tape","readings","many","j","stack","way","sign"] ["tape","readings"] (ag fh):=fsc
theorem oA (F:Fun K "_law_formula" "_law_formula" fh f fd) (G:Gb mg) (GD:FnOk P w K mg base CX0 1 g gd ["tape","many"] bo) (bD:Binds K gd ["tape","many"] []) (kD:W.keepIn K (.ref g)=true) (mD:mg "_law_digit"=some (.ref g))
  (GL:FnOk P w K mg base CX0 3 f2 fd2 ["tape","readings"] (l8 ρ)) (bL:Binds K fd2 ["tape","readings"] []) (kL:W.keepIn K (.ref f2)=true) (mL:mg "_law_leaf"=some (.ref f2)):
  FnOk P w K mg base CX0 4 f fd ["tape","readings"] (fz ρ):=by
 refine F.ok scFormulaP (fun vs H Q E h=>?_) (fun cdv A outer s H vs Q E hr h=>?_)
 ·obtain ⟨tp,rl,rs,rfl,_⟩:=h
  rfl
 obtain ⟨tp,rl,rs,rfl,hT,hne,hrl,hlen,hL,q⟩:=h
 have hr1:=hr.mono (show 1<=3 by decide)
 obtain ⟨t,ht,hread⟩: ∃ t,PSs (cV CX0 P w K mg base ["tape","readings","many","j","stack","way","sign"] "_law_formula" (ag fh) f cdv A outer s H E).nox ((bV fh).drop 2) t/\
   ∀ (m:Int) (H2:Hp),1<=m->m<=8->Kp tp H H2->Tp H2 tp->t {nx:=fun _ H'=>Q .non H',rt:=Q} [some (.ref tp),some (.ref rl),some (.int m),none,none,none,none] H2:=by
  refine ⟨_,ae (eN (i:=4) (sc0:=ag fh) (N0:=["tape","readings","many","j","stack","way","sign"]) (ys:=["tape","readings"]) (fr:=[0,1]) rfl scFormulaP.nd rfl (Or.inl rfl) (br rfl G.range (aa (pv 2) ac)) rfl rfl
    cok
    (fun C s H ex=>ak GL hr rfl mL kL bL .nil av (aa (pv 1) (aa (pv 2) ac))))
   (ae (jW PassesOwn.never (aw iB (aF (r:=de K) aA rfl G.len PySem.boot_len (aa (pv 4) ac)) ad (ay _))
    (ae (aq (i:=5) scFormulaP.nd rfl (Or.inl rfl) (ak GD hr1 rfl mD kD bD .nil av (aa (pv 0) (aa ad ac))))
    (ai (aY (PW.pt (hV (aw bq (pv 5) ad (ay _)) (fA (aw iB (aF (r:=de K) aA rfl G.len PySem.boot_len (aa (pv 4) ac)) ad (ay _)))))
     (ae (aq (i:=3) scFormulaP.nd rfl (Or.inl rfl) (ak GD hr1 rfl mD kD bD .nil av (aa (pv 0) (aa (aE fD (aF (r:=de K) aA rfl G.len PySem.boot_len (aa (pv 4) ac)) ad) ac))))
     (ai (aq (i:=4) scFormulaP.nd rfl (Or.inl rfl) (aE dn (aE dn (aN bJ (pv 4) aZ (aV (pv 3)))
      (aU (aa (aP (aa aX (aa (ao (r:=cI K) aS (pv 4) (pv 3) (fun _ _=>rfl)) (aa (ao (r:=cI K) aS (pv 4) (aE bf (pv 3) ad) (fun _ _=>rfl)) (aa (ao (r:=cI K) aS (pv 4) (aE bf (pv 3) ad) (fun _ _=>rfl)) ac))))) ac)))
      (aN bJ (pv 4) (aV (aE bf (pv 3) ad)) aZ)))))
     (ae (aq (i:=3) scFormulaP.nd rfl (Or.inl rfl) (ak GD hr1 rfl mD kD bD .nil av (aa (pv 0) (aa (aE fD (aF (r:=de K) aA rfl G.len PySem.boot_len (aa (pv 4) ac)) ad) ac))))
     (ae (aq (i:=6) scFormulaP.nd rfl (Or.inl rfl) (ao (r:=cI K) aS (aU (aa aX (aa aX (aa aX (aa aX (aa aX ac)))))) (aE cM (pv 5) ad) (fun _ _=>rfl)))
     (ai (aq (i:=4) scFormulaP.nd rfl (Or.inl rfl) (aE dn (aE dn (aN bJ (pv 4) aZ (aV (pv 3)))
      (aU (aa (aP (aa (pv 6) (aa (ao (r:=cI K) aS (pv 4) (pv 3) (fun _ _=>rfl)) (aa (ao (r:=cI K) aS (pv 4) (aE bf (pv 3) ad) (fun _ _=>rfl)) ac)))) ac)))
      (aN bJ (pv 4) (aV (aE bf (pv 3) ad)) aZ))))))))))
   (ai (ax (ao (r:=cI K) aS (pv 4) ad (fun _ _=>rfl))))),fun m H2 hm1 hm8 k2 tt2=>?_⟩
  have tpn: ∀ {p:Addr} {Hx:Hp},Tp Hx tp->Hx p=none->p≠tp:=fun t hp e=>by
   obtain ⟨t0,e0⟩:=t
   subst e
   rw [e0]at hp
   cases hp
  refine ⟨_,rfl,m,rfl,by lia,by lia,?_⟩
  refine gQ (n:=m.toNat) (R:=fun i v=>v=.int (0+i)) (by lia) nk iF jy
   (fun p i zs H'=>Kp tp H H'/\Tp H' tp/\H' p=some (.lst zs)/\p≠tp/\zs.length=i/\FsP ρ H' zs i) ?_ ?_ ?_ ?_
  ·intro p hp
   exact ⟨k2.new hp,tt2.new hp,ab,tpn tt2 hp,rfl,.nil⟩
  ·rintro p i zs H' ⟨_,_,h,_,e,_⟩
   exact ⟨h,e⟩
  ·rintro p i zs H' v k hp hi rfl ⟨k3,t3,hz,hpn,hzl,hf⟩ hk
   have hrl':H' rl=some (.lst rs):=k3 _ _ hrl hne
   refine ⟨_,rfl,_,rfl,tp,rl,rs,rfl,t3,hne,hrl',hlen,hL.mono (k3.tk hT),fun v f H3 rp wf sz k4 t4=>?_⟩
   refine hk v H3 (k4 _ _ hz hpn) ⟨?_,?_,ab,hpn,by rw [List.length_append,hzl];rfl,?_⟩
   ·intro b o hb hne'
    have hbp:b≠p:=fun e=>by
     subst e
     have:=k2 b o hb hne'
     rw [hp]at this
     cases this
    rw [am hbp]
    exact k4 _ _ (k3 _ _ hb hne') hne'
   ·obtain ⟨t0,e0⟩:=t4
    exact ⟨t0,by rw [am (Ne.symm hpn)];exact e0⟩
   ·have tk:TK H3 (upd H3 p (.lst (zs++[v]))):=TK.lst (k4 _ _ hz hpn)
    have e1:FsP ρ H3 zs i:=hf.mono (k4.tk t3)
    have e2:=e1.append (FsP.cons rp wf .nil)
    rw [sz]at e2
    exact e2.mono tk
  ·rintro p zs H' hp ⟨k3,t3,hz,hpn,hzl,hf⟩
   refine nH (fun Z H'=> ∃ (sl:Addr) (ws:List V) (n:Nat) (j wy sg:Option V),Z=[some (.ref tp),some (.ref rl),some (.int m),j,some (.ref sl),wy,sg]/\H' sl=some (.lst ws)/\sl≠tp/\1<=ws.length/\ws.length<=8/\
     FsP ρ H' ws n/\n+ws.length<=16/\Kp tp H H'/\Tp H' tp)
    (fun Z H'=>match Z with | [_,_,_,_,some (.ref sl),_,_]=>(match H' sl with | some (.lst ws)=>ws.length | _=>0) | _=>0)
    ⟨p,zs,m.toNat,none,none,none,rfl,hz,hpn,by lia,by lia,hf,by lia,k3,t3⟩ ?_ ?_
   ·rintro Z H3 ⟨sl,ws,n,j,wy,sg,rfl,hsl,hsn,hw1,hw8,hfs,hsz,k4,t4⟩
    refine ⟨_,rfl,sl,ws,rfl,.inl (SqL.of hsl),_,_,rfl,rfl,_,rfl,?_⟩
    refine cU (fun c=>?_) (fun c=>?_)
    ·have c':1<ws.length:=by have:=of_decide_eq_true c;lia
     refine ⟨_,rfl,tp,6,rfl,t4,by decide,by decide,fun wy t5 hw0 hw6=>?_⟩
     have k5:Kp tp H3 (upd H3 tp (.lst [.int t5])):=Kp.tape
     have tt5:Tp (upd H3 tp (.lst [.int t5])) tp:=⟨t5,ab⟩
     have hsl5:=k5 _ _ hsl hsn
     have hfs5:=hfs.mono (k5.tk t4)
     have k5':=k4.trans k5
     generalize upd H3 tp (.lst [.int t5])=H5 at k5 tt5 hsl5 hfs5 k5' ⊢
     refine ⟨_,rfl,rfl,_,rfl,?_⟩
     refine zA (c2:=decide (2< (ws.length:Int))) (fun h=>⟨_,rfl,sl,ws,rfl,.inl (SqL.of hsl5),_,_,rfl,rfl,_,rfl,h⟩) (fun _ cw=>?_) (fun _=>?_)
     ·-- when
      have cw':2<ws.length:=by have:=of_decide_eq_true cw;lia
      refine ⟨_,rfl,_,rfl,sl,ws,rfl,.inl (SqL.of hsl5),_,_,rfl,rfl,tp,_,rfl,tt5,by lia,by lia,fun jj t6 hj0 hj1=>?_⟩
      have k6:Kp tp H5 (upd H5 tp (.lst [.int t6])):=Kp.tape
      have tt6:Tp (upd H5 tp (.lst [.int t6])) tp:=⟨t6,ab⟩
      have hsl6:=k6 _ _ hsl5 hsn
      have hfs6:=hfs5.mono (k6.tk tt5)
      have k6':=k5'.trans k6
      generalize upd H5 tp (.lst [.int t6])=H6 at k6 tt6 hsl6 hfs6 k6' ⊢
      obtain ⟨a,x,y,z,b,ew,ea,etk,edr⟩:=ya (xs:=ws) (j:=jj.toNat) (by lia)
      have ej:jj=(a.length:Int):=by lia
      obtain ⟨A,B,C,ra,rb,rc,wa,wb,wc,m1,m2,f1,f2,en⟩:=xp (ew▸hfs6)
      have hlw:ws.length=a.length+3+b.length:=by rw [ew];simp;lia
      refine ⟨_,rfl,_,rfl,jj,rfl,sl,ws,rfl,SqL.of hsl6,fun p1 hp1=>?_⟩
      rw [gm ws hj0 (by lia),etk]
      have s1:Same H6 (upd H6 p1 (.lst a)):=af hp1 _
      have g1:(upd H6 p1 (.lst a)) p1=some (.lst a):=ab
      generalize upd H6 p1 (.lst a)=H7 at s1 g1 ⊢
      have hsl7:=s1 _ _ hsl6
      refine ⟨_,rfl,_,rfl,sl,ws,jj,x,rfl,rfl,SqL.of hsl7,ew▸kn ej,_,rfl,_,rfl,_,_,rfl,rfl,sl,ws,jj+1,y,rfl,rfl,SqL.of hsl7,?_,_,rfl,_,rfl,_,_,rfl,rfl,sl,ws,jj+2,z,rfl,rfl,SqL.of hsl7,?_,(by show 4<=sizeLine;decide),fun p2 hp2=>?_⟩
      ·rw [ew,show a++x::y::z::b=(a++[x])++y::z::b by simp]
       exact kn (by simp;lia)
      ·rw [ew,show a++x::y::z::b=(a++[x,y])++z::b by simp]
       exact kn (by simp;lia)
      have s2:Same H7 (upd H7 p2 (.tup [.str "when",x,y,z])):=af hp2 _
      have g2:(upd H7 p2 (.tup [.str "when",x,y,z])) p2=some (.tup [.str "when",x,y,z]):=ab
      generalize upd H7 p2 (.tup [.str "when",x,y,z])=H8 at s2 g2 ⊢
      refine ⟨(by show 1<=sizeLine;decide),fun p3 hp3=>?_⟩
      have s3:Same H8 (upd H8 p3 (.lst [.ref p2])):=af hp3 _
      have g3:(upd H8 p3 (.lst [.ref p2])) p3=some (.lst [.ref p2]):=ab
      generalize upd H8 p3 (.lst [.ref p2])=H9 at s3 g3 ⊢
      refine ⟨p1,p3,a,_,rfl,rfl,s3 _ _ (s2 _ _ g1),g3,Nat.le_of_lt (aG (by simp;lia)),fun p4 hp4=>?_⟩
      have s4:Same H9 (upd H9 p4 (.lst (a++[.ref p2]))):=af hp4 _
      have g4:(upd H9 p4 (.lst (a++[.ref p2]))) p4=some (.lst (a++[.ref p2])):=ab
      generalize upd H9 p4 (.lst (a++[.ref p2]))=H10 at s4 g4 ⊢
      have s7:Same H7 H10:=s2.trans (s3.trans s4)
      refine ⟨_,rfl,_,rfl,_,_,rfl,rfl,jj+3,rfl,sl,ws,rfl,SqL.of (s7 _ _ hsl7),fun p5 hp5=>?_⟩
      rw [kg ws (by lia) (by lia),show (jj+3).toNat=jj.toNat+3 by lia,edr]
      have s5:Same H10 (upd H10 p5 (.lst b)):=af hp5 _
      have g5:(upd H10 p5 (.lst b)) p5=some (.lst b):=ab
      generalize upd H10 p5 (.lst b)=H11 at s5 g5 ⊢
      refine ⟨p4,p5,_,b,rfl,rfl,s5 _ _ g4,g5,Nat.le_of_lt (aG (by simp;lia)),fun p6 hp6=>?_⟩
      have s6:Same H6 H11:=s1.trans (s7.trans s5)
      have st:Same H6 (upd H11 p6 (.lst (a++[.ref p2]++b))):=s6.trans (af hp6 _)
      have tk:TK H6 (upd H11 p6 (.lst (a++[.ref p2]++b))):=fun c xs h=>st _ _ h
      have g2':(upd H11 p6 (.lst (a++[.ref p2]++b))) p2=some (.tup [.str "when",x,y,z]):=(af hp6 _) _ _ (s5 _ _ (s4 _ _ (s3 _ _ g2)))
      have tt7:Tp (upd H11 p6 (.lst (a++[.ref p2]++b))) tp:=by obtain ⟨t0,e0⟩:=tt6;exact ⟨t0,st _ _ e0⟩
      refine ⟨⟨p6,_,m1+ ((Fm.whn A B C).size+0) +m2,_,_,_,rfl,ab,?_,by simp;lia,by simp;lia,?_,?_,k6'.same st,tt7⟩,?_⟩
      ·intro e
       obtain ⟨t0,e0⟩:=tt6
       have:=s6 _ _ e0
       rw [<- e,hp6]at this
       cases this
      ·exact ((f1.mono tk).append (FsP.cons (f:=.whn A B C) ⟨p2,x,y,z,rfl,g2',ra.mono tk,rb.mono tk,rc.mono tk⟩ ⟨wa,wb,wc⟩ .nil)).append (f2.mono tk)
      ·show m1+ ((A.size+B.size+C.size+1) +0) +m2+ (a++[V.ref p2]++b).length<=16
       simp
       lia
      ·show (match (upd H11 p6 (.lst (a++[.ref p2]++b))) p6 with | some (.lst ws)=>ws.length | _=>0) < (match H3 sl with | some (.lst ws)=>ws.length | _=>0)
       rw [ab,hsl]
       simp
       lia
     ·-- one of the five signs
      refine ⟨_,rfl,_,rfl,sl,ws,rfl,.inl (SqL.of hsl5),_,_,rfl,rfl,tp,_,rfl,tt5,by lia,by lia,fun jj t6 hj0 hj1=>?_⟩
      have k6:Kp tp H5 (upd H5 tp (.lst [.int t6])):=Kp.tape
      have tt6:Tp (upd H5 tp (.lst [.int t6])) tp:=⟨t6,ab⟩
      have hsl6:=k6 _ _ hsl5 hsn
      have hfs6:=hfs5.mono (k6.tk tt5)
      have k6':=k5'.trans k6
      generalize upd H5 tp (.lst [.int t6])=H6 at k6 tt6 hsl6 hfs6 k6' ⊢
      refine ⟨(by show 5<=sizeLine;decide),fun p0 hp0=>?_⟩
      have s0:Same H6 (upd H6 p0 (.lst [.str "plus",.str "less",.str "times",.str "least",.str "most"])):=af hp0 _
      have g0:(upd H6 p0 (.lst [.str "plus",.str "less",.str "times",.str "least",.str "most"])) p0=some (.lst [.str "plus",.str "less",.str "times",.str "least",.str "most"]):=ab
      generalize upd H6 p0 (.lst [.str "plus",.str "less",.str "times",.str "least",.str "most"])=H6b at s0 g0 ⊢
      obtain ⟨op,hop,hopm⟩: ∃ op,atI [V.str "plus",.str "less",.str "times",.str "least",.str "most"] (wy%5)=some (.str op)/\op∈ops:=by
       have h1:=Int.emod_nonneg wy (show (5:Int)≠0 by decide)
       have h2:=Int.emod_lt_of_pos wy (show (0:Int) <5 by decide)
       have h5:wy%5=0\/wy%5=1\/wy%5=2\/wy%5=3\/wy%5=4:=by lia
       rcases h5 with h | h | h | h | h <;> rw [h]
       ·exact ⟨"plus",rfl,by simp [ops]⟩
       ·exact ⟨"less",rfl,by simp [ops]⟩
       ·exact ⟨"times",rfl,by simp [ops]⟩
       ·exact ⟨"least",rfl,by simp [ops]⟩
       ·exact ⟨"most",rfl,by simp [ops]⟩
      refine ⟨_,rfl,_,_,rfl,rfl,(by show (0:Int) <5;decide),p0,_,_,_,rfl,rfl,SqL.of g0,hop,?_⟩
      obtain ⟨a,x,y,b,ew,ea,etk,edr⟩:=yc (xs:=ws) (j:=jj.toNat) (by lia)
      have ej:jj=(a.length:Int):=by lia
      obtain ⟨A,B,ra,rb,wa,wb,m1,m2,f1,f2,en⟩:=xq (ew▸hfs6)
      have hlw:ws.length=a.length+2+b.length:=by rw [ew];simp;lia
      have hsl6b:=s0 _ _ hsl6
      refine ⟨_,rfl,_,rfl,jj,rfl,sl,ws,rfl,SqL.of hsl6b,fun p1 hp1=>?_⟩
      rw [gm ws hj0 (by lia),etk]
      have s1:Same H6b (upd H6b p1 (.lst a)):=af hp1 _
      have g1:(upd H6b p1 (.lst a)) p1=some (.lst a):=ab
      generalize upd H6b p1 (.lst a)=H7 at s1 g1 ⊢
      have hsl7:=s1 _ _ hsl6b
      refine ⟨_,rfl,_,rfl,_,rfl,sl,ws,jj,x,rfl,rfl,SqL.of hsl7,ew▸kn ej,_,rfl,_,rfl,_,_,rfl,rfl,sl,ws,jj+1,y,rfl,rfl,SqL.of hsl7,?_,(by show 3<=sizeLine;decide),fun p2 hp2=>?_⟩
      ·rw [ew,show a++x::y::b=(a++[x])++y::b by simp]
       exact kn (by simp;lia)
      have s2:Same H7 (upd H7 p2 (.tup [.str op,x,y])):=af hp2 _
      have g2:(upd H7 p2 (.tup [.str op,x,y])) p2=some (.tup [.str op,x,y]):=ab
      generalize upd H7 p2 (.tup [.str op,x,y])=H8 at s2 g2 ⊢
      refine ⟨(by show 1<=sizeLine;decide),fun p3 hp3=>?_⟩
      have s3:Same H8 (upd H8 p3 (.lst [.ref p2])):=af hp3 _
      have g3:(upd H8 p3 (.lst [.ref p2])) p3=some (.lst [.ref p2]):=ab
      generalize upd H8 p3 (.lst [.ref p2])=H9 at s3 g3 ⊢
      refine ⟨p1,p3,a,_,rfl,rfl,s3 _ _ (s2 _ _ g1),g3,Nat.le_of_lt (aG (by simp;lia)),fun p4 hp4=>?_⟩
      have s4:Same H9 (upd H9 p4 (.lst (a++[.ref p2]))):=af hp4 _
      have g4:(upd H9 p4 (.lst (a++[.ref p2]))) p4=some (.lst (a++[.ref p2])):=ab
      generalize upd H9 p4 (.lst (a++[.ref p2]))=H10 at s4 g4 ⊢
      have s7:Same H7 H10:=s2.trans (s3.trans s4)
      refine ⟨_,rfl,_,rfl,_,_,rfl,rfl,jj+2,rfl,sl,ws,rfl,SqL.of (s7 _ _ hsl7),fun p5 hp5=>?_⟩
      rw [kg ws (by lia) (by lia),show (jj+2).toNat=jj.toNat+2 by lia,edr]
      have s5:Same H10 (upd H10 p5 (.lst b)):=af hp5 _
      have g5:(upd H10 p5 (.lst b)) p5=some (.lst b):=ab
      generalize upd H10 p5 (.lst b)=H11 at s5 g5 ⊢
      refine ⟨p4,p5,_,b,rfl,rfl,s5 _ _ g4,g5,Nat.le_of_lt (aG (by simp;lia)),fun p6 hp6=>?_⟩
      have s6:Same H6 H11:=s0.trans (s1.trans (s7.trans s5))
      have st:Same H6 (upd H11 p6 (.lst (a++[.ref p2]++b))):=s6.trans (af hp6 _)
      have tk:TK H6 (upd H11 p6 (.lst (a++[.ref p2]++b))):=fun c xs h=>st _ _ h
      have g2':(upd H11 p6 (.lst (a++[.ref p2]++b))) p2=some (.tup [.str op,x,y]):=(af hp6 _) _ _ (s5 _ _ (s4 _ _ (s3 _ _ g2)))
      have tt7:Tp (upd H11 p6 (.lst (a++[.ref p2]++b))) tp:=by obtain ⟨t0,e0⟩:=tt6;exact ⟨t0,st _ _ e0⟩
      refine ⟨⟨p6,_,m1+ ((Fm.bin op A B).size+0) +m2,_,_,_,rfl,ab,?_,by simp;lia,by simp;lia,?_,?_,k6'.same st,tt7⟩,?_⟩
      ·intro e
       obtain ⟨t0,e0⟩:=tt6
       have:=s6 _ _ e0
       rw [<- e,hp6]at this
       cases this
      ·exact ((f1.mono tk).append (FsP.cons (f:=.bin op A B) ⟨p2,x,y,rfl,g2',ra.mono tk,rb.mono tk⟩ ⟨hopm,wa,wb⟩ .nil)).append (f2.mono tk)
      ·show m1+ ((A.size+B.size+1) +0) +m2+ (a++[V.ref p2]++b).length<=16
       simp
       lia
      ·show (match (upd H11 p6 (.lst (a++[.ref p2]++b))) p6 with | some (.lst ws)=>ws.length | _=>0) < (match H3 sl with | some (.lst ws)=>ws.length | _=>0)
       rw [ab,hsl]
       simp
       lia
    ·have c':ws.length=1:=by
      have: ¬ (1:Int) < (ws.length:Int):=fun z=>c (decide_eq_true z)
      lia
     obtain ⟨x,ex⟩:=List.length_eq_one_iff.mp c'
     subst ex
     cases hfs with
     | cons rp wf f2=>
      cases f2
      refine ⟨_,rfl,sl,_,0,x,rfl,rfl,SqL.of hsl,bi,q x _ H3 rp wf (by simp at hsz;lia) k4 t4⟩
   ·rintro Z H3 Q1 Q2 hq ⟨y,e1,p,ys,e2,h2,i,j,e3,e4,k,e5,h⟩
    exact ⟨y,e1,p,ys,e2,h2,i,j,e3,e4,k,e5,hq _ _ h⟩
 refine ⟨_,ae (aq (i:=2) scFormulaP.nd rfl (Or.inl rfl) (aE bf ad (ak GD hr1 rfl mD kD bD .nil av (aa (pv 0) (aa ad ac)))))
  (ae (aY (aw bq (ak GD hr1 rfl mD kD bD .nil av (aa (pv 0) (aa ad ac))) ad (ay _)) (ai (aq (i:=2) scFormulaP.nd rfl (Or.inl rfl) ad)) aK) ht),?_⟩
 refine ⟨_,rfl,tp,4,rfl,hT,by decide,by decide,fun d1 t1 h10 h11=>?_⟩
 refine ⟨1,_,rfl,rfl,?_⟩
 refine ⟨_,rfl,tp,16,rfl,⟨t1,ab⟩,by decide,by decide,fun d2 t2 h20 h21=>?_⟩
 rw [eJ]
 refine ⟨rfl,_,rfl,?_⟩
 refine cU (fun c9=>?_) (fun c9=>?_)
 ·exact hread 8 _ (by decide) (by decide) Kp.tape ⟨t2,ab⟩
 ·exact hread (1+d1) _ (by lia) (by lia) Kp.tape ⟨t2,ab⟩
noncomputable def ndB:List Str->Bool
 | []=>true
 | x::r=> !(r.any fun y=>x.cps.toList==y.cps.toList)&&ndB r
theorem vw: ∀ {l:List Str},ndB l=true->l.Nodup
 | [],_=>List.nodup_nil
 | x::r,h=>by
  unfold ndB at h
  rw [Bool.and_eq_true]at h
  refine List.nodup_cons.mpr ⟨fun m=>?_,vw h.2⟩
  have h1:=h.1
  rw [Bool.not_eq_true',List.any_eq_false]at h1
  exact h1 x m (by simp)
theorem tD:((List.range 3).all fun way=>(List.range 26).all fun tu=>ndB ((List.range 13).map (kx way tu))&&((List.range 13).map (kx way tu)).all cQ)=true:=by
 decide +kernel
theorem NamesAre.ok {m:Nat} {ws:List Str} (h:NamesAre m ws) (hm:m<=13):ws.length=m/\ws.Nodup/\ ∀ x∈ws,cQ x=true:=by
 obtain ⟨way,tu,back,h1,h2,e⟩:=h
 have a:=tD
 rw [List.all_eq_true]at a
 have a:=a way (List.mem_range.mpr h1)
 rw [List.all_eq_true]at a
 have a:=a tu (List.mem_range.mpr h2)
 rw [Bool.and_eq_true]at a
 have n13:=vw a.1
 have w13:=List.all_eq_true.mp a.2
 have sub:((List.range m).map (kx way tu)).Sublist ((List.range 13).map (kx way tu)):=List.Sublist.map _ (List.range_sublist.mpr hm)
 have nd:=n13.sublist sub
 have wd: ∀ x∈(List.range m).map (kx way tu),cQ x=true:=fun x hx=>w13 x (sub.subset hx)
 have ln:((List.range m).map (kx way tu)).length=m:=by rw [List.length_map,List.length_range]
 cases back with
 | false=>
  rw [if_neg (by decide)]at e
  subst e
  exact ⟨ln,nd,wd⟩
 | true=>
  rw [if_pos rfl]at e
  subst e
  exact ⟨by rw [List.length_reverse];exact ln,(List.reverse_perm _).nodup_iff.mpr nd,fun x hx=>wd x (List.mem_reverse.mp hx)⟩
structure Srt where
 name:Str
 downs:List Str
 ups:List Str
inductive RepS (H:Hp) (s:Srt) (v:V):Prop
 | mk: ∀ a b c,(v=.ref a)->(H a=some (.tup [.str s.name,.ref b,.ref c]))->(H b=some (.tup (s.downs.map V.str)))->(H c=some (.tup (s.ups.map V.str)))->RepS H s v
theorem RepS.mono {H H':Hp} (t:TK H H') {s:Srt} {v:V}:RepS H s v->RepS H' s v:=fun ⟨a,b,c,e,h1,h2,h3⟩=>⟨a,b,c,e,t _ _ h1,t _ _ h2,t _ _ h3⟩
def Srt.ok (s:Srt):Prop:=(s.downs++s.ups).Nodup/\(∀ x∈s.downs++s.ups,cQ x=true)/\s.downs.length<=3/\s.ups.length<=3/\1<=s.downs.length+s.ups.length
def RepSs (H:Hp) (ss:List Srt) (vs:List V):Prop:=Paired (RepS H) ss vs
theorem RepSs.mono {H H':Hp} (t:TK H H') {ss:List Srt} {vs:List V} (h:RepSs H ss vs):RepSs H' ss vs:=Paired.mapP h fun _ _ r=>r.mono t
theorem RepSs.len {H:Hp} {ss:List Srt} {vs:List V} (h:RepSs H ss vs):ss.length=vs.length:=Paired.length h
theorem aJ {α β:Type} {F:α->β->Prop}: ∀ {l:List α} {r:List β} {i:Nat} {b:β},Paired F l r->r[i]? =some b-> ∃ a,l[i]? =some a/\F a b
 | _,_,i,b,.nil,e=>by cases i <;> cases e
 | _,_,0,b,.cons h _,e=>⟨_,rfl,by cases e;exact h⟩
 | _,_,i+1,b,.cons _ t,e=>aJ (i:=i) t e
def dQ (ss:List Srt):Prop:=1<=ss.length/\ss.length<=4/\(ss.map Srt.name).Nodup/\(∀ s∈ss,cQ s.name=true)/\ ∀ s∈ss,s.ok
theorem rT {ws:List Str} (n:ws.Nodup) (w: ∀ x∈ws,cQ x=true) (hl:ws.length=6) (k d u:Nat) (hd:d<=3) (hu:u<=3) (h1:1<=d+u) (nm:Str):
  (Srt.mk nm ((ws.drop k++ws.take k).take d) (((ws.drop k++ws.take k).drop d).take u)).ok:=by
 have nt:(ws.drop k++ws.take k).Nodup:=by
  have:(ws.drop k++ws.take k).Perm (ws.take k++ws.drop k):=List.perm_append_comm
  rw [List.take_append_drop]at this
  exact this.nodup_iff.mpr n
 have mt: ∀ x∈ws.drop k++ws.take k,cQ x=true:=fun x hx=>by
  rw [List.mem_append]at hx
  rcases hx with h | h
  ·exact w x (List.mem_of_mem_drop h)
  ·exact w x (List.mem_of_mem_take h)
 have lt:(ws.drop k++ws.take k).length=6:=by rw [List.length_append,List.length_drop,List.length_take];lia
 generalize ws.drop k++ws.take k=ts at nt mt lt
 have sub:(ts.take d++(ts.drop d).take u).Sublist ts:=by
  have:=List.take_append_drop d ts
  conv=>rhs;rw [<- this]
  exact List.Sublist.append (List.Sublist.refl _) (List.take_sublist _ _)
 refine ⟨nt.sublist sub,fun x hx=>mt x (sub.subset hx),?_,?_,?_⟩
 ·show (ts.take d).length<=3
  rw [List.length_take];lia
 ·show ((ts.drop d).take u).length<=3
  rw [List.length_take];lia
 ·show 1<=(ts.take d).length+ ((ts.drop d).take u).length
  rw [List.length_take,List.length_take,List.length_drop];lia
inductive l0  (vs:List V) (H:Hp) (Q:VK) (E_:XK):Prop
 | mk: ∀ tp c,(vs=[.ref tp,.bl c])->(Tp H tp)->(∀ a ss xs H',H' a=some (.tup xs)->RepSs H' ss xs->dQ ss->Kp tp H H'->Tp H' tp->Q (.ref a) H')->l0 vs H Q E_
theorem Ab (k:Bool): ∃ m:Int,atI [V.int 3,V.int 4] (if k then 1 else 0)=some (.int m)/\3<=m/\m<=4:=by
 cases k
 ·exact ⟨3,rfl,by decide,by decide⟩
 ·exact ⟨4,rfl,by decide,by decide⟩
theorem vz {d u:Int} (hd:0<=d) (hu:0<=u) (hu3:u<=3): ∃ u1:Int,(if (if decide (V.int d=V.int 0)=true then (1:Int)else 0) >u then (if decide (V.int d=V.int 0)=true then (1:Int)else 0)else u)=u1/\0<=u1/\u1<=3/\1<=d+u1:=by
 refine ⟨_,rfl,?_⟩
 by_cases c:d=0
 ·subst c
  rw [if_pos (decide_eq_true rfl)]
  split <;> lia
 ·rw [if_neg (fun e=>c (V.int.inj (of_decide_eq_true e)))]
  split <;> lia
theorem cK {H:Hp} {tp p:Addr} (t:Tp H tp) (hp:H p=none):p≠tp:=fun e=>by
 obtain ⟨t0,e0⟩:=t
 subst e
 rw [e0]at hp
 cases hp
theorem xy (xs:List V) {a b:Nat} (h:a+b<=xs.length):cW xs (some (a:Int)) (some ((a:Int) + (b:Int)))=(xs.drop a).take b:=by
 unfold cW
 rw [show ((a:Int) + (b:Int))=((a+b:Nat):Int) by lia,HT.sIx_nat,HT.sIx_nat,Nat.min_eq_left h,Nat.min_eq_left (by lia),Nat.add_sub_cancel_left]
theorem scSorts:aB ["tape","few","many","names","words","sorts","k","most","downs","ups","turned"] ["tape","few"] (ag pK):=fsc
theorem va (F:Fun K "_law_sorts" "_law_sorts" pK f fd) (G:Gb mg) (GD:FnOk P w K mg base CX0 1 g gd ["tape","many"] bo) (bD:Binds K gd ["tape","many"] []) (kD:W.keepIn K (.ref g)=true) (mD:mg "_law_digit"=some (.ref g))
  (GN:FnOk P w K mg base CX0 2 f2 fd2 ["tape","many"] iy) (bN:Binds K fd2 ["tape","many"] []) (kN:W.keepIn K (.ref f2)=true) (mN:mg "_law_names"=some (.ref f2)):
  FnOk P w K mg base CX0 3 f fd ["tape","few"] l0:=by
 refine F.ok scSorts (fun vs H Q E h=>?_) (fun cdv A outer s H vs Q E hr h=>?_)
 ·obtain ⟨tp,c,rfl,_⟩:=h
  rfl
 obtain ⟨tp,few,rfl,hT,q⟩:=h
 have hr1:=hr.mono (show 1<=2 by decide)
 refine ⟨_,ae (aq (i:=2) scSorts.nd rfl (Or.inl rfl) (aE bf ad (ak GD hr1 rfl mD kD bD .nil av (aa (pv 0) (aa
    (ao (r:=cI K) aS (aU (aa ad (aa ad ac))) (bj ft rfl G.int (by decide +kernel) (aa (a7 bq (ak GD hr1 rfl mD kD bD .nil av (aa (pv 0) (aa ad ac))) ad (ay _)) ac)) (fun _ _=>rfl)) ac)))))
  (ae (aq (i:=3) scSorts.nd rfl (Or.inl rfl) (ak GN hr rfl mN kN bN .nil av (aa (pv 0) (aa (pv 2) ac))))
  (ae (aq (i:=4) scSorts.nd rfl (Or.inl rfl) (ak GN hr rfl mN kN bN .nil av (aa (pv 0) (aa ad ac))))
  (ae (aq (i:=5) scSorts.nd rfl (Or.inl rfl) (aU ac))
  (ae (bg PassesOwn.never rfl (br rfl G.range (aa (pv 2) ac)) (aH (i:=6) scSorts.nd rfl (Or.inl rfl))
   (ae (aq (i:=7) scSorts.nd rfl (Or.inl rfl) (ao (r:=cI K) aS (aU (aa ad (aa ad ac))) (bj ft rfl G.int (by decide +kernel) (aa (a7 bq (ak GD hr1 rfl mD kD bD .nil av (aa (pv 0) (aa ad ac))) ad (ay _)) ac)) (fun _ _=>rfl)))
   (ae (aq (i:=8) scSorts.nd rfl (Or.inl rfl) (ak GD hr1 rfl mD kD bD .nil av (aa (pv 0) (aa (pv 7) ac))))
   (ae (aq (i:=9) scSorts.nd rfl (Or.inl rfl) (aF (lN rfl) rfl G.max (by decide +kernel) (aa (ak GD hr1 rfl mD kD bD .nil av (aa (pv 0) (aa (pv 7) ac)))
    (aa (bj ft rfl G.int (by decide +kernel) (aa (a7 bq (pv 8) ad (ay _)) ac)) ac))))
   (ae (aY (PW.pt (hV (dE (pv 1)) (fA (aw iB (aE dF (pv 8) (pv 9)) ad (ay _))))) (ai (aq (i:=9) scSorts.nd rfl (Or.inl rfl) (aE mY ad (pv 8)))) aK)
   (ae (aq (i:=10) scSorts.nd rfl (Or.inl rfl) (aE dn (aN bJ (pv 4) (aV (aE cM (pv 6) ad)) aZ) (aN bJ (pv 4) aZ (aV (aE cM (pv 6) ad)))))
   (ai (cJ (dH PySem.F.plainAttrs_list PySem.F.slot_list_append PySem.F.type_list_append bM (pv 5) (aa (aP (aa (ao (r:=cI K) aS (pv 3) (pv 6) (fun _ _=>rfl))
    (aa (bj (r:=dX K) bw rfl G.tuple (by decide +kernel) (aa (aN bJ (pv 10) aZ (aV (pv 8))) ac))
    (aa (bj (r:=dX K) bw rfl G.tuple (by decide +kernel) (aa (aN bJ (pv 10) (aV (pv 8)) (aV (aE bf (pv 8) (pv 9)))) ac)) ac)))) ac))))))))))
  (ai (ax (bj (r:=dX K) bw rfl G.tuple (by decide +kernel) (aa (pv 5) ac)))))))),?_⟩
 refine ⟨_,rfl,(by show 2<=sizeLine;decide),fun p0 hp0=>?_⟩
 refine ⟨_,rfl,tp,8,rfl,hT.new hp0,by decide,by decide,fun d0 t0 _ _=>⟨rfl,?_⟩⟩
 obtain ⟨m0,em0,hm3,hm4⟩:=Ab (decide (V.int d0=V.int 5))
 refine .inr ⟨_,rfl,p0,_,_,_,rfl,rfl,SqL.of (by rw [am (cK hT hp0)];exact ab),em0,?_⟩
 have k0:Kp tp H (upd (upd H p0 (.lst [.int 3,.int 4])) tp (.lst [.int t0])):=(Kp.refl.new hp0).trans Kp.tape
 have tt0:Tp (upd (upd H p0 (.lst [.int 3,.int 4])) tp (.lst [.int t0])) tp:=⟨t0,ab⟩
 generalize upd (upd H p0 (.lst [.int 3,.int 4])) tp (.lst [.int t0])=H1 at k0 tt0 ⊢
 refine ⟨tp,_,rfl,tt0,by lia,by lia,fun dm t1 hdm0 hdm1=>?_⟩
 have k1:Kp tp H (upd H1 tp (.lst [.int t1])):=k0.trans Kp.tape
 have tt1:Tp (upd H1 tp (.lst [.int t1])) tp:=⟨t1,ab⟩
 generalize upd H1 tp (.lst [.int t1])=H2 at k1 tt1 ⊢
 refine ⟨1,_,rfl,rfl,?_⟩
 refine ⟨_,rfl,_,rfl,tp,_,rfl,tt1,by lia,by lia,fun nl ns H3 hnl hnlen hN hnne k2' tt2=>?_⟩
 have k2:=k1.trans k2'
 refine ⟨_,rfl,tp,6,rfl,tt2,by decide,by decide,fun wl ws H4 hwl hwlen hW hwne k3' tt3=>?_⟩
 have k3:=k2.trans k3'
 have hnl4:=k3' _ _ hnl hnne
 refine ⟨(by show 0<=sizeLine;decide),fun sl hsl=>?_⟩
 have hslt:=cK tt3 hsl
 have k4:Kp tp H (upd H4 sl (.lst [])):=k3.new hsl
 have tt4:=tt3.new (o:=.lst []) hsl
 have s4:=af hsl (.lst [])
 have nsl:nl≠sl:=aj hnl4 hsl
 have wsl:wl≠sl:=aj hwl hsl
 have hnl5:=s4 _ _ hnl4
 have hwl5:=s4 _ _ hwl
 have hsl5:(upd H4 sl (.lst [])) sl=some (.lst []):=ab
 generalize upd H4 sl (.lst [])=H5 at k4 tt4 hnl5 hwl5 hsl5 ⊢
 obtain ⟨nLen,nNd,nWd⟩:=hN.ok (by lia)
 obtain ⟨wLen,wNd,wWd⟩:=hW.ok (by decide)
 have wLen6:ws.length=6:=wLen
 refine ⟨_,rfl,1+dm,rfl,by lia,by lia,?_⟩
 refine cB (fun i Z H'=> ∃ o6 o7 o8 o9 o10 zs ss,Z=[some (.ref tp),some (.bl few),some (.int (1+dm)),some (.ref nl),some (.ref wl),some (.ref sl),o6,o7,o8,o9,o10]/\Kp tp H H'/\Tp H' tp/\H' nl=some (.lst (ns.map V.str))/\H' wl=some (.lst (ws.map V.str))/\H' sl=some (.lst zs)/\RepSs H' ss zs/\ss.length=i/\(∀ s∈ss,s.ok)/\ss.map Srt.name=ns.take i)
  ⟨none,none,none,none,none,[],[],rfl,k4,tt4,hnl5,hwl5,hsl5,.nil,rfl,fun s h=>(by cases h),rfl⟩ ?_ ?_
 ·rintro i Z H6 hi ⟨o6,o7,o8,o9,o10,zs,ss,rfl,k6,tt6,hnl6,hwl6,hsl6,hR,hssl,hok,hnm⟩
  refine ⟨(by show 2<=sizeLine;decide),fun p0 hp0=>?_⟩
  refine ⟨_,rfl,tp,8,rfl,tt6.new hp0,by decide,by decide,fun d0 t0 _ _=>⟨rfl,?_⟩⟩
  obtain ⟨m1,em1,hm3,hm4⟩:=Ab (decide (V.int d0=V.int 5))
  refine .inr ⟨_,rfl,p0,_,_,_,rfl,rfl,SqL.of (by rw [am (cK tt6 hp0)];exact ab),em1,?_⟩
  have k7:Kp tp H6 (upd (upd H6 p0 (.lst [.int 3,.int 4])) tp (.lst [.int t0])):=(Kp.refl.new hp0).trans Kp.tape
  have tt7:Tp (upd (upd H6 p0 (.lst [.int 3,.int 4])) tp (.lst [.int t0])) tp:=⟨t0,ab⟩
  generalize upd (upd H6 p0 (.lst [.int 3,.int 4])) tp (.lst [.int t0])=H7 at k7 tt7 ⊢
  refine ⟨_,rfl,_,rfl,tp,_,rfl,tt7,by lia,by lia,fun d t2 hd0 hd1=>?_⟩
  have k8:Kp tp H6 (upd H7 tp (.lst [.int t2])):=k7.trans Kp.tape
  have tt8:Tp (upd H7 tp (.lst [.int t2])) tp:=⟨t2,ab⟩
  generalize upd H7 tp (.lst [.int t2])=H8 at k8 tt8 ⊢
  refine ⟨_,rfl,_,rfl,tp,_,rfl,tt8,by lia,by lia,fun u t3 hu0 hu1=>?_⟩
  have k9:Kp tp H6 (upd H8 tp (.lst [.int t3])):=k8.trans Kp.tape
  have tt9:Tp (upd H8 tp (.lst [.int t3])) tp:=⟨t3,ab⟩
  generalize upd H8 tp (.lst [.int t3])=H9 at k9 tt9 ⊢
  obtain ⟨u1,eu1,hu10,hu13,hdu⟩:=vz (d:=d) (u:=u) hd0 hu0 (by lia)
  refine ⟨_,rfl,rfl,.inr ⟨_,rfl,_,_,rfl,?_⟩⟩
  rw [eu1]
  refine ⟨_,rfl,few,rfl,?_⟩
  refine zA (c2:=decide (3<d*u1)) (fun h=>⟨_,rfl,_,rfl,_,_,rfl,rfl,.inl ⟨by lia,by lia⟩,_,_,rfl,rfl,_,rfl,h⟩) (fun _ c=>?A) (fun _=>?B)
  case' A=>
   have c':3<d*u1:=of_decide_eq_true c
   have hdp:0<d:=by
    rcases (show d=0\/0<d by lia)with h | h
    ·subst h;lia
    ·exact h
   refine ⟨_,rfl,3,d,rfl,rfl,⟨hdp,by lia⟩,?_⟩
   obtain ⟨v,hv,ev⟩: ∃ v:Int,(0<=v/\v<=3/\1<=d+v)/\V.int (3/d)=V.int v:=by
    refine ⟨3/d,?_,rfl⟩
    rcases (show d=1\/d=2\/d=3 by lia)with h | h | h <;> subst h <;> decide
   rw [ev]
  case' B=>
   have hv:0<=u1/\u1<=3/\1<=d+u1:=⟨hu10,hu13,hdu⟩
   generalize u1=v at hv ⊢
  all_goals
   have hwl9:=k9 _ _ hwl6 hwne
   have hnl9:=k9 _ _ hnl6 hnne
   have hsl9:=k9 _ _ hsl6 hslt
   have hkk0:0<=(0+ (i:Int)) %6:=Int.emod_nonneg _ (by decide)
   have hkk1:(0+ (i:Int)) %6<6:=Int.emod_lt_of_pos _ (by decide)
   refine ⟨_,rfl,_,rfl,_,_,rfl,rfl,(by show (0:Int) <6;decide),_,rfl,wl,_,rfl,SqL.of hwl9,fun p1 hp1=>?_⟩
   rw [kg (ws.map V.str) hkk0 (by rw [List.length_map];lia)]
   have hn6:((0+ (i:Int)) %6).toNat<=6:=by lia
   have hct:cW (ws.map V.str) none (some ((0+ (i:Int)) %6))=(ws.map V.str).take ((0+ (i:Int)) %6).toNat:=gm (ws.map V.str) hkk0 (by rw [List.length_map];lia)
   generalize hn:((0+ (i:Int)) %6).toNat=n at hct hn6 ⊢
   have s1:=af hp1 (.lst ((ws.map V.str).drop n))
   have g1:(upd H9 p1 (.lst ((ws.map V.str).drop n))) p1=some (.lst ((ws.map V.str).drop n)):=ab
   generalize upd H9 p1 (.lst ((ws.map V.str).drop n))=Ha at s1 g1 ⊢
   refine ⟨_,rfl,_,rfl,_,_,rfl,rfl,(by show (0:Int) <6;decide),_,rfl,wl,_,rfl,SqL.of (s1 _ _ hwl9),fun p2 hp2=>?_⟩
   rw [hct]
   have s2:=af hp2 (.lst ((ws.map V.str).take n))
   have g2:(upd Ha p2 (.lst ((ws.map V.str).take n))) p2=some (.lst ((ws.map V.str).take n)):=ab
   generalize upd Ha p2 (.lst ((ws.map V.str).take n))=Hb at s2 g2 ⊢
   have lcat:((ws.map V.str).drop n).length+ ((ws.map V.str).take n).length<=12:=by rw [List.length_drop,List.length_take,List.length_map];lia
   refine ⟨p1,p2,_,_,rfl,rfl,s2 _ _ g1,g2,Nat.le_of_lt (aG (by lia)),fun p3 hp3=>?_⟩
   have e3:(ws.map V.str).drop n++(ws.map V.str).take n=(ws.drop n++ws.take n).map V.str:=by rw [List.map_append,List.map_drop,List.map_take]
   rw [e3]
   have lts:(ws.drop n++ws.take n).length=6:=by rw [List.length_append,List.length_drop,List.length_take];lia
   have hsok:=fun nm=>rT wNd wWd wLen6 n d.toNat v.toNat (by lia) (by lia) (by lia) nm
   generalize ws.drop n++ws.take n=ts at lts hsok ⊢
   have s3:=af hp3 (.lst (ts.map V.str))
   have g3:(upd Hb p3 (.lst (ts.map V.str))) p3=some (.lst (ts.map V.str)):=ab
   generalize upd Hb p3 (.lst (ts.map V.str))=Hc at s3 g3 ⊢
   have S9:Same H9 Hc:=s1.trans (s2.trans s3)
   have hslc:=S9 _ _ hsl9
   have hnlc:=S9 _ _ hnl9
   have hwlc:=S9 _ _ hwl9
   have kc:Kp tp H6 Hc:=k9.same S9
   have ttc:Tp Hc tp:=tt9.same S9
   refine ⟨_,rfl,.inl ⟨rfl,_,SqL.of hslc⟩,?_⟩
   obtain ⟨nm,enm⟩: ∃ nm,ns[i]? =some nm:=⟨ns[i]'(by lia),List.getElem?_eq_getElem (by lia)⟩
   have eat:atI (ns.map V.str) (0+ (i:Int))=some (V.str nm):=by
    rw [Int.zero_add]
    exact ar (by rw [List.getElem?_map,enm];rfl)
   refine ⟨_,rfl,_,rfl,nl,_,_,_,rfl,rfl,SqL.of hnlc,eat,?_⟩
   refine ⟨_,rfl,_,rfl,d,rfl,p3,_,rfl,SqL.of g3,fun p4 hp4=>?_⟩
   rw [gm (ts.map V.str) hd0 (by rw [List.length_map];lia),<- List.map_take]
   have s4:=af hp4 (.lst ((ts.take d.toNat).map V.str))
   have g4:(upd Hc p4 (.lst ((ts.take d.toNat).map V.str))) p4=some (.lst ((ts.take d.toNat).map V.str)):=ab
   generalize upd Hc p4 (.lst ((ts.take d.toNat).map V.str))=Hd at s4 g4 ⊢
   refine ⟨p4,_,rfl,.inl ⟨SqL.of g4,fun p5 hp5=>?_⟩⟩
   have s5:=af hp5 (.tup ((ts.take d.toNat).map V.str))
   have g5:(upd Hd p5 (.tup ((ts.take d.toNat).map V.str))) p5=some (.tup ((ts.take d.toNat).map V.str)):=ab
   generalize upd Hd p5 (.tup ((ts.take d.toNat).map V.str))=He at s5 g5 ⊢
   refine ⟨_,rfl,_,rfl,d,rfl,_,rfl,_,rfl,_,_,rfl,rfl,_,rfl,p3,_,rfl,SqL.of (s5 _ _ (s4 _ _ g3)),fun p6 hp6=>?_⟩
   have ecm:cW (ts.map V.str) (some d) (some (d+v))=((ts.drop d.toNat).take v.toNat).map V.str:=by
    have:=xy (ts.map V.str) (a:=d.toNat) (b:=v.toNat) (by rw [List.length_map];lia)
    rw [show ((d.toNat:Nat):Int)=d by lia,show ((v.toNat:Nat):Int)=v by lia]at this
    rw [this,List.map_take,List.map_drop]
   rw [ecm]
   have s6:=af hp6 (.lst (((ts.drop d.toNat).take v.toNat).map V.str))
   have g6:(upd He p6 (.lst (((ts.drop d.toNat).take v.toNat).map V.str))) p6=some (.lst (((ts.drop d.toNat).take v.toNat).map V.str)):=ab
   generalize upd He p6 (.lst (((ts.drop d.toNat).take v.toNat).map V.str))=Hf at s6 g6 ⊢
   refine ⟨p6,_,rfl,.inl ⟨SqL.of g6,fun p7 hp7=>?_⟩⟩
   have s7:=af hp7 (.tup (((ts.drop d.toNat).take v.toNat).map V.str))
   have g7:(upd Hf p7 (.tup (((ts.drop d.toNat).take v.toNat).map V.str))) p7=some (.tup (((ts.drop d.toNat).take v.toNat).map V.str)):=ab
   generalize upd Hf p7 (.tup (((ts.drop d.toNat).take v.toNat).map V.str))=Hg at s7 g7 ⊢
   refine ⟨(by show 3<=sizeLine;decide),fun p8 hp8=>?_⟩
   have s8:=af hp8 (.tup [.str nm,.ref p5,.ref p7])
   have g8:(upd Hg p8 (.tup [.str nm,.ref p5,.ref p7])) p8=some (.tup [.str nm,.ref p5,.ref p7]):=ab
   generalize upd Hg p8 (.tup [.str nm,.ref p5,.ref p7])=Hh at s8 g8 ⊢
   have Sc:Same Hc Hh:=s4.trans (s5.trans (s6.trans (s7.trans s8)))
   have hslh:=Sc _ _ hslc
   have hzl:zs.length=i:=by rw [<- hR.len];exact hssl
   refine ⟨sl,zs,.ref p8,rfl,rfl,hslh,aG (by lia),?_⟩
   have tk:TK Hh (upd Hh sl (.lst (zs++[.ref p8]))):=TK.lst hslh
   have kh:Kp tp H6 Hh:=kc.same Sc
   refine ⟨_,_,_,_,_,zs++[.ref p8],ss++[⟨nm,ts.take d.toNat,(ts.drop d.toNat).take v.toNat⟩],rfl,?_,?_,?_,?_,ab,?_,?_,?_,?_⟩
   ·intro b o hb hbn
    rw [am (aj (k3 _ _ hb hbn) hsl)]
    exact kh _ _ (k6 _ _ hb hbn) hbn
   ·obtain ⟨t9,e9⟩:=ttc.same Sc
    exact ⟨t9,by rw [am (Ne.symm hslt)];exact e9⟩
   ·rw [am nsl];exact Sc _ _ hnlc
   ·rw [am wsl];exact Sc _ _ hwlc
   ·exact Paired.snoc (hR.mono ((kh.tk tt6).trans tk)) ⟨p8,p5,p7,rfl,tk _ _ g8,tk _ _ (s8 _ _ (s7 _ _ (s6 _ _ g5))),tk _ _ (s8 _ _ g7)⟩
   ·rw [List.length_append,hssl];rfl
   ·intro s hs
    rw [List.mem_append,List.mem_singleton]at hs
    rcases hs with h | h
    ·exact hok s h
    ·subst h;exact hsok nm
   ·rw [List.map_append,hnm,List.map_singleton,List.take_add_one,enm]
    rfl
 ·rintro Z H6 ⟨o6,o7,o8,o9,o10,zs,ss,rfl,k6,tt6,hnl6,hwl6,hsl6,hR,hssl,hok,hnm⟩
  refine ⟨_,rfl,sl,zs,rfl,.inl ⟨SqL.of hsl6,fun pt hpt=>?_⟩⟩
  refine q pt ss zs _ ab (hR.mono (TK.new hpt)) ⟨by lia,by lia,?_,?_,hok⟩ (k6.new hpt) (tt6.new hpt)
  ·rw [hnm]
   exact nNd.sublist (List.take_sublist _ _)
  ·intro s hs
   refine nWd _ (List.mem_of_mem_take (i:=(1+dm).toNat) ?_)
   rw [<- hnm]
   exact List.mem_map_of_mem hs
def wp (H:Hp) (ys:List V) (z:V):Prop:= ∃ a,z=.ref a/\H a=some (.tup ys)
def Tups (H:Hp) (yss:List (List V)) (zs:List V):Prop:=Paired (wp H) yss zs
theorem Tups.mono {H H':Hp} (t:TK H H') {yss:List (List V)} {zs:List V} (h:Tups H yss zs):Tups H' yss zs:=Paired.mapP h fun _ _ ⟨a,e,g⟩=>⟨a,e,t _ _ g⟩
theorem Tups.len {H:Hp} {yss:List (List V)} {zs:List V} (h:Tups H yss zs):yss.length=zs.length:=Paired.length h
theorem Tups.append {H:Hp}: ∀ {a c:List (List V)} {b d:List V},Tups H a b->Tups H c d->Tups H (a++c) (b++d)
 | _,_,_,_,.nil,h=>h
 | _,_,_,_,.cons x t,h=>.cons x (Tups.append t h)
theorem au {H H':Hp} (s:Same H H'):TK H H':=fun a xs h=>s _ _ h
theorem gR {K:W.Frag} {a:Addr} {xs:List V} {fr:List Nat} {te:TE} {Z:St} {H1:Hp} {Q:VK} (hn:xs.length<=1000) (ha:H1 a=some (.tup xs)) (g:V->List V)
  (hte: ∀ v H k,v∈xs->(∀ p,H p=none->k (.ref p) (upd H p (.tup (g v))))->te (some v::cS fr Z) H k)
  (hd: ∀ p zs H',H1 p=none->Same H1 H'->H' p=some (.lst zs)->Tups H' (xs.map g) zs->Q (.ref p) H'):iP fr te Z (Itt K a) H1 Q:=by
 intro p hp
 refine ⟨fun i m zs H=>i<=xs.length/\m=xs.length-i/\Same H1 H/\H p=some (.lst zs)/\zs.length=i/\Tups H ((xs.take i).map g) zs,⟨_,Nat.zero_le _,rfl,af hp _,ab,rfl,.nil⟩,?_⟩
 rintro i m zs H ⟨hi,hm,sm,gp,hz,hT⟩
 refine ⟨gp,?_⟩
 by_cases e:i=xs.length
 ·subst e
  rw [List.take_length]at hT
  exact .inl ⟨⟨xs,SqT.of (sm _ _ ha),Nat.le_refl _⟩,hd p zs H hp sm gp hT⟩
 ·have hlt:i<xs.length:=by lia
  refine .inr ⟨⟨xs,xs[i],SqT.of (sm _ _ ha),List.getElem?_eq_getElem hlt⟩,aG (by lia),fun v H' hv=>?_⟩
  obtain ⟨rfl,hv⟩:=hv
  have hv:=hv xs (SqT.of (sm _ _ ha))
  refine hte v _ _ (List.mem_of_getElem? hv) fun q hq=>?_
  have s2:=af hq (.tup (g v))
  have gq:(upd H' q (.tup (g v))) q=some (.tup (g v)):=ab
  generalize upd H' q (.tup (g v))=H2 at s2 gq ⊢
  have gp2:=s2 _ _ gp
  have tk:TK H2 (upd H2 p (.lst (zs++[.ref q]))):=TK.lst gp2
  refine ⟨gp2,xs.length- (i+1),by lia,by lia,rfl,?_,ab,by rw [List.length_append,hz];rfl,?_⟩
  ·intro b o hb
   rw [am (aj hb hp)]
   exact s2 _ _ (sm _ _ hb)
  ·rw [List.take_add_one,hv,List.map_append]
   exact Paired.snoc (hT.mono ((au s2).trans tk)) ⟨q,rfl,tk _ _ gq⟩
theorem jk {α β:Type} {F:α->β->Prop}: ∀ {l:List α} {r:List β},Paired F l r-> ∀ n,Paired F (l.take n) (r.take n)
 | _,_,.nil,n=>by rw [List.take_nil,List.take_nil];exact .nil
 | _,_,.cons h t,0=>.nil
 | _,_,.cons h t,n+1=>.cons h (jk t n)
noncomputable def cL (k:Int):List Srt->List (Int×Str)
 | []=>[]
 | q::r=>q.downs.map (fun x=>(k,x))++cL (k+1) r
noncomputable def cP (o:Srt) (qs:List Srt):List (Int×Str):=o.ups.map (fun x=>(-1,x))++cL 0 qs
noncomputable def tgV (t:Int×Str):List V:=[.int t.1,.str t.2]
theorem jD (k:Int): ∀ (qs:List Srt),(∀ s∈qs,s.ok)->(cL k qs).length<=3*qs.length:=by
 intro qs
 induction qs generalizing k with
 | nil=>intro _;exact Nat.le_refl _
 | cons q r ih=>
  intro h
  have h1:=ih (k+1) fun s hs=>h s (List.mem_cons_of_mem _ hs)
  have h2:=(h q List.mem_cons_self).2.2.1
  unfold cL
  rw [List.length_append,List.length_map,List.length_cons]
  lia
theorem nK (k:Int): ∀ (qs:List Srt) (q:Srt),cL k (qs++[q])=cL k qs++q.downs.map (fun x=>(k+qs.length,x)):=by
 intro qs
 induction qs generalizing k with
 | nil=>intro q;show q.downs.map (fun x=>(k,x))++[]=_;rw [List.append_nil];show _=q.downs.map (fun x=>(k+ ((0:Nat):Int),x));rw [show k+ ((0:Nat):Int)=k by lia]
 | cons r rs ih=>
  intro q
  show r.downs.map _++cL (k+1) (rs++[q])=(r.downs.map _++cL (k+1) rs)++_
  rw [ih,List.append_assoc]
  have:k+1+ (rs.length:Int)=k+ ((r::rs).length:Int):=by rw [List.length_cons];lia
  rw [this]
def TabOk (H:Hp) (kvs:List (Key×V)) (ss:List Srt):Prop:= ∀ s∈ss,∃ a b c,aW kvs (.inr s.name)=some (.ref a)/\H a=some (.tup [.ref b,.ref c])/\H b=some (.tup (s.downs.map V.str))/\H c=some (.tup (s.ups.map V.str))
theorem TabOk.mono {H H':Hp} (t:TK H H') {kvs:List (Key×V)} {ss:List Srt} (h:TabOk H kvs ss):TabOk H' kvs ss:=fun s hs=>by
 obtain ⟨a,b,c,e,h1,h2,h3⟩:=h s hs
 exact ⟨a,b,c,e,t _ _ h1,t _ _ h2,t _ _ h3⟩
theorem TabOk.put {H:Hp} {kvs:List (Key×V)} {ss:List Srt} {i:Nat} {s:Srt} {a b c:Addr} (nd:(ss.map Srt.name).Nodup) (hs:ss[i]? =some s) (h:TabOk H kvs (ss.take i))
  (h1:H a=some (.tup [.ref b,.ref c])) (h2:H b=some (.tup (s.downs.map V.str))) (h3:H c=some (.tup (s.ups.map V.str))):TabOk H (cz kvs (.inr s.name) (.ref a)) (ss.take (i+1)):=by
 intro x hx
 rw [List.take_add_one,hs,List.mem_append]at hx
 rcases hx with hx | hx
 ·obtain ⟨a',b',c',e,r⟩:=h x hx
  refine ⟨a',b',c',?_,r⟩
  rw [df,if_neg]
  ·exact e
  ·intro z
   have z:x.name=s.name:=Sum.inr.inj z
   obtain ⟨j,hj⟩:=List.getElem?_of_mem hx
   have hji:j<i:=by
    have:=(List.getElem?_eq_some_iff.mp hj).1
    rw [List.length_take]at this
    lia
   rw [List.getElem?_take,if_pos hji]at hj
   have q1:(ss.map Srt.name)[j]? =some s.name:=by rw [List.getElem?_map,hj,<- z];rfl
   have q2:(ss.map Srt.name)[i]? =some s.name:=by rw [List.getElem?_map,hs];rfl
   have:=fj nd q1 q2
   lia
 ·have hx:x=s:=by simpa using hx
  subst hx
  exact ⟨a,b,c,by rw [df,if_pos rfl],h1,h2,h3⟩
def SrtsAt (H:Hp) (a:Addr) (ss:List Srt):Prop:= ∃ xs,H a=some (.tup xs)/\RepSs H ss xs
theorem SrtsAt.mono {H H':Hp} (t:TK H H') {a:Addr} {ss:List Srt}:SrtsAt H a ss->SrtsAt H' a ss:=fun ⟨xs,h,r⟩=>⟨xs,t _ _ h,r.mono t⟩
inductive gv  (vs:List V) (H:Hp) (Q:VK) (E_:XK):Prop
 | mk: ∀ sa pa ss o qs,(vs=[.ref sa,.str (Srt.name o),.ref pa])->(SrtsAt H sa ss)->(dQ ss)->(o∈ss)->(H pa=some (.tup (qs.map fun q=>V.str (Srt.name q))))->((∀ q∈qs,q∈ss))->(qs.length<=3)->(∀ p zs H',H p=none->Same H H'->H' p=some (.lst zs)->Tups H' ((cP o qs).map tgV) zs->Q (.ref p) H')->gv vs H Q E_
theorem scTargets:aB ["sorts","own","parts","table","name","downs","ups","found","k"] ["sorts","own","parts"] (ag fU):=fsc
theorem pY (F:Fun K "_law_targets" "_law_targets" fU f fd) (G:Gb mg):
  FnOk P w K mg base CX0 1 f fd ["sorts","own","parts"] gv:=by
 refine F.ok scTargets (fun vs H Q E h=>?_) (fun cdv A outer s H vs Q E hr h=>?_)
 ·obtain ⟨sa,pa,ss,o,qs,rfl,_⟩:=h
  rfl
 obtain ⟨sa,pa,ss,o,qs,rfl,⟨xs,hsa,hR⟩,hok,ho,hpa,hqs,hql,q⟩:=h
 have hu:=cF hr
 refine ⟨_,ae (aq (i:=3) scTargets.nd rfl (Or.inl rfl) ee)
  (ae (bg PassesOwn.never rfl (cf (pv 0)) (eU rfl (aT (aH (i:=4) scTargets.nd rfl (Or.inl rfl)) (aT (aH (i:=5) scTargets.nd rfl (Or.inl rfl)) (aT (aH (i:=6) scTargets.nd rfl (Or.inl rfl)) dv))))
   (ai (dL hu (pv 3) (pv 4) (aP (aa (pv 5) (aa (pv 6) ac))) rfl)))
  (ae (eN (i:=7) (sc0:=ag fU) (N0:=["sorts","own","parts","table","name","downs","ups","found","k"]) (ys:=[]) (fr:=[]) rfl scTargets.nd rfl (Or.inl rfl)
    (cf (ao (r:=aC K) al (cx hu (pv 3) (pv 1) (fun _ _=>rfl)) ad (fun _ _=>rfl))) rfl rfl
    cok
    (fun C s H ex=>aP (aa (dY c7 ad) (aa (pv 0) ac))))
  (ae (bg PassesOwn.never rfl (br rfl G.range (aa (aF (r:=de K) aA rfl G.len PySem.boot_len (aa (pv 2) ac)) ac)) (aH (i:=8) scTargets.nd rfl (Or.inr rfl))
   (ai (cJ (dH PySem.F.plainAttrs_list PySem.F.slot_list_extend PySem.F.type_list_extend lB (pv 7) (aa
    (cy (sc0:=ag fU) (N0:=["sorts","own","parts","table","name","downs","ups","found","k"]) (ys:=["k"]) (fr:=[8]) rfl
     (cf (ao (r:=aC K) al (cx hu (pv 3) (ao (r:=aC K) al (pv 2) (pv 8) (fun _ _=>rfl)) (fun _ _=>rfl)) ad (fun _ _=>rfl))) rfl rfl
     cok
     (fun C s H ex=>aP (aa (pv 1) (aa (pv 0) ac)))) ac)))))
  (ai (ax (pv 7)))))),?_⟩
 refine fun td htd=>?_
 have s0:=af htd (.dK [])
 have g0:(upd H td (.dK [])) td=some (.dK []):=ab
 generalize upd H td (.dK [])=H0 at s0 g0 ⊢
 have hlen:=hR.len
 refine ⟨_,rfl,sa,rfl,⟨xs,SqT.of (s0 _ _ hsa)⟩,?_⟩
 refine eR (xs:=xs) (fun i Z H'=>i<=xs.length/\ ∃ o4 o5 o6 kvs,Z=[some (.ref sa),some (.str o.name),some (.ref pa),some (.ref td),o4,o5,o6,none,none]/\Same H H'/\H' td=some (.dK kvs)/\kvs.length<=i/\TabOk H' kvs (ss.take i))
  ⟨Nat.zero_le _,none,none,none,[],rfl,s0,g0,Nat.le_refl _,fun s hs=>(by cases hs)⟩ (fun i Z H' _ h=>by obtain ⟨_,_,_,_,_,_,sm,_⟩:=h;exact SqT.of (sm _ _ hsa)) ?_ ?_
 ·rintro i x Z H1 hx ⟨hi,o4,o5,o6,kvs,rfl,sm,gd,hl,hT⟩
  have hlt:i<xs.length:=(List.getElem?_eq_some_iff.mp hx).1
  obtain ⟨sr,hsr,a,b,c,rfl,ha,hb,hc⟩:=aJ hR hx
  refine ⟨a,_,rfl,SqT.of (sm _ _ ha),rfl,_,_,rfl,_,_,rfl,_,_,rfl,rfl,?_⟩
  refine ⟨_,rfl,_,rfl,(by show 2<=sizeLine;decide),fun pt hpt=>?_⟩
  have s1:=af hpt (.tup [.ref b,.ref c])
  have g1:(upd H1 pt (.tup [.ref b,.ref c])) pt=some (.tup [.ref b,.ref c]):=ab
  generalize upd H1 pt (.tup [.ref b,.ref c])=H2 at s1 g1 ⊢
  have gd2:=s1 _ _ gd
  have S2:Same H H2:=sm.trans s1
  refine ⟨_,rfl,_,rfl,td,_,rfl,DPut.k (k:=.inr sr.name) gd2 (aG (by have:=hok.2.1;lia)),?_⟩
  have tk:TK H2 (upd H2 td (.dK (cz kvs (.inr sr.name) (.ref pt)))):=TK.upd fun ys e=>by rw [gd2]at e;cases e
  refine ⟨hlt,_,_,_,_,rfl,?_,ab,?_,?_⟩
  ·intro y oo h
   rw [am (aj h htd)]
   exact S2 _ _ h
  ·have:=cN kvs (.inr sr.name) (.ref pt)
   lia
  ·exact TabOk.put hok.2.2.1 hsr (hT.mono ((au s1).trans tk)) (tk _ _ g1) (tk _ _ (S2 _ _ hb)) (tk _ _ (S2 _ _ hc))
 ·rintro Z H1 ⟨_,o4,o5,o6,kvs,rfl,sm,gd,hl,hT⟩
  rw [<- hlen,List.take_length]at hT
  obtain ⟨a,b,c,eo,ha,hb,hc⟩:=hT o ho
  refine ⟨_,rfl,_,rfl,td,.ref a,rfl,(by rw [<- eo];exact DGet.k (k:=.inr o.name) gd),a,_,1,.ref c,rfl,rfl,SqT.of ha,ar (j:=1) rfl,c,rfl,⟨_,SqT.of hc⟩,?_⟩
  have lo:o.ups.length<=3:=(hok.2.2.2.2 o ho).2.2.2.1
  refine gR (by rw [List.length_map];lia) hc (fun v=>[.int (-1),v]) (fun v H k _ hk=>⟨1,rfl,_,rfl,(by show 2<=sizeLine;decide),fun p hp=>hk p hp⟩) fun fl zs H2 hfl s2 gfl hTz=>?_
  have ez:(o.ups.map V.str).map (fun v=>[V.int (-1),v])=(o.ups.map fun x=>((-1:Int),x)).map tgV:=by rw [List.map_map,List.map_map];rfl
  rw [ez]at hTz
  have S2:Same H H2:=sm.trans s2
  have hfl0:H fl=none:=sm.free hfl
  have gd2:=s2 _ _ gd
  have hT2:=hT.mono (au s2)
  have dfl:fl≠td:=Ne.symm (aj gd hfl)
  have hlp:(qs.map fun q=>V.str (Srt.name q)).length=qs.length:=List.length_map _
  refine ⟨_,rfl,pa,_,rfl,.inr (SqT.of (S2 _ _ hpa)),_,rfl,by lia,by lia,?_⟩
  refine cB (fun i Z H'=> ∃ o8 zs,Z=[some (.ref sa),some (.str o.name),some (.ref pa),some (.ref td),o4,o5,o6,some (.ref fl),o8]/\Same H H'/\H' td=some (.dK kvs)/\TabOk H' kvs ss/\H' fl=some (.lst zs)/\
    Tups H' ((o.ups.map (fun x=>((-1:Int),x))++cL 0 (qs.take i)).map tgV) zs)
   ⟨none,zs,rfl,S2,gd2,hT2,gfl,by rw [List.take_zero];show Tups H2 ((_++[]).map tgV) zs;rw [List.append_nil];exact hTz⟩ ?_ ?_
  ·rintro i Z H3 hi ⟨o8,zs3,rfl,S3,gd3,hT3,gfl3,hTz3⟩
   have hi':i<qs.length:=by lia
   obtain ⟨sq,hsq⟩: ∃ sq,qs[i]? =some sq:=⟨qs[i],List.getElem?_eq_getElem hi'⟩
   obtain ⟨a,b,c,eq,ha,hb,hc⟩:=hT3 sq (hqs sq (List.mem_of_getElem? hsq))
   have eat:atI (qs.map fun q=>V.str (Srt.name q)) (0+ (i:Int))=some (V.str sq.name):=by
    rw [Int.zero_add]
    exact ar (by rw [List.getElem?_map,hsq];rfl)
   refine ⟨_,rfl,.inl ⟨rfl,_,SqL.of gfl3⟩,?_⟩
   refine ⟨_,rfl,_,rfl,_,rfl,pa,_,_,_,rfl,rfl,SqT.of (S3 _ _ hpa),eat,td,.ref a,rfl,(by rw [<- eq];exact DGet.k (k:=.inr sq.name) gd3),a,_,0,.ref b,rfl,rfl,SqT.of ha,bi,b,rfl,⟨_,SqT.of hb⟩,?_⟩
   have ld:sq.downs.length<=3:=(hok.2.2.2.2 sq (hqs sq (List.mem_of_getElem? hsq))).2.2.1
   refine gR (by rw [List.length_map];lia) hb (fun v=>[.int (0+ (i:Int)),v]) (fun v H k _ hk=>⟨_,rfl,_,rfl,(by show 2<=sizeLine;decide),fun p hp=>hk p hp⟩) fun pl ws H4 hpl s4 gpl hTw=>?_
   have ew:(sq.downs.map V.str).map (fun v=>[V.int (0+ (i:Int)),v])=(sq.downs.map fun x=>(0+ (i:Int),x)).map tgV:=by rw [List.map_map,List.map_map];rfl
   rw [ew]at hTw
   have gfl4:=s4 _ _ gfl3
   have lz:=hTz3.len
   have lw:=hTw.len
   have lt:=jD 0 (qs.take i) fun s hs=>hok.2.2.2.2 s (hqs s (List.mem_of_mem_take hs))
   rw [List.length_map,List.length_append,List.length_map]at lz
   rw [List.length_map,List.length_map]at lw
   rw [List.length_take]at lt
   refine ⟨fl,pl,zs3,ws,rfl,rfl,gfl4,gpl,Nat.le_of_lt (aG (by lia)),?_⟩
   have tk:TK H4 (upd H4 fl (.lst (zs3++ws))):=TK.lst gfl4
   have tk3:TK H3 (upd H4 fl (.lst (zs3++ws))):=(au s4).trans tk
   refine ⟨_,zs3++ws,rfl,?_,?_,hT3.mono tk3,ab,?_⟩
   ·intro y oo h
    rw [am (aj h hfl0)]
    exact s4 _ _ (S3 _ _ h)
   ·rw [am (Ne.symm dfl)]
    exact s4 _ _ gd3
   ·rw [List.take_add_one,hsq]
    show Tups _ ((_++cL 0 (qs.take i++[sq])).map tgV) _
    rw [nK,<- List.append_assoc,List.map_append]
    have e9:(0:Int) + ((qs.take i).length:Int)=0+ (i:Int):=by rw [List.length_take];lia
    rw [e9]
    exact (hTz3.mono tk3).append (hTw.mono tk)
  ·rintro Z H3 ⟨o8,zs3,rfl,S3,gd3,hT3,gfl3,hTz3⟩
   have e9:qs.take (((qs.map fun q=>V.str (Srt.name q)).length:Int)).toNat=qs:=by rw [hlp];exact List.take_of_length_le (by lia)
   rw [e9]at hTz3
   exact ⟨_,rfl,q fl zs3 H3 hfl0 S3 gfl3 hTz3⟩
noncomputable def cR (k:Int):List Srt->List Fm
 | []=>[]
 | q::r=>q.ups.map (fun x=>Fm.part k x)++cR (k+1) r
noncomputable def tgF (t:Int×Str):Fm:=if t.1<0 then .own t.2 else .part t.1 t.2
noncomputable def fc (o:Srt) (qs:List Srt) (mode j:Int):List (Int×Str):=if mode=2 then (cP o qs).take j.toNat else cP o qs
noncomputable def rds (o:Srt) (qs:List Srt) (mode j:Int):List Fm:=(o.downs.map Fm.own++cR 0 qs)++(if mode>0 then (fc o qs mode j).map tgF else [])
noncomputable def fmV:Fm->List V
 | .own x=>[.str "own",.str x]
 | .part k x=>[.str "part",.int k,.str x]
 | _=>[]
theorem hJ (k:Int): ∀ (qs:List Srt),(∀ s∈qs,s.ok)->(cR k qs).length<=3*qs.length:=by
 intro qs
 induction qs generalizing k with
 | nil=>intro _;exact Nat.le_refl _
 | cons q r ih=>
  intro h
  have h1:=ih (k+1) fun s hs=>h s (List.mem_cons_of_mem _ hs)
  have h2:=(h q List.mem_cons_self).2.2.2.1
  unfold cR
  rw [List.length_append,List.length_map,List.length_cons]
  lia
theorem nZ (k:Int): ∀ (qs:List Srt) (q:Srt),cR k (qs++[q])=cR k qs++q.ups.map (fun x=>Fm.part (k+qs.length) x):=by
 intro qs
 induction qs generalizing k with
 | nil=>intro q;show q.ups.map (fun x=>Fm.part k x)++[]=_;rw [List.append_nil];show _=q.ups.map (fun x=>Fm.part (k+ ((0:Nat):Int)) x);rw [show k+ ((0:Nat):Int)=k by lia]
 | cons r rs ih=>
  intro q
  show r.ups.map _++cR (k+1) (rs++[q])=(r.ups.map _++cR (k+1) rs)++_
  rw [ih,List.append_assoc]
  have:k+1+ (rs.length:Int)=k+ ((r::rs).length:Int):=by rw [List.length_cons];lia
  rw [this]
theorem jC {ss:List Srt} {o:Srt} {qs:List Srt} (hok: ∀ s∈ss,s.ok) (ho:o∈ss) (hq: ∀ q∈qs,q∈ss) (hl:qs.length<=3):(cP o qs).length<=12:=by
 have h1:=jD 0 qs fun s hs=>hok s (hq s hs)
 have h2:=(hok o ho).2.2.2.1
 unfold cP
 rw [List.length_append,List.length_map]
 lia
theorem kX (o:Srt) (qs:List Srt) (mode j:Int):(fc o qs mode j).length<=(cP o qs).length:=by
 unfold fc
 by_cases c:mode=2
 ·rw [if_pos c,List.length_take];exact Nat.min_le_right _ _
 ·rw [if_neg c];exact Nat.le_refl _
inductive fQ  (vs:List V) (H:Hp) (Q:VK) (E_:XK):Prop
 | mk: ∀ sa pa ss o qs mode j,(vs=[.ref sa,.str (Srt.name o),.ref pa,.int mode,.int j])->(SrtsAt H sa ss)->(dQ ss)->(o∈ss)->(H pa=some (.tup (qs.map fun q=>V.str (Srt.name q))))->((∀ q∈qs,q∈ss))->(qs.length<=3)->(0<=j)->(j<=(cP o qs).length)->(∀ p zs H',H p=none->Same H H'->H' p=some (.lst zs)->Tups H' ((rds o qs mode j).map fmV) zs->Q (.ref p) H')->fQ vs H Q E_
theorem yS {z u:V} (k:Bool):atI [z,u] (if k then 1 else 0)=some (if k then u else z):=by cases k <;> rfl
theorem scLReadings:aB ["sorts","own","parts","mode","j","table","name","downs","ups","word","found","k","targets","at"] ["sorts","own","parts","mode","j"] (ag dW):=fsc
theorem mZ (F:Fun K "_law_readings" "_law_readings" dW f fd) (G:Gb mg) (GT:FnOk P w K mg base CX0 1 g gd ["sorts","own","parts"] gv) (bT:Binds K gd ["sorts","own","parts"] []) (kT:W.keepIn K (.ref g)=true) (mT:mg "_law_targets"=some (.ref g)):
  FnOk P w K mg base CX0 2 f fd ["sorts","own","parts","mode","j"] fQ:=by
 refine F.ok scLReadings (fun vs H Q E h=>?_) (fun cdv A outer s H vs Q E hr h=>?_)
 ·obtain ⟨sa,pa,ss,o,qs,mode,j,rfl,_⟩:=h
  rfl
 obtain ⟨sa,pa,ss,o,qs,mode,j,rfl,⟨xs,hsa,hR⟩,hok,ho,hpa,hqs,hql,hj0,hj1,q⟩:=h
 have hu:=cF hr
 refine ⟨_,ae (aq (i:=5) scLReadings.nd rfl (Or.inl rfl) ee)
  (ae (bg PassesOwn.never rfl (cf (pv 0)) (eU rfl (aT (aH (i:=6) scLReadings.nd rfl (Or.inl rfl)) (aT (aH (i:=7) scLReadings.nd rfl (Or.inl rfl)) (aT (aH (i:=8) scLReadings.nd rfl (Or.inl rfl)) dv))))
   (ai (dL hu (pv 5) (pv 6) (aP (aa (pv 7) (aa (pv 8) ac))) rfl)))
  (ae (eN (i:=10) (sc0:=ag dW) (N0:=["sorts","own","parts","mode","j","table","name","downs","ups","word","found","k","targets","at"]) (ys:=[]) (fr:=[]) rfl scLReadings.nd rfl (Or.inl rfl)
    (cf (ao (r:=aC K) al (cx hu (pv 5) (pv 1) (fun _ _=>rfl)) ad (fun _ _=>rfl))) rfl rfl
    cok
    (fun C s H ex=>aP (aa aX (aa (pv 0) ac))))
  (ae (bg PassesOwn.never rfl (br rfl G.range (aa (aF (r:=de K) aA rfl G.len PySem.boot_len (aa (pv 2) ac)) ac)) (aH (i:=11) scLReadings.nd rfl (Or.inr rfl))
   (ai (cJ (dH PySem.F.plainAttrs_list PySem.F.slot_list_extend PySem.F.type_list_extend lB (pv 10) (aa
    (cy (sc0:=ag dW) (N0:=["sorts","own","parts","mode","j","table","name","downs","ups","word","found","k","targets","at"]) (ys:=["k"]) (fr:=[11]) rfl
     (cf (ao (r:=aC K) al (cx hu (pv 5) (ao (r:=aC K) al (pv 2) (pv 11) (fun _ _=>rfl)) (fun _ _=>rfl)) ad (fun _ _=>rfl))) rfl rfl
     cok
     (fun C s H ex=>aP (aa aX (aa (pv 1) (aa (pv 0) ac))))) ac)))))
  (ae (aq (i:=12) scLReadings.nd rfl (Or.inl rfl) (ak GT hr rfl mT kT bT .nil av (aa (pv 0) (aa (pv 1) (aa (pv 2) ac)))))
  (ae (aY (aw bq (pv 3) ad (ay _)) (ai (aq (i:=12) scLReadings.nd rfl (Or.inl rfl) (aN bJ (pv 12) aZ (aV (pv 4))))) aK)
  (ae (bg PassesOwn.never rfl (bu (pv 12)) (eU rfl (aT (aH (i:=13) scLReadings.nd rfl (Or.inl rfl)) (aT (aH (i:=9) scLReadings.nd rfl (Or.inl rfl)) dv)))
   (ai (aY (aw iB (pv 3) ad (ay _))
    (ai (cJ (dH PySem.F.plainAttrs_list PySem.F.slot_list_append PySem.F.type_list_append bM (pv 10) (aa
     (ao (r:=cI K) aS (aU (aa (aP (aa aX (aa (pv 13) (aa (pv 9) ac)))) (aa (aP (aa aX (aa (pv 9) ac))) ac)))
      (bj ft rfl G.int (by decide +kernel) (aa (a7 fK (pv 13) ad (ay _)) ac)) (fun _ _=>rfl)) ac)))) aK)))
  (ai (ax (pv 10))))))))),?_⟩
 refine fun td htd=>?_
 have s0:=af htd (.dK [])
 have g0:(upd H td (.dK [])) td=some (.dK []):=ab
 generalize upd H td (.dK [])=H0 at s0 g0 ⊢
 have hlen:=hR.len
 refine ⟨_,rfl,sa,rfl,⟨xs,SqT.of (s0 _ _ hsa)⟩,?_⟩
 refine eR (xs:=xs) (fun i Z H'=>i<=xs.length/\ ∃ o4 o5 o6 kvs,Z=[some (.ref sa),some (.str o.name),some (.ref pa),some (.int mode),some (.int j),some (.ref td),o4,o5,o6,none,none,none,none,none]/\Same H H'/\H' td=some (.dK kvs)/\kvs.length<=i/\TabOk H' kvs (ss.take i))
  ⟨Nat.zero_le _,none,none,none,[],rfl,s0,g0,Nat.le_refl _,fun s hs=>(by cases hs)⟩ (fun i Z H' _ h=>by obtain ⟨_,_,_,_,_,_,sm,_⟩:=h;exact SqT.of (sm _ _ hsa)) ?_ ?_
 ·rintro i x Z H1 hx ⟨hi,o4,o5,o6,kvs,rfl,sm,gd,hl,hT⟩
  have hlt:i<xs.length:=(List.getElem?_eq_some_iff.mp hx).1
  obtain ⟨sr,hsr,a,b,c,rfl,ha,hb,hc⟩:=aJ hR hx
  refine ⟨a,_,rfl,SqT.of (sm _ _ ha),rfl,_,_,rfl,_,_,rfl,_,_,rfl,rfl,?_⟩
  refine ⟨_,rfl,_,rfl,(by show 2<=sizeLine;decide),fun pt hpt=>?_⟩
  have s1:=af hpt (.tup [.ref b,.ref c])
  have g1:(upd H1 pt (.tup [.ref b,.ref c])) pt=some (.tup [.ref b,.ref c]):=ab
  generalize upd H1 pt (.tup [.ref b,.ref c])=H2 at s1 g1 ⊢
  have gd2:=s1 _ _ gd
  have S2:Same H H2:=sm.trans s1
  refine ⟨_,rfl,_,rfl,td,_,rfl,DPut.k (k:=.inr sr.name) gd2 (aG (by have:=hok.2.1;lia)),?_⟩
  have tk:TK H2 (upd H2 td (.dK (cz kvs (.inr sr.name) (.ref pt)))):=TK.upd fun ys e=>by rw [gd2]at e;cases e
  refine ⟨hlt,_,_,_,_,rfl,?_,ab,?_,?_⟩
  ·intro y oo h
   rw [am (aj h htd)]
   exact S2 _ _ h
  ·have:=cN kvs (.inr sr.name) (.ref pt)
   lia
  ·exact TabOk.put hok.2.2.1 hsr (hT.mono ((au s1).trans tk)) (tk _ _ g1) (tk _ _ (S2 _ _ hb)) (tk _ _ (S2 _ _ hc))
 ·rintro Z H1 ⟨_,o4,o5,o6,kvs,rfl,sm,gd,hl,hT⟩
  rw [<- hlen,List.take_length]at hT
  obtain ⟨a,b,c,eo,ha,hb,hc⟩:=hT o ho
  refine ⟨_,rfl,_,rfl,td,.ref a,rfl,(by rw [<- eo];exact DGet.k (k:=.inr o.name) gd),a,_,0,.ref b,rfl,rfl,SqT.of ha,bi,b,rfl,⟨_,SqT.of hb⟩,?_⟩
  have lo:o.downs.length<=3:=(hok.2.2.2.2 o ho).2.2.1
  refine gR (by rw [List.length_map];lia) hb (fun v=>[.str "own",v]) (fun v H k _ hk=>⟨_,rfl,(by show 2<=sizeLine;decide),fun p hp=>hk p hp⟩) fun fl zs H2 hfl s2 gfl hTz=>?_
  have ez:(o.downs.map V.str).map (fun v=>[V.str "own",v])=(o.downs.map Fm.own).map fmV:=by rw [List.map_map,List.map_map];rfl
  rw [ez]at hTz
  have S2:Same H H2:=sm.trans s2
  have hfl0:H fl=none:=sm.free hfl
  have gd2:=s2 _ _ gd
  have hT2:=hT.mono (au s2)
  have dfl:fl≠td:=Ne.symm (aj gd hfl)
  have hlp:(qs.map fun q=>V.str (Srt.name q)).length=qs.length:=List.length_map _
  refine ⟨_,rfl,pa,_,rfl,.inr (SqT.of (S2 _ _ hpa)),_,rfl,by lia,by lia,?_⟩
  refine cB (fun i Z H'=> ∃ o8 zs,Z=[some (.ref sa),some (.str o.name),some (.ref pa),some (.int mode),some (.int j),some (.ref td),o4,o5,o6,none,some (.ref fl),o8,none,none]/\Same H H'/\H' td=some (.dK kvs)/\TabOk H' kvs ss/\H' fl=some (.lst zs)/\
    Tups H' ((o.downs.map Fm.own++cR 0 (qs.take i)).map fmV) zs)
   ⟨none,zs,rfl,S2,gd2,hT2,gfl,by rw [List.take_zero];show Tups H2 ((_++[]).map fmV) zs;rw [List.append_nil];exact hTz⟩ ?_ ?_
  ·rintro i Z H3 hi ⟨o8,zs3,rfl,S3,gd3,hT3,gfl3,hTz3⟩
   have hi':i<qs.length:=by lia
   obtain ⟨sq,hsq⟩: ∃ sq,qs[i]? =some sq:=⟨qs[i],List.getElem?_eq_getElem hi'⟩
   obtain ⟨a,b,c,eq,ha,hb,hc⟩:=hT3 sq (hqs sq (List.mem_of_getElem? hsq))
   have eat:atI (qs.map fun q=>V.str (Srt.name q)) (0+ (i:Int))=some (V.str sq.name):=by
    rw [Int.zero_add]
    exact ar (by rw [List.getElem?_map,hsq];rfl)
   refine ⟨_,rfl,.inl ⟨rfl,_,SqL.of gfl3⟩,?_⟩
   refine ⟨_,rfl,_,rfl,_,rfl,pa,_,_,_,rfl,rfl,SqT.of (S3 _ _ hpa),eat,td,.ref a,rfl,(by rw [<- eq];exact DGet.k (k:=.inr sq.name) gd3),a,_,1,.ref c,rfl,rfl,SqT.of ha,ar (j:=1) rfl,c,rfl,⟨_,SqT.of hc⟩,?_⟩
   have ld:sq.ups.length<=3:=(hok.2.2.2.2 sq (hqs sq (List.mem_of_getElem? hsq))).2.2.2.1
   refine gR (by rw [List.length_map];lia) hc (fun v=>[.str "part",.int (0+ (i:Int)),v]) (fun v H k _ hk=>⟨_,rfl,_,rfl,(by show 3<=sizeLine;decide),fun p hp=>hk p hp⟩) fun pl ws H4 hpl s4 gpl hTw=>?_
   have ew:(sq.ups.map V.str).map (fun v=>[V.str "part",V.int (0+ (i:Int)),v])=(sq.ups.map fun x=>Fm.part (0+ (i:Int)) x).map fmV:=by rw [List.map_map,List.map_map];rfl
   rw [ew]at hTw
   have gfl4:=s4 _ _ gfl3
   have lz:=hTz3.len
   have lw:=hTw.len
   have lt:=hJ 0 (qs.take i) fun s hs=>hok.2.2.2.2 s (hqs s (List.mem_of_mem_take hs))
   rw [List.length_map,List.length_append,List.length_map]at lz
   rw [List.length_map,List.length_map]at lw
   rw [List.length_take]at lt
   refine ⟨fl,pl,zs3,ws,rfl,rfl,gfl4,gpl,Nat.le_of_lt (aG (by lia)),?_⟩
   have tk:TK H4 (upd H4 fl (.lst (zs3++ws))):=TK.lst gfl4
   have tk3:TK H3 (upd H4 fl (.lst (zs3++ws))):=(au s4).trans tk
   refine ⟨_,zs3++ws,rfl,?_,?_,hT3.mono tk3,ab,?_⟩
   ·intro y oo h
    rw [am (aj h hfl0)]
    exact s4 _ _ (S3 _ _ h)
   ·rw [am (Ne.symm dfl)]
    exact s4 _ _ gd3
   ·rw [List.take_add_one,hsq]
    show Tups _ ((_++cR 0 (qs.take i++[sq])).map fmV) _
    rw [nZ,<- List.append_assoc,List.map_append]
    have e9:(0:Int) + ((qs.take i).length:Int)=0+ (i:Int):=by rw [List.length_take];lia
    rw [e9]
    exact (hTz3.mono tk3).append (hTw.mono tk)
  ·rintro Z H3 ⟨o8,zs3,rfl,S3,gd3,hT3,gfl3,hTz3⟩
   have e9:qs.take (((qs.map fun q=>V.str (Srt.name q)).length:Int)).toNat=qs:=by rw [hlp];exact List.take_of_length_le (by lia)
   rw [e9]at hTz3
   have lt12:=jC hok.2.2.2.2 ho hqs hql
   have l12:zs3.length<=12:=by
    have lt:=hJ 0 qs fun s hs=>hok.2.2.2.2 s (hqs s hs)
    have lz:=hTz3.len
    rw [List.length_map,List.length_append,List.length_map]at lz
    lia
   refine ⟨_,rfl,_,rfl,_,rfl,sa,pa,ss,o,qs,rfl,⟨xs,S3 _ _ hsa,hR.mono (au S3)⟩,hok,ho,S3 _ _ hpa,hqs,hql,fun tl zt H4 htl s4 gtl hTt=>?_⟩
   have S4:Same H H4:=S3.trans s4
   have gfl4:=s4 _ _ gfl3
   have hTz4:=hTz3.mono (au s4)
   have nft:fl≠tl:=aj gfl3 htl
   refine ⟨_,rfl,rfl,_,rfl,?_⟩
   refine cU (fun c=>?A) (fun c=>?B)
   case' A=>
    have cm:mode=2:=V.int.inj (of_decide_eq_true c)
    have lzt:zt.length=(cP o qs).length:=by rw [<- hTt.len,List.length_map]
    refine ⟨_,rfl,_,rfl,j,rfl,tl,zt,rfl,SqL.of gtl,fun tl2 htl2=>?_⟩
    rw [gm zt hj0 (by lia)]
    have hsel:Tups H4 ((fc o qs mode j).map tgV) (zt.take j.toNat):=by
     unfold fc
     rw [if_pos cm,List.map_take]
     exact jk hTt _
    have s5:=af htl2 (.lst (zt.take j.toNat))
    have gt:(upd H4 tl2 (.lst (zt.take j.toNat))) tl2=some (.lst (zt.take j.toNat)):=ab
    have nft2:fl≠tl2:=aj gfl4 htl2
    have gfl5:=s5 _ _ gfl4
    have hTz5:=hTz4.mono (au s5)
    have hsel5:=hsel.mono (au s5)
    have S5:Same H (upd H4 tl2 (.lst (zt.take j.toNat))):=S4.trans s5
    generalize upd H4 tl2 (.lst (zt.take j.toNat))=H5 at gt gfl5 hTz5 hsel5 S5 ⊢
    generalize zt.take j.toNat=zu at gt hsel5
    generalize tl2=tx at gt nft2 ⊢
   case' B=>
    have cm: ¬ mode=2:=fun e=>c (decide_eq_true (by rw [e]))
    have hsel5:Tups H4 ((fc o qs mode j).map tgV) zt:=by
     unfold fc
     rw [if_neg cm]
     exact hTt
    have gt:=gtl
    have nft2:=nft
    have gfl5:=gfl4
    have hTz5:=hTz4
    have S5:=S4
    generalize H4=H5 at gt gfl5 hTz5 hsel5 S5 ⊢
    generalize zt=zu at gt hsel5
    generalize tl=tx at gt nft2 ⊢
   all_goals
    have ltg:(fc o qs mode j).length<=12:=Nat.le_trans (kX o qs mode j) lt12
    have lzu:zu.length=(fc o qs mode j).length:=by rw [<- hsel5.len,List.length_map]
    have hrd:rds o qs mode j=(o.downs.map Fm.own++cR 0 qs)++(if mode>0 then (fc o qs mode j).map tgF else []):=rfl
    generalize fc o qs mode j=tg at ltg lzu hrd hsel5
    have e0:(if mode>0 then (tg.take 0).map tgF else [])=[]:=by split <;> rfl
    refine ⟨_,rfl,tx,rfl,⟨zu,SqL.of gt⟩,?_⟩
    refine dj (xs:=zu) (fun i Z H'=>i<=zu.length/\ ∃ o9 zs o13,Z=[some (.ref sa),some (.str o.name),some (.ref pa),some (.int mode),some (.int j),some (.ref td),o4,o5,o6,o9,some (.ref fl),o8,some (.ref tx),o13]/\Same H H'/\H' tx=some (.lst zu)/\Tups H' (tg.map tgV) zu/\H' fl=some (.lst zs)/\zs.length<=12+i/\
      Tups H' (((o.downs.map Fm.own++cR 0 qs)++(if mode>0 then (tg.take i).map tgF else [])).map fmV) zs)
     ⟨Nat.zero_le _,none,zs3,none,rfl,S5,gt,hsel5,gfl5,l12,by rw [e0,List.append_nil];exact hTz5⟩ (fun i Z H' _ h=>by obtain ⟨_,_,_,_,_,_,gg,_⟩:=h;exact SqL.of gg) ?_ ?_
    ·rintro i x Z H6 hx ⟨hi,o9,zs6,o13,rfl,S6,gt6,hsel6,gfl6,l6,hT6⟩
     have hlt:i<zu.length:=(List.getElem?_eq_some_iff.mp hx).1
     obtain ⟨ys,hys,a,rfl,ha⟩:=aJ hsel6 hx
     obtain ⟨t,ht,rfl⟩: ∃ t,tg[i]? =some t/\tgV t=ys:=by
      rw [List.getElem?_map]at hys
      cases he:tg[i]? with
      | none=>rw [he]at hys;cases hys
      | some t=>rw [he]at hys;exact ⟨t,rfl,Option.some.inj hys⟩
     refine ⟨a,_,rfl,SqT.of ha,rfl,_,_,rfl,_,_,rfl,rfl,?_⟩
     refine ⟨_,rfl,_,_,rfl,rfl,_,rfl,?_⟩
     refine cU (fun cm=>?_) (fun cm=>?_)
     ·have cm':mode>0:=of_decide_eq_true cm
      refine ⟨_,rfl,.inl ⟨rfl,_,SqL.of gfl6⟩,?_⟩
      refine ⟨_,rfl,_,rfl,(by show 3<=sizeLine;decide),fun p1 hp1=>?_⟩
      have s1:=af hp1 (.tup [.str "part",.int t.1,.str t.2])
      have g1:(upd H6 p1 (.tup [.str "part",.int t.1,.str t.2])) p1=some (.tup [.str "part",.int t.1,.str t.2]):=ab
      generalize upd H6 p1 (.tup [.str "part",.int t.1,.str t.2])=H7 at s1 g1 ⊢
      refine ⟨_,rfl,(by show 2<=sizeLine;decide),fun p2 hp2=>?_⟩
      have s2:=af hp2 (.tup [.str "own",.str t.2])
      have g2:(upd H7 p2 (.tup [.str "own",.str t.2])) p2=some (.tup [.str "own",.str t.2]):=ab
      generalize upd H7 p2 (.tup [.str "own",.str t.2])=H8 at s2 g2 ⊢
      refine ⟨(by show 2<=sizeLine;decide),fun p3 hp3=>?_⟩
      have s3:=af hp3 (.lst [.ref p1,.ref p2])
      have g3:(upd H8 p3 (.lst [.ref p1,.ref p2])) p3=some (.lst [.ref p1,.ref p2]):=ab
      generalize upd H8 p3 (.lst [.ref p1,.ref p2])=H9 at s3 g3 ⊢
      have S69:Same H6 H9:=s1.trans (s2.trans s3)
      refine ⟨_,rfl,_,_,rfl,rfl,.inr ⟨_,rfl,p3,_,_,_,rfl,rfl,SqL.of g3,yS _,?_⟩⟩
      have gfl9:=S69 _ _ gfl6
      refine ⟨fl,zs6,_,rfl,rfl,gfl9,aG (by lia),?_⟩
      have hz:wp H9 (fmV (tgF t)) (if decide (t.1<0)=true then .ref p2 else .ref p1):=by
       by_cases cn:t.1<0
       ·rw [if_pos (decide_eq_true cn)]
        unfold tgF
        rw [if_pos cn]
        exact ⟨p2,rfl,s3 _ _ g2⟩
       ·rw [if_neg (fun e=>cn (of_decide_eq_true e))]
        unfold tgF
        rw [if_neg cn]
        exact ⟨p1,rfl,s3 _ _ (s2 _ _ g1)⟩
      generalize (if decide (t.1<0)=true then V.ref p2 else .ref p1)=zv at hz ⊢
      have tk:TK H9 (upd H9 fl (.lst (zs6++[zv]))):=TK.lst gfl9
      have tk6:TK H6 (upd H9 fl (.lst (zs6++[zv]))):=(au S69).trans tk
      refine ⟨hlt,_,zs6++[zv],_,rfl,?_,?_,hsel6.mono tk6,ab,by rw [List.length_append];show zs6.length+1<=_;lia,?_⟩
      ·intro y oo h
       rw [am (aj h hfl0)]
       exact S69 _ _ (S6 _ _ h)
      ·rw [am (Ne.symm nft2)]
       exact S69 _ _ gt6
      ·rw [if_pos cm']at hT6 ⊢
       rw [List.take_add_one,ht]
       show Tups _ ((_++(tg.take i++[t]).map tgF).map fmV) _
       rw [List.map_append (f:=tgF),<- List.append_assoc,List.map_append (f:=fmV)]
       obtain ⟨az,ez,gz⟩:=hz
       exact Paired.snoc (hT6.mono tk6) ⟨az,ez,tk _ _ gz⟩
     ·have cm': ¬ mode>0:=fun e=>cm (decide_eq_true e)
      refine ⟨hlt,_,zs6,_,rfl,S6,gt6,hsel6,gfl6,by lia,?_⟩
      rw [if_neg cm']at hT6 ⊢
      exact hT6
    ·rintro Z H6 ⟨_,o9,zs6,o13,rfl,S6,gt6,hsel6,gfl6,l6,hT6⟩
     rw [List.take_of_length_le (by lia),<- hrd]at hT6
     exact ⟨_,rfl,q fl zs6 H6 hfl0 S6 gfl6 hT6⟩
structure Rul where
 pl:Int
 word:Str
 fm:Fm
structure Frm where
 name:Str
 own:Srt
 parts:List Srt
 rules:List Rul
inductive RepR (H:Hp) (r:Rul) (v:V):Prop
 | mk: ∀ a u,(v=.ref a)->(H a=some (.tup [.int r.pl,.str r.word,u]))->(Rep H r.fm u)->RepR H r v
theorem RepR.mono {H H':Hp} (t:TK H H') {r:Rul} {v:V}:RepR H r v->RepR H' r v:=fun ⟨a,u,e,h,p⟩=>⟨a,u,e,t _ _ h,p.mono t⟩
def RepRs (H:Hp) (rs:List Rul) (vs:List V):Prop:=Paired (RepR H) rs vs
theorem RepRs.mono {H H':Hp} (t:TK H H') {rs:List Rul} {vs:List V} (h:RepRs H rs vs):RepRs H' rs vs:=Paired.mapP h fun _ _ r=>r.mono t
theorem RepRs.len {H:Hp} {rs:List Rul} {vs:List V} (h:RepRs H rs vs):rs.length=vs.length:=Paired.length h
noncomputable def be (qs:List Srt):List V:=qs.map fun q=>V.str (Srt.name q)
inductive RepF (H:Hp) (fr:Frm) (v:V):Prop
 | mk: ∀ a pa ra rv,(v=.ref a)->(H a=some (.tup [.str fr.name,.str fr.own.name,.ref pa,.ref ra]))->(H pa=some (.tup (be fr.parts)))->(H ra=some (.tup rv))->(RepRs H fr.rules rv)->RepF H fr v
theorem RepF.mono {H H':Hp} (t:TK H H') {fr:Frm} {v:V}:RepF H fr v->RepF H' fr v:=fun ⟨a,pa,ra,rv,e,h1,h2,h3,h4⟩=>⟨a,pa,ra,rv,e,t _ _ h1,t _ _ h2,t _ _ h3,h4.mono t⟩
def rP (o:Srt) (qs:List Srt) (mode:Int) (rules:List Rul):Prop:=rules.map (fun r=>(r.pl,r.word))=cP o qs/\ ∀ (j:Nat) r,rules[j]? =some r->r.fm.wfp (fun f=>f∈rds o qs mode j)/\r.fm.size<=15
noncomputable def ni:Fm->Prop
 | .own x=>cQ x=true
 | .part k x=>(0<=k/\k<=2)/\cQ x=true
 | _=>False
theorem pj {k:Int}: ∀ {qs:List Srt} {t:Int×Str},t∈cL k qs->k<=t.1/\t.1<k+qs.length/\ ∃ q∈qs,t.2∈q.downs:=by
 intro qs
 induction qs generalizing k with
 | nil=>intro t h;cases h
 | cons q r ih=>
  intro t h
  unfold cL at h
  rw [List.mem_append]at h
  rcases h with h | h
  ·obtain ⟨x,hx,rfl⟩:=List.mem_map.mp h
   exact ⟨Int.le_refl _,by rw [List.length_cons];show k<_;lia,q,List.mem_cons_self,hx⟩
  ·obtain ⟨h1,h2,q',h3,h4⟩:=ih h
   exact ⟨by lia,by rw [List.length_cons];lia,q',List.mem_cons_of_mem _ h3,h4⟩
theorem pT {k:Int}: ∀ {qs:List Srt} {f:Fm},f∈cR k qs-> ∃ j x,f=.part j x/\k<=j/\j<k+qs.length/\ ∃ q∈qs,x∈q.ups:=by
 intro qs
 induction qs generalizing k with
 | nil=>intro t h;cases h
 | cons q r ih=>
  intro t h
  unfold cR at h
  rw [List.mem_append]at h
  rcases h with h | h
  ·obtain ⟨x,hx,rfl⟩:=List.mem_map.mp h
   exact ⟨k,x,rfl,Int.le_refl _,by rw [List.length_cons];lia,q,List.mem_cons_self,hx⟩
  ·obtain ⟨j,x,e,h1,h2,q',h3,h4⟩:=ih h
   exact ⟨j,x,e,by lia,by rw [List.length_cons];lia,q',List.mem_cons_of_mem _ h3,h4⟩
theorem uh {ss:List Srt} {o:Srt} {qs:List Srt} (hok: ∀ s∈ss,s.ok) (ho:o∈ss) (hq: ∀ q∈qs,q∈ss) (hl:qs.length<=3) {t:Int×Str} (ht:t∈cP o qs):ni (tgF t):=by
 unfold cP at ht
 rw [List.mem_append]at ht
 unfold tgF
 rcases ht with h | h
 ·obtain ⟨x,hx,rfl⟩:=List.mem_map.mp h
  rw [if_pos (show ((-1:Int),x).1<0 from (by decide:(-1:Int) <0))]
  exact (hok o ho).2.1 x (List.mem_append_right _ hx)
 ·obtain ⟨h1,h2,q,h3,h4⟩:=pj h
  rw [if_neg (by lia)]
  exact ⟨⟨h1,by lia⟩,(hok q (hq q h3)).2.1 _ (List.mem_append_left _ h4)⟩
theorem uI {ss:List Srt} {o:Srt} {qs:List Srt} {mode j:Int} (hok: ∀ s∈ss,s.ok) (ho:o∈ss) (hq: ∀ q∈qs,q∈ss) (hl:qs.length<=3) {f:Fm} (hf:f∈rds o qs mode j):ni f:=by
 unfold rds at hf
 rw [List.mem_append,List.mem_append]at hf
 rcases hf with (h | h) | h
 ·obtain ⟨x,hx,rfl⟩:=List.mem_map.mp h
  exact (hok o ho).2.1 x (List.mem_append_left _ hx)
 ·obtain ⟨k,x,rfl,h1,h2,q,h3,h4⟩:=pT h
  exact ⟨⟨h1,by lia⟩,(hok q (hq q h3)).2.1 _ (List.mem_append_right _ h4)⟩
 ·by_cases c:mode>0
  ·rw [if_pos c]at h
   obtain ⟨t,ht,rfl⟩:=List.mem_map.mp h
   refine uh hok ho hq hl ?_
   unfold fc at ht
   by_cases c2:mode=2
   ·rw [if_pos c2]at ht;exact List.mem_of_mem_take ht
   ·rw [if_neg c2]at ht;exact ht
  ·rw [if_neg c]at h;cases h
theorem pX {α β:Type} {F:α->β->Prop}: ∀ {l:List α} {r:List β} {b:β},Paired F l r->b∈r-> ∃ a∈l,F a b:=fun {l r b} h m=>by
 obtain ⟨i,hi⟩:=List.getElem?_of_mem m
 obtain ⟨a,ha,f⟩:=aJ h hi
 exact ⟨a,List.mem_of_getElem? ha,f⟩
theorem vD {H:Hp} {f:Fm} {v:V} (hl:ni f) (h:wp H (fmV f) v):Rep H f v/\f.size=1:=by
 obtain ⟨a,rfl,ha⟩:=h
 cases f with
 | own x=>exact ⟨⟨a,rfl,ha⟩,rfl⟩
 | part k x=>exact ⟨⟨a,rfl,ha⟩,rfl⟩
 | num n=>exact hl.elim
 | bin op x y=>exact hl.elim
 | whn x y z=>exact hl.elim
theorem vC {ρ:Fm->Prop} {f:Fm} (hl:ni f) (h:ρ f):f.wfp ρ:=by
 cases f with
 | own x=>exact ⟨hl,h⟩
 | part k x=>exact ⟨hl,h⟩
 | num n=>exact hl.elim
 | bin op x y=>exact hl.elim
 | whn x y z=>exact hl.elim
theorem wK {H:Hp} {ss:List Srt} {o:Srt} {qs:List Srt} {mode j:Int} {zs:List V} (hok: ∀ s∈ss,s.ok) (ho:o∈ss) (hq: ∀ q∈qs,q∈ss) (hl:qs.length<=3) (h:Tups H ((rds o qs mode j).map fmV) zs):LvsP (fun f=>f∈rds o qs mode j) H zs:=fun v hv=>by
 obtain ⟨ys,hy,hz⟩:=pX h hv
 obtain ⟨f,hf,rfl⟩:=List.mem_map.mp hy
 have lf:=uI hok ho hq hl hf
 obtain ⟨r,s⟩:=vD lf hz
 exact ⟨f,r,vC lf hf,s⟩
theorem wL {ss:List Srt} {o:Srt} {qs:List Srt} {mode j:Int} (hok: ∀ s∈ss,s.ok) (ho:o∈ss) (hq: ∀ q∈qs,q∈ss) (hl:qs.length<=3):(rds o qs mode j).length<=24:=by
 have h1:=hJ 0 qs fun s hs=>hok s (hq s hs)
 have h2:=(hok o ho).2.2.1
 have h3:=jC hok ho hq hl
 have h4:=kX o qs mode j
 unfold rds
 rw [List.length_append,List.length_append,List.length_map]
 by_cases c:mode>0
 ·rw [if_pos c,List.length_map];lia
 ·rw [if_neg c];show _+0<=24;lia
inductive gy  (vs:List V) (H:Hp) (Q:VK) (E_:XK):Prop
 | mk: ∀ tp sa pa ss nm o qs mode,(vs=[.ref tp,.ref sa,.str nm,.str (Srt.name o),.ref pa,.int mode])->(Tp H tp)->(SrtsAt H sa ss)->(dQ ss)->(o∈ss)->(H pa=some (.tup (be qs)))->((∀ q∈qs,q∈ss))->(qs.length<=3)->(∀ v rules H',RepF H' ⟨nm,o,qs,rules⟩ v->rP o qs mode rules->Kp tp H H'->Tp H' tp->Q v H')->gy vs H Q E_
theorem scLForm:aB ["tape","sorts","name","own","parts","mode","rules","targets","j","readings"] ["tape","sorts","name","own","parts","mode"] (ag pO):=fsc
theorem vf (F:Fun K "_law_form" "_law_form" pO f fd) (G:Gb mg) (GT:FnOk P w K mg base CX0 1 g gd ["sorts","own","parts"] gv) (bT:Binds K gd ["sorts","own","parts"] []) (kT:W.keepIn K (.ref g)=true) (mT:mg "_law_targets"=some (.ref g))
  (GR:FnOk P w K mg base CX0 2 f2 fd2 ["sorts","own","parts","mode","j"] fQ) (bR:Binds K fd2 ["sorts","own","parts","mode","j"] []) (kR:W.keepIn K (.ref f2)=true) (mR:mg "_law_readings"=some (.ref f2))
  (GF: ∀ ρ,FnOk P w K mg base CX0 4 f3 fd3 ["tape","readings"] (fz ρ)) (bF:Binds K fd3 ["tape","readings"] []) (kF:W.keepIn K (.ref f3)=true) (mF:mg "_law_formula"=some (.ref f3)):
  FnOk P w K mg base CX0 5 f fd ["tape","sorts","name","own","parts","mode"] gy:=by
 have GF':FnOk P w K mg base CX0 4 f3 fd3 ["tape","readings"] (fun vs H Q E=> ∃ ρ,fz ρ vs H Q E):=⟨fun vs H Q E ⟨ρ,h⟩=>(GF ρ).len vs H Q E h,fun A outer s H args us vs Q E hr he hb hv ⟨ρ,h⟩=>(GF ρ).run A outer s H args us vs Q E hr he hb hv h⟩
 refine F.ok scLForm (fun vs H Q E h=>?_) (fun cdv A outer s H vs Q E hr h=>?_)
 ·obtain ⟨tp,sa,pa,ss,nm,o,qs,mode,rfl,_⟩:=h
  rfl
 obtain ⟨tp,sa,pa,ss,nm,o,qs,mode,rfl,hT,hsa,hok,ho,hpa,hqs,hql,q⟩:=h
 refine ⟨_,ae (aq (i:=6) scLForm.nd rfl (Or.inl rfl) (aU ac))
  (ae (aq (i:=7) scLForm.nd rfl (Or.inl rfl) (ak GT (hr.mono (show 1<=4 by decide)) rfl mT kT bT .nil av (aa (pv 1) (aa (pv 3) (aa (pv 4) ac)))))
  (ae (bg PassesOwn.never rfl (br rfl G.range (aa (aF (r:=de K) aA rfl G.len PySem.boot_len (aa (pv 7) ac)) ac)) (aH (i:=8) scLForm.nd rfl (Or.inl rfl))
   (ae (aq (i:=9) scLForm.nd rfl (Or.inl rfl) (ak GR (hr.mono (show 2<=4 by decide)) rfl mR kR bR .nil av (aa (pv 1) (aa (pv 3) (aa (pv 4) (aa (pv 5) (aa (pv 8) ac)))))))
   (ai (cJ (dH PySem.F.plainAttrs_list PySem.F.slot_list_append PySem.F.type_list_append bM (pv 6) (aa
    (aP (aa (ao (r:=aC K) al (ao (r:=cI K) aS (pv 7) (pv 8) (fun _ _=>rfl)) ad (fun _ _=>rfl)) (aa (ao (r:=aC K) al (ao (r:=cI K) aS (pv 7) (pv 8) (fun _ _=>rfl)) ad (fun _ _=>rfl))
     (aa (ak GF' hr rfl mF kF bF .nil av (aa (pv 0) (aa (pv 9) ac))) ac)))) ac))))))
  (ai (ax (aP (aa (pv 2) (aa (pv 3) (aa (pv 4) (aa (bj (r:=dX K) bw rfl G.tuple (by decide +kernel) (aa (pv 6) ac)) ac))))))))),?_⟩
 refine ⟨(by show 0<=sizeLine;decide),fun rl hrl=>?_⟩
 have s0:=af hrl (.lst [])
 have g0:(upd H rl (.lst [])) rl=some (.lst []):=ab
 have nrt:=cK hT hrl
 have t0:=hT.new (o:=.lst []) hrl
 generalize upd H rl (.lst [])=H0 at s0 g0 t0 ⊢
 refine ⟨_,rfl,_,rfl,_,rfl,sa,pa,ss,o,qs,rfl,hsa.mono (au s0),hok,ho,s0 _ _ hpa,hqs,hql,fun tl zt H1 htl s1 gtl hTt=>?_⟩
 have S1:Same H H1:=s0.trans s1
 have grl1:=s1 _ _ g0
 have tt1:=t0.same s1
 have ntt:tl≠tp:=cK t0 htl
 have nrl:rl≠tl:=aj g0 htl
 have lt12:=jC hok.2.2.2.2 ho hqs hql
 have lzt:zt.length=(cP o qs).length:=by rw [<- hTt.len,List.length_map]
 refine ⟨_,rfl,tl,zt,rfl,.inl (SqL.of gtl),_,rfl,by lia,by lia,?_⟩
 refine cB (fun i Z H'=> ∃ o8 o9 rv rules,Z=[some (.ref tp),some (.ref sa),some (.str nm),some (.str o.name),some (.ref pa),some (.int mode),some (.ref rl),some (.ref tl),o8,o9]/\Kp tp H H'/\Tp H' tp/\H' tl=some (.lst zt)/\Tups H' ((cP o qs).map tgV) zt/\
   H' rl=some (.lst rv)/\RepRs H' rules rv/\rules.map (fun r=>(r.pl,r.word))=(cP o qs).take i/\ ∀ (j:Nat) r,rules[j]? =some r->r.fm.wfp (fun f=>f∈rds o qs mode j)/\r.fm.size<=15)
  ⟨none,none,[],[],rfl,Kp.refl.same S1,tt1,gtl,hTt,grl1,.nil,rfl,fun j r h=>by cases h⟩ ?_ ?_
 ·rintro i Z H2 hi ⟨o8,o9,rv,rules,rfl,k2,tt2,gtl2,hTt2,grl2,hRr,hmap,hfm⟩
  have hi':i< (cP o qs).length:=by lia
  have tk2:=k2.tk hT
  have lrules:rules.length=i:=by
   have:=congrArg List.length hmap
   rw [List.length_map,List.length_take]at this
   lia
  have lrv:rv.length=i:=by rw [<- hRr.len];exact lrules
  refine ⟨_,rfl,_,rfl,_,rfl,_,rfl,_,rfl,sa,pa,ss,o,qs,mode,0+ (i:Int),rfl,hsa.mono tk2,hok,ho,tk2 _ _ hpa,hqs,hql,by lia,by lia,fun rdl zr H3 hrdl s3 grdl hTr=>?_⟩
  have tt3:=tt2.same s3
  have grl3:=s3 _ _ grl2
  have gtl3:=s3 _ _ gtl2
  have hTt3:=hTt2.mono (au s3)
  have nrdt:rdl≠tp:=cK tt2 hrdl
  obtain ⟨t,ht⟩: ∃ t,(cP o qs)[i]? =some t:=⟨(cP o qs)[i],List.getElem?_eq_getElem hi'⟩
  obtain ⟨x,hx⟩: ∃ x,zt[i]? =some x:=⟨zt[i]'(by lia),List.getElem?_eq_getElem (by lia)⟩
  obtain ⟨ys,hys,a,rfl,ha⟩:=aJ hTt3 hx
  have eys:ys=tgV t:=by
   rw [List.getElem?_map,ht]at hys
   exact (Option.some.inj hys).symm
  subst eys
  have eat:atI zt (0+ (i:Int))=some (.ref a):=by
   rw [Int.zero_add]
   exact ar hx
  refine ⟨_,rfl,.inl ⟨rfl,_,SqL.of grl3⟩,?_⟩
  refine ⟨_,rfl,_,rfl,tl,_,_,_,rfl,rfl,SqL.of gtl3,eat,a,_,0,.int t.1,rfl,rfl,SqT.of ha,bi,?_⟩
  refine ⟨_,rfl,_,rfl,tl,_,_,_,rfl,rfl,SqL.of gtl3,eat,a,_,1,.str t.2,rfl,rfl,SqT.of ha,ar (j:=1) rfl,?_⟩
  have lzr:zr.length<=24:=by
   rw [<- hTr.len,List.length_map]
   exact wL hok.2.2.2.2 ho hqs hql
  refine ⟨_,rfl,_,rfl,fun fm=>fm∈rds o qs mode (0+ (i:Int)),tp,rdl,zr,rfl,tt3,nrdt,grdl,by lia,wK hok.2.2.2.2 ho hqs hql hTr,fun v fm H4 rp wf sz k4 tt4=>?_⟩
  have k24:Kp tp H2 H4:=(Kp.refl.same s3).trans k4
  have grl4:=k24 _ _ grl2 nrt
  have gtl4:=k24 _ _ gtl2 ntt
  refine ⟨(by show 3<=sizeLine;decide),fun p5 hp5=>?_⟩
  have s5:=af hp5 (.tup [.int t.1,.str t.2,v])
  have g5:(upd H4 p5 (.tup [.int t.1,.str t.2,v])) p5=some (.tup [.int t.1,.str t.2,v]):=ab
  have tt5:=tt4.same s5
  generalize upd H4 p5 (.tup [.int t.1,.str t.2,v])=H5 at s5 g5 tt5 ⊢
  have k25:Kp tp H2 H5:=k24.same s5
  have grl5:=s5 _ _ grl4
  refine ⟨rl,rv,.ref p5,rfl,rfl,grl5,aG (by lia),?_⟩
  have tk:TK H5 (upd H5 rl (.lst (rv++[.ref p5]))):=TK.lst grl5
  have tk26:TK H2 (upd H5 rl (.lst (rv++[.ref p5]))):=(k25.tk tt2).trans tk
  refine ⟨_,_,rv++[.ref p5],rules++[⟨t.1,t.2,fm⟩],rfl,?_,?_,?_,hTt2.mono tk26,ab,?_,?_,?_⟩
  ·intro b oo hb hbn
   rw [am (aj hb hrl)]
   exact k25 _ _ (k2 _ _ hb hbn) hbn
  ·obtain ⟨t9,e9⟩:=tt5
   exact ⟨t9,by rw [am (Ne.symm nrt)];exact e9⟩
  ·rw [am (Ne.symm nrl)]
   exact s5 _ _ gtl4
  ·exact Paired.snoc (hRr.mono tk26) ⟨p5,v,rfl,tk _ _ g5,rp.mono ((au s5).trans tk)⟩
  ·rw [List.map_append,hmap,List.take_add_one,ht]
   rfl
  ·intro j r hj
   by_cases c:j<i
   ·rw [List.getElem?_append_left (by lia)]at hj
    exact hfm j r hj
   ·rw [List.getElem?_append_right (by lia),lrules]at hj
    have hji:j=i:=by
     by_cases c2:j=i
     ·exact c2
     ·have:j-i≠0:=by lia
      rw [List.getElem?_eq_none (by show 1<=j-i;lia)]at hj
      cases hj
    subst hji
    rw [Nat.sub_self]at hj
    have:r=⟨t.1,t.2,fm⟩:=(Option.some.inj hj).symm
    subst this
    rw [Int.zero_add]at wf
    exact ⟨wf,sz⟩
 ·rintro Z H2 ⟨o8,o9,rv,rules,rfl,k2,tt2,gtl2,hTt2,grl2,hRr,hmap,hfm⟩
  have tk2:=k2.tk hT
  rw [List.take_of_length_le (by lia)]at hmap
  refine ⟨_,rfl,_,rfl,_,rfl,_,rfl,rl,rv,rfl,.inl ⟨SqL.of grl2,fun p3 hp3=>?_⟩⟩
  have s3:=af hp3 (.tup rv)
  have g3:(upd H2 p3 (.tup rv)) p3=some (.tup rv):=ab
  generalize upd H2 p3 (.tup rv)=H3 at s3 g3 ⊢
  refine ⟨(by show 4<=sizeLine;decide),fun p4 hp4=>?_⟩
  have s4:=af hp4 (.tup [.str nm,.str o.name,.ref pa,.ref p3])
  refine q (.ref p4) rules _ ⟨p4,pa,p3,rv,rfl,ab,s4 _ _ (s3 _ _ (tk2 _ _ hpa)),s4 _ _ g3,hRr.mono (au (s3.trans s4))⟩ ⟨hmap,hfm⟩ (k2.same (s3.trans s4)) (tt2.same (s3.trans s4))
structure Bk where
 wheel:Int
 sorts:List Srt
 forms:List Frm
def RepFs (H:Hp) (fs:List Frm) (vs:List V):Prop:=Paired (RepF H) fs vs
theorem RepFs.mono {H H':Hp} (t:TK H H') {fs:List Frm} {vs:List V} (h:RepFs H fs vs):RepFs H' fs vs:=Paired.mapP h fun _ _ r=>r.mono t
theorem RepFs.len {H:Hp} {fs:List Frm} {vs:List V} (h:RepFs H fs vs):fs.length=vs.length:=Paired.length h
inductive RepB (H:Hp) (b:Bk) (v:V):Prop
 | mk: ∀ a sa fa fv,(v=.ref a)->(H a=some (.tup [.int b.wheel,.ref sa,.ref fa]))->(SrtsAt H sa b.sorts)->(H fa=some (.tup fv))->(RepFs H b.forms fv)->RepB H b v
theorem RepB.mono {H H':Hp} (t:TK H H') {b:Bk} {v:V}:RepB H b v->RepB H' b v:=fun ⟨a,sa,fa,fv,e,h1,h2,h3,h4⟩=>⟨a,sa,fa,fv,e,t _ _ h1,h2.mono t,t _ _ h3,h4.mono t⟩
def xS (ss:List Srt) (mode:Int) (fr:Frm):Prop:=fr.own∈ss/\(∀ q∈fr.parts,q∈ss)/\fr.parts.length<=3/\rP fr.own fr.parts mode fr.rules
structure qG (b:Bk):Prop where
 so:dQ b.sorts
 wh:2<=b.wheel/\b.wheel<=10^30
 few:b.forms.length<=10
 more:b.sorts.length<=b.forms.length
 nd:(b.forms.map Frm.name).Nodup
 wd: ∀ fr∈b.forms,cQ fr.name=true
 fo: ∃ mode:Int,(mode=0\/mode=1\/mode=2)/\ ∀ fr∈b.forms,xS b.sorts mode fr
 own: ∀ k,k<b.sorts.length->(b.forms[k]?).map Frm.own=b.sorts[k]?
 nil: ∀ fr,b.forms[0]? =some fr->fr.parts=[]
theorem SqL.keep {K:W.Frag} {H H':Hp} {a:Addr} {xs:List V} (h:SqL K H a xs) (k: ∀ o,H a=some o->H' a=some o):SqL K H' a xs:=by
 rcases h with (h | ⟨o,h⟩) | h
 ·exact .inl (.inl (k _ h))
 ·exact .inl (.inr ⟨o,k _ h⟩)
 ·exact .inr h
theorem ma {H:Hp} {ss:List Srt} {xs:List V} (h:RepSs H ss xs) {d:Int} (h0:0<=d) (h1:d<xs.length): ∃ q a b c,ss[d.toNat]? =some q/\atI xs d=some (.ref a)/\H a=some (.tup [.str (Srt.name q),b,c]):=by
 obtain ⟨x,ex,ex2⟩:=eY h0 h1
 obtain ⟨q,hq,a,b,c,rfl,ha,_⟩:=aJ h ex2
 exact ⟨q,a,.ref b,.ref c,hq,ex,ha⟩
inductive pF (K:W.Frag) (vs:List V) (H:Hp) (Q:VK) (E_:XK):Prop
 | mk: ∀ (sc:Addr) (ns:List Int) (st:Int) (few:Bool),(vs=[.ref sc,.int st,.bl few])->(SqL K H sc (ns.map V.int))->(ns.length<=63)->(0<=st)->(st<900)->(∀ v bk H',RepB H' bk v->qG bk->Same H H'->Q v H')->pF K vs H Q E_
noncomputable def fF (s:Stmt):List Stmt:=match s with
 | .For _ _ b _ _=>b
 | _=>[]
noncomputable def bkFor:List Stmt:=fF ((bV fJ).getD 8 (.Pass ⟨0,0,0,0⟩))
inductive lV (H:Hp) (sc hd sa nl fl:Addr) (st wh mode gr mo:Int) (few:Bool) (ss:List Srt) (ws:List Str) (i:Nat) (Z:St) (H':Hp):Prop
 | mk: ∀ o11 o12 o13 o14 o15 fv frs,(Z=[some (.ref sc),some (.int st),some (.bl few),some (.ref hd),some (.int wh),some (.int mode),some (.int gr),some (.int mo),some (.ref sa),some (.ref nl),some (.ref fl),o11,o12,o13,o14,o15])->(Same H H')->(SrtsAt H' sa ss)->(H' nl=some (.lst (ws.map V.str)))->(H' fl=some (.lst fv))->(RepFs H' frs fv)->(frs.length=i)->(frs.map Frm.name=ws.take i)->((∀ fr∈frs,xS ss mode fr))->((∀ k,k<i->k<ss.length->(frs[k]?).map Frm.own=ss[k]?))->(∀ fr,frs[0]? =some fr->fr.parts=[])->lV H sc hd sa nl fl st wh mode gr mo few ss ws i Z H'
theorem ut {α:Type} {l:List α} {x y:α} {j:Nat} (h:(l++[x])[j]? =some y):(j<l.length/\l[j]? =some y)\/(j=l.length/\y=x):=by
 by_cases c:j<l.length
 ·rw [List.getElem?_append_left c]at h
  exact .inl ⟨c,h⟩
 ·rw [List.getElem?_append_right (by lia)]at h
  by_cases c2:j-l.length=0
  ·rw [c2]at h
   exact .inr ⟨by lia,(Option.some.inj h).symm⟩
  ·rw [List.getElem?_eq_none (by show 1<=j-l.length;lia)]at h
   cases h
abbrev jp:List Str:=["script","start","few","head","wheel","mode","grown","more","sorts","names","forms","k","tape","own","many","parts"]
theorem scBook:aB jp ["script","start","few"] (ag fJ):=fsc
theorem v8 {cdv:Value} {A:Around} {outer:List Env} {s:Shared} {H H0:Hp} {E:XK} (G:Gb mg)
  (GD:FnOk P w K mg base CX0 1 g gd ["tape","many"] bo) (bD:Binds K gd ["tape","many"] []) (kD:W.keepIn K (.ref g)=true) (mD:mg "_law_digit"=some (.ref g))
  (GF:FnOk P w K mg base CX0 5 f2 fd2 ["tape","sorts","name","own","parts","mode"] gy) (bF:Binds K fd2 ["tape","sorts","name","own","parts","mode"] []) (kF:W.keepIn K (.ref f2)=true) (mF:mg "_law_form"=some (.ref f2))
  (hr:Room 5 (cV CX0 P w K mg base jp "_law_book" (ag fJ) f cdv A outer s H0 E).nox.A):
  ∃ t,PSs (cV CX0 P w K mg base jp "_law_book" (ag fJ) f cdv A outer s H0 E).nox (bkFor.drop 5) t/\
   ∀ (sc hd sa nl fl:Addr) (st wh mode gr mo:Int) (few:Bool) (ss:List Srt) (ws:List Str),dQ ss->ws.length=10->H fl=none->nl≠fl-> ∀ (D:cH) (i:Nat) (Z:St) (H2 H5:Hp) (tp:Addr) (o:Srt) (m:Int) (o15:Option V),lV H sc hd sa nl fl st wh mode gr mo few ss ws i Z H2->i<10->H2 tp=none->Same H2 H5->Tp H5 tp->o∈ss->(i<ss.length->ss[i]? =some o)->0<=m->m<=3->(i=0->m=0)->
    (∀ Z' H',lV H sc hd sa nl fl st wh mode gr mo few ss ws (i+1) Z' H'->D.nx Z' H')->
    t D [some (.ref sc),some (.int st),some (.bl few),some (.ref hd),some (.int wh),some (.int mode),some (.int gr),some (.int mo),some (.ref sa),some (.ref nl),some (.ref fl),some (.int (0+ (i:Int))),some (.ref tp),some (.str o.name),some (.int m),o15] H5:=by
 have hr1:=hr.mono (show 1<=5 by decide)
 refine ⟨_,ae (aq (i:=15) scBook.nd rfl (Or.inl rfl) (bj (r:=dX K) bw rfl G.tuple (by decide +kernel) (aa
   (cy (sc0:=ag fJ) (N0:=jp) (ys:=["sorts","tape"]) (fr:=[8,12]) rfl (br rfl G.range (aa (pv 14) ac)) rfl rfl
    cok
    (fun C s H ex=>ao (r:=aC K) al (ao (r:=aC K) al (pv 1) (ak GD hr1 rfl mD kD bD .nil av (aa (pv 2) (aa (aF (r:=de K) aA rfl G.len PySem.boot_len (aa (pv 1) ac)) ac))) (fun _ _=>rfl)) ad (fun _ _=>rfl))) ac)))
  (ai (cJ (dH PySem.F.plainAttrs_list PySem.F.slot_list_append PySem.F.type_list_append bM (pv 10) (aa
   (ak GF hr rfl mF kF bF .nil av (aa (pv 12) (aa (pv 8) (aa (ao (r:=cI K) aS (pv 9) (pv 11) (fun _ _=>rfl)) (aa (pv 13) (aa (pv 15) (aa (pv 5) ac))))))) ac)))),?_⟩
 rintro sc hd sa nl fl st wh mode gr mo few ss ws hok hws hfl0 hnf D i Z H2 H5 tp o m o15 ⟨o11,o12,o13,o14,o15',fv,frs,rfl,sm,hsa,gnl,gfl,hF,hfl,hnm,hfok,hown,hnil⟩ hi htp s5 tt5 ho hoi hm0 hm3 hmi hD
 obtain ⟨xs,gsa,hR⟩:=hsa.mono (au s5)
 have lxs:=hR.len
 refine ⟨_,rfl,m,rfl,by lia,by lia,?_⟩
 refine gQ (n:=m.toNat) (R:=fun i v=>v=.int (0+i)) (by lia) nk iF jy
  (fun p n zs H'=>Kp tp H5 H'/\Tp H' tp/\H' p=some (.lst zs)/\p≠tp/\ ∃ qs,zs=be qs/\qs.length=n/\ ∀ q∈qs,q∈ss) ?_ ?_ ?_ ?_
 ·intro p hp
  exact ⟨Kp.refl.new hp,tt5.new hp,ab,cK tt5 hp,[],rfl,rfl,fun q h=>by cases h⟩
 ·rintro p n zs H' ⟨_,_,gp,_,qs,rfl,hl,_⟩
  exact ⟨gp,by unfold be;rw [List.length_map];exact hl⟩
 ·rintro p n zs H' v k hp hn rfl ⟨k6,tt6,gp,hpn,qs,rfl,hl,hqs⟩ hk
  have tk6:=k6.tk tt5
  have h1:=hok.1
  refine ⟨_,rfl,_,rfl,_,rfl,sa,_,rfl,.inr (SqT.of (tk6 _ _ gsa)),tp,_,rfl,tt6,by lia,by have:=hok.2.1;lia,fun d t hd0 hd1=>?_⟩
  obtain ⟨q,a,b,c,hq,eat,ha⟩:=ma hR hd0 hd1
  have k7:Kp tp H5 (upd H' tp (.lst [.int t])):=k6.trans Kp.tape
  have tk7:=k7.tk tt5
  refine ⟨sa,xs,d,.ref a,rfl,rfl,SqT.of (tk7 _ _ gsa),eat,a,_,0,_,rfl,rfl,SqT.of (tk7 _ _ ha),bi,?_⟩
  have gp7:(upd H' tp (.lst [.int t])) p=some (.lst (be qs)):=by rw [am hpn];exact gp
  refine hk _ _ gp7 ⟨?_,⟨t,?_⟩,ab,hpn,qs++[q],?_,?_,?_⟩
  ·intro b' o' hb hbn
   rw [am (aj hb hp)]
   exact k7 _ _ hb hbn
  ·rw [am (Ne.symm hpn),ab]
  ·unfold be;rw [List.map_append];rfl
  ·rw [List.length_append,hl];rfl
  ·intro x hx
   rw [List.mem_append,List.mem_singleton]at hx
   rcases hx with h | rfl
   ·exact hqs x h
   ·exact List.mem_of_getElem? hq
 ·rintro p zs H6 hp ⟨k6,tt6,gp,hpn,qs,rfl,hl,hqs⟩
  refine ⟨p,_,rfl,.inl ⟨SqL.of gp,fun pa hpa=>?_⟩⟩
  have s7:=af hpa (.tup (be qs))
  have g7:(upd H6 pa (.tup (be qs))) pa=some (.tup (be qs)):=ab
  have tt7:=tt6.same s7
  generalize upd H6 pa (.tup (be qs))=H7 at s7 g7 tt7 ⊢
  have k27:Kp tp H2 H7:=((Kp.refl.same s5).trans k6).same s7
  have S27:Same H2 H7:=fun b oo h=>k27 b oo h (aj h htp)
  have gfl7:=S27 _ _ gfl
  obtain ⟨nm,enm⟩: ∃ nm,ws[i]? =some nm:=⟨ws[i]'(by lia),List.getElem?_eq_getElem (by lia)⟩
  have eat:atI (ws.map V.str) (0+ (i:Int))=some (V.str nm):=by
   rw [Int.zero_add]
   exact ar (by rw [List.getElem?_map,enm];rfl)
  refine ⟨_,rfl,.inl ⟨rfl,_,SqL.of gfl7⟩,?_⟩
  refine ⟨_,rfl,_,rfl,_,rfl,_,rfl,nl,_,_,_,rfl,rfl,SqL.of (S27 _ _ gnl),eat,_,rfl,_,rfl,_,rfl,tp,sa,pa,ss,nm,o,qs,mode,rfl,tt7,hsa.mono (au S27),hok,ho,g7,hqs,by lia,fun v rules H8 rf rok k8 tt8=>?_⟩
  have S28:Same H2 H8:=fun b oo h=>k8 b oo (S27 b oo h) (aj h htp)
  have gfl8:=S28 _ _ gfl
  have lfv:=hF.len
  refine ⟨fl,fv,v,rfl,rfl,gfl8,aG (by lia),?_⟩
  have tk:TK H8 (upd H8 fl (.lst (fv++[v]))):=TK.lst gfl8
  have tk2:TK H2 (upd H8 fl (.lst (fv++[v]))):=(au S28).trans tk
  refine hD _ _ ⟨_,_,_,_,_,fv++[v],frs++[⟨nm,o,qs,rules⟩],rfl,?_,hsa.mono tk2,?_,ab,?_,?_,?_,?_,?_,?_⟩
  ·intro b oo h
   rw [am (aj h hfl0)]
   exact S28 _ _ (sm _ _ h)
  ·rw [am hnf]
   exact S28 _ _ gnl
  ·exact Paired.snoc (hF.mono tk2) (rf.mono tk)
  ·rw [List.length_append,hfl];rfl
  ·rw [List.map_append,hnm,List.take_add_one,enm];rfl
  ·intro fr hfr
   rw [List.mem_append,List.mem_singleton]at hfr
   rcases hfr with h | rfl
   ·exact hfok fr h
   ·exact ⟨ho,hqs,by show qs.length<=3;lia,rok⟩
  ·intro k hk hks
   by_cases c:k<i
   ·rw [List.getElem?_append_left (by lia)]
    exact hown k c hks
   ·have:k=i:=by lia
    subst this
    rw [List.getElem?_append_right (by lia),hfl,Nat.sub_self]
    show some o=_
    rw [hoi hks]
  ·intro fr hfr
   rcases ut hfr with ⟨h,e⟩ | ⟨h,e⟩
   ·exact hnil fr e
   ·subst e
    have:qs.length=0:=by rw [hl,hmi (by lia)];rfl
    exact List.eq_nil_of_length_eq_zero this
theorem xb {d:Int} (h0:0<=d) (h1:d<5): ∃ m:Int,atI [V.int 2,.int 1,.int 3,.int 2,.int 0] d=some (.int m)/\0<=m/\m<=3:=by
 have h5:d=0\/d=1\/d=2\/d=3\/d=4:=by lia
 rcases h5 with h | h | h | h | h <;> subst h <;> exact ⟨_,rfl,by decide,by decide⟩
theorem w8 {d:Int} (h0:0<=d) (h1:d<5): ∃ m:Int,atI [V.int 0,.int 0,.int 1,.int 2,.int 2] d=some (.int m)/\(m=0\/m=1\/m=2):=by
 have h5:d=0\/d=1\/d=2\/d=3\/d=4:=by lia
 rcases h5 with h | h | h | h | h <;> subst h <;> exact ⟨_,rfl,by decide⟩
theorem w6 {d:Int} (h0:0<=d) (h1:d<3): ∃ m:Int,atI [V.int 3,.int 4,.int 7] d=some (.int m)/\3<=m/\m<=7:=by
 have h5:d=0\/d=1\/d=2:=by lia
 rcases h5 with h | h | h <;> subst h <;> exact ⟨_,rfl,by decide,by decide⟩
theorem ub {z d:Int} (hz0:0<=z) (hz1:z<1000) (h0:0<=d) (h1:d<6): ∃ m:Int,atI [V.int 2,.int 7,.int 10,.int 97,.int (10^ (30:Int).toNat),.int (2+z)] d=some (.int m)/\2<=m/\m<=10^30:=by
 have e:(10:Int) ^ (30:Int).toNat=10^30:=rfl
 have b:(2000:Int)<=10^30:=by decide +kernel
 have h5:d=0\/d=1\/d=2\/d=3\/d=4\/d=5:=by lia
 rcases h5 with h | h | h | h | h | h <;> subst h
 ·exact ⟨2,rfl,by lia,by lia⟩
 ·exact ⟨7,rfl,by lia,by lia⟩
 ·exact ⟨10,rfl,by lia,by lia⟩
 ·exact ⟨97,rfl,by lia,by lia⟩
 ·exact ⟨_,rfl,by rw [e];lia,by rw [e];lia⟩
 ·exact ⟨_,rfl,by lia,by lia⟩
theorem we {cdv:Value} {A:Around} {outer:List Env} {s:Shared} {H H0:Hp} {E:XK} (G:Gb mg)
  (GD:FnOk P w K mg base CX0 1 g gd ["tape","many"] bo) (bD:Binds K gd ["tape","many"] []) (kD:W.keepIn K (.ref g)=true) (mD:mg "_law_digit"=some (.ref g))
  (GF:FnOk P w K mg base CX0 5 f2 fd2 ["tape","sorts","name","own","parts","mode"] gy) (bF:Binds K fd2 ["tape","sorts","name","own","parts","mode"] []) (kF:W.keepIn K (.ref f2)=true) (mF:mg "_law_form"=some (.ref f2))
  (hr:Room 5 (cV CX0 P w K mg base jp "_law_book" (ag fJ) f cdv A outer s H0 E).nox.A):
  ∃ t,PSs (cV CX0 P w K mg base jp "_law_book" (ag fJ) f cdv A outer s H0 E).nox (bkFor.drop 3) t/\
   ∀ (sc hd sa nl fl:Addr) (st wh mode gr mo:Int) (few:Bool) (ss:List Srt) (ws:List Str),dQ ss->ws.length=10->H fl=none->nl≠fl-> ∀ (D:cH) (i:Nat) (Z:St) (H2 H5:Hp) (tp:Addr) (o:Srt) (o14 o15:Option V),lV H sc hd sa nl fl st wh mode gr mo few ss ws i Z H2->i<10->H2 tp=none->Same H2 H5->Tp H5 tp->o∈ss->(i<ss.length->ss[i]? =some o)->
    (∀ Z' H',lV H sc hd sa nl fl st wh mode gr mo few ss ws (i+1) Z' H'->D.nx Z' H')->
    t D [some (.ref sc),some (.int st),some (.bl few),some (.ref hd),some (.int wh),some (.int mode),some (.int gr),some (.int mo),some (.ref sa),some (.ref nl),some (.ref fl),some (.int (0+ (i:Int))),some (.ref tp),some (.str o.name),o14,o15] H5:=by
 have hr1:=hr.mono (show 1<=5 by decide)
 obtain ⟨t2,ht2,hread2⟩:=v8 (cdv:=cdv) (A:=A) (outer:=outer) (s:=s) (H:=H) (H0:=H0) (E:=E) (f:=f) G GD bD kD mD GF bF kF mF hr
 refine ⟨_,ae (aq (i:=14) scBook.nd rfl (Or.inl rfl) (ao (r:=cI K) aS (aU (aa ad (aa ad (aa ad (aa ad (aa ad ac)))))) (ak GD hr1 rfl mD kD bD .nil av (aa (pv 12) (aa ad ac))) (fun _ _=>rfl)))
  (ae (aY (PW.pt (jU (aw bq (pv 11) ad (ay _)) (hU (PW.pt (hV (aw bq (pv 6) ad (ay _)) (fA (aw fK (pv 11) (aF (r:=de K) aA rfl G.len PySem.boot_len (aa (pv 8) ac)) (ay _))))))))
   (ai (aq (i:=14) scBook.nd rfl (Or.inl rfl) ad)) aK) ht2),?_⟩
 intro sc hd sa nl fl st wh mode gr mo few ss ws hok hws hfl0 hnf D i Z H2 H5 tp o o14 o15 hB hi htp s5 tt5 ho hoi hD
 obtain ⟨xs,gsa,hR⟩:SrtsAt H5 sa ss:=by
  obtain ⟨_,_,_,_,_,_,_,_,_,h,_⟩:=hB
  exact h.mono (au s5)
 refine ⟨(by show 5<=sizeLine;decide),fun p hp=>?_⟩
 have npt:=cK tt5 hp
 refine ⟨_,rfl,tp,5,rfl,tt5.new hp,by decide,by decide,fun d t hd0 hd1=>?_⟩
 obtain ⟨m,em,hm0,hm3⟩:=xb hd0 hd1
 refine ⟨p,_,d,.int m,rfl,rfl,SqL.of (by rw [am npt];exact ab),em,?_⟩
 have k6:Kp tp H5 (upd (upd H5 p (.lst [.int 2,.int 1,.int 3,.int 2,.int 0])) tp (.lst [.int t])):=(Kp.refl.new hp).trans Kp.tape
 have tt6:Tp (upd (upd H5 p (.lst [.int 2,.int 1,.int 3,.int 2,.int 0])) tp (.lst [.int t])) tp:=⟨t,ab⟩
 generalize upd (upd H5 p (.lst [.int 2,.int 1,.int 3,.int 2,.int 0])) tp (.lst [.int t])=H6 at k6 tt6 ⊢
 have s6:Same H2 H6:=fun b oo h=>k6 b oo (s5 b oo h) (aj h htp)
 have gsa6:=k6.tk tt5 _ _ gsa
 refine ⟨_,rfl,rfl,_,rfl,?_⟩
 refine cU (fun c=>bt ?_) (fun c=>?_)
 ·exact hread2 sc hd sa nl fl st wh mode gr mo few ss ws hok hws hfl0 hnf D i Z H2 H6 tp o 0 o15 hB hi htp s6 tt6 ho hoi (by decide) (by decide) (fun _=>rfl) hD
 have hne:i=0->m=0:=fun e=>by
  subst e
  exact absurd (decide_eq_true rfl) c
 refine ⟨_,rfl,rfl,_,rfl,?_⟩
 refine cU (fun c2=>?_) (fun c2=>bh ?_)
 ·refine ⟨_,rfl,_,rfl,sa,xs,rfl,.inr (SqT.of gsa6),_,_,rfl,rfl,_,rfl,?_⟩
  refine cU (fun c3=>?_) (fun c3=>?_)
  ·exact hread2 sc hd sa nl fl st wh mode gr mo few ss ws hok hws hfl0 hnf D i Z H2 H6 tp o 0 o15 hB hi htp s6 tt6 ho hoi (by decide) (by decide) (fun _=>rfl) hD
  ·exact hread2 sc hd sa nl fl st wh mode gr mo few ss ws hok hws hfl0 hnf D i Z H2 H6 tp o m o15 hB hi htp s6 tt6 ho hoi hm0 hm3 hne hD
 ·exact hread2 sc hd sa nl fl st wh mode gr mo few ss ws hok hws hfl0 hnf D i Z H2 H6 tp o m o15 hB hi htp s6 tt6 ho hoi hm0 hm3 hne hD
theorem xz {cdv:Value} {A:Around} {outer:List Env} {s:Shared} {H:Hp} {Q:VK} {E:XK} {sc:Addr} {ns:List Int} {st:Int} {few:Bool} (G:Gb mg)
  (GD:FnOk P w K mg base CX0 1 g gd ["tape","many"] bo) (bD:Binds K gd ["tape","many"] []) (kD:W.keepIn K (.ref g)=true) (mD:mg "_law_digit"=some (.ref g))
  (GF:FnOk P w K mg base CX0 5 f2 fd2 ["tape","sorts","name","own","parts","mode"] gy) (bF:Binds K fd2 ["tape","sorts","name","own","parts","mode"] []) (kF:W.keepIn K (.ref f2)=true) (mF:mg "_law_form"=some (.ref f2))
  (GT:FnOk P w K mg base CX0 2 f3 fd3 ["script","k"] (iS K)) (bT:Binds K fd3 ["script","k"] []) (kT:W.keepIn K (.ref f3)=true) (mT:mg "_law_tape"=some (.ref f3))
  (hS:SqL K H sc (ns.map V.int)) (hns:ns.length<=63) (hst0:0<=st) (hst1:st<900) (q: ∀ v bk H',RepB H' bk v->qG bk->Same H H'->Q v H')
  (hr:Room 5 (cV CX0 P w K mg base jp "_law_book" (ag fJ) f cdv A outer s H E).nox.A):
  ∃ t,PSs (cV CX0 P w K mg base jp "_law_book" (ag fJ) f cdv A outer s H E).nox ((bV fJ).drop 8) t/\
   ∀ (hd sa nl fl:Addr) (wh mode gr mo:Int) (ss:List Srt) (ws:List Str) (H5:Hp),dQ ss->NamesAre 10 ws->2<=wh->wh<=10^30->(mode=0\/mode=1\/mode=2)->0<=mo->mo<=7->H fl=none->nl≠fl->H fl=none->
    Same H H5->SrtsAt H5 sa ss->H5 nl=some (.lst (ws.map V.str))->H5 fl=some (.lst [])->
    t {nx:=fun _ H'=>Q .non H',rt:=Q} [some (.ref sc),some (.int st),some (.bl few),some (.ref hd),some (.int wh),some (.int mode),some (.int gr),some (.int mo),some (.ref sa),some (.ref nl),some (.ref fl),none,none,none,none,none] H5:=by
 have hr1:=hr.mono (show 1<=5 by decide)
 have hr2:=hr.mono (show 2<=5 by decide)
 obtain ⟨t1,ht1,hread1⟩:=we (cdv:=cdv) (A:=A) (outer:=outer) (s:=s) (H:=H) (H0:=H) (E:=E) (f:=f) G GD bD kD mD GF bF kF mF hr
 refine ⟨_,ae (bg PassesOwn.never rfl (br rfl G.range (aa (aF (je rfl) rfl G.min (by decide +kernel) (aa ad (aa (aE bf (aF (r:=de K) aA rfl G.len PySem.boot_len (aa (pv 8) ac)) (pv 7)) ac))) ac)) (aH (i:=11) scBook.nd rfl (Or.inl rfl))
   (ae (aq (i:=12) scBook.nd rfl (Or.inr rfl) (ak GT hr2 rfl mT kT bT .nil av (aa (pv 0) (aa (aE bf (aE bf (pv 1) ad) (pv 11)) ac))))
   (ae (aq (i:=13) scBook.nd rfl (Or.inl rfl) (ao (r:=aC K) al (ao (r:=aC K) al (pv 8) (aE cM (pv 11) (aF (r:=de K) aA rfl G.len PySem.boot_len (aa (pv 8) ac))) (fun _ _=>rfl)) ad (fun _ _=>rfl)))
   (ae (aY (aw xO (pv 11) (aF (r:=de K) aA rfl G.len PySem.boot_len (aa (pv 8) ac)) (ay _))
    (ai (aq (i:=13) scBook.nd rfl (Or.inl rfl) (ao (r:=aC K) al (ao (r:=aC K) al (pv 8) (ak GD hr1 rfl mD kD bD .nil av (aa (pv 12) (aa (aF (r:=de K) aA rfl G.len PySem.boot_len (aa (pv 8) ac)) ac))) (fun _ _=>rfl)) ad (fun _ _=>rfl)))) aK) ht1))))
  (ai (ax (aP (aa (pv 4) (aa (pv 8) (aa (bj (r:=dX K) bw rfl G.tuple (by decide +kernel) (aa (pv 10) ac)) ac)))))),?_⟩
 intro hd sa nl fl wh mode gr mo ss ws H5 hok hN hw2 hw3 hmode hmo0 hmo7 hfl0 hnf _ S5 hsa gnl gfl
 obtain ⟨nLen,nNd,nWd⟩:=hN.ok (by decide)
 obtain ⟨xs,gsa,hR⟩:=hsa
 have lxs:=hR.len
 have l1:=hok.1
 have l4:=hok.2.1
 obtain ⟨n,en,hn1,hn2⟩: ∃ n:Int,(if (xs.length:Int) +mo<10 then (xs.length:Int) +mo else 10)=n/\(xs.length:Int)<=n/\n<=10:=⟨_,rfl,by split <;> lia,by split <;> lia⟩
 refine ⟨_,rfl,sa,xs,rfl,.inr (SqT.of gsa),_,rfl,_,_,rfl,rfl,_,_,rfl,?_⟩
 rw [en]
 refine ⟨n,rfl,by lia,by lia,?_⟩
 refine cB (fun i Z H'=>lV H sc hd sa nl fl st wh mode gr mo few ss ws i Z H')
  ⟨none,none,none,none,none,[],[],rfl,S5,⟨xs,gsa,hR⟩,gnl,gfl,.nil,rfl,rfl,fun _ h=>(by cases h),fun k h=>(by lia),fun fr h=>(by cases h)⟩ ?_ ?_
 ·intro i Z H6 hi hB
  have hB':=hB
  obtain ⟨o11,o12,o13,o14,o15,fv,frs,rfl,S6,hsa6,gnl6,gfl6,hF6,_⟩:=hB'
  obtain ⟨xs6,gsa6,hR6⟩:=hsa6
  have lx6:=hR6.len
  refine ⟨_,rfl,_,rfl,_,_,rfl,rfl,_,rfl,_,_,rfl,rfl,sc,ns,_,rfl,SqL.keep hS (fun oo h=>S6 _ _ h),hns,by lia,by lia,fun tp t0 htp=>?_⟩
  have s7:=af htp (.lst [.int t0])
  have tt7:Tp (upd H6 tp (.lst [.int t0])) tp:=⟨t0,ab⟩
  generalize upd H6 tp (.lst [.int t0])=H7 at s7 tt7 ⊢
  have gsa7:=s7 _ _ gsa6
  have hR7:=hR6.mono (au s7)
  have hm0:0<=(0+ (i:Int)) % (xs6.length:Int):=Int.emod_nonneg _ (by lia)
  have hm1:(0+ (i:Int)) % (xs6.length:Int) <xs6.length:=Int.emod_lt_of_pos _ (by lia)
  obtain ⟨o,a,b,c,ho,eat,ha⟩:=ma hR7 hm0 hm1
  refine ⟨_,rfl,_,rfl,_,rfl,sa,xs6,rfl,.inr (SqT.of gsa7),_,_,rfl,rfl,(by show (0:Int) <xs6.length;lia),sa,xs6,_,.ref a,rfl,rfl,SqT.of gsa7,eat,a,_,0,_,rfl,rfl,SqT.of ha,bi,?_⟩
  refine ⟨_,rfl,_,rfl,sa,xs6,rfl,.inr (SqT.of gsa7),_,_,rfl,rfl,_,rfl,?_⟩
  refine cU (fun c=>?_) (fun c=>?_)
  ·have c':(xs6.length:Int)<=0+ (i:Int):=of_decide_eq_true c
   refine ⟨_,rfl,_,rfl,_,rfl,sa,xs6,rfl,.inr (SqT.of gsa7),tp,_,rfl,tt7,by lia,by lia,fun d t1 hd0 hd1=>?_⟩
   have k8:Kp tp H7 (upd H7 tp (.lst [.int t1])):=Kp.tape
   have tt8:Tp (upd H7 tp (.lst [.int t1])) tp:=⟨t1,ab⟩
   generalize upd H7 tp (.lst [.int t1])=H8 at k8 tt8 ⊢
   have tk8:=k8.tk tt7
   obtain ⟨o2,a2,b2,c2,ho2,eat2,ha2⟩:=ma hR7 hd0 hd1
   refine ⟨sa,xs6,d,.ref a2,rfl,rfl,SqT.of (tk8 _ _ gsa7),eat2,a2,_,0,_,rfl,rfl,SqT.of (tk8 _ _ ha2),bi,?_⟩
   exact hread1 sc hd sa nl fl st wh mode gr mo few ss ws hok nLen hfl0 hnf _ i _ H6 H8 tp o2 _ _ hB (by lia) htp (fun y oo h=>k8 y oo (s7 y oo h) (aj h htp)) tt8 (List.mem_of_getElem? ho2) (fun h=>by lia) (fun Z' H' h=>h)
  ·have c': ¬ (xs6.length:Int)<=0+ (i:Int):=fun e=>c (decide_eq_true e)
   have ei:((0+ (i:Int)) % (xs6.length:Int)).toNat=i:=by
    rw [Int.emod_eq_of_lt (by lia) (by lia)]
    lia
   rw [ei]at ho
   exact hread1 sc hd sa nl fl st wh mode gr mo few ss ws hok nLen hfl0 hnf _ i _ H6 H7 tp o _ _ hB (by lia) htp s7 tt7 (List.mem_of_getElem? ho) (fun _=>ho) (fun Z' H' h=>h)
 ·rintro Z H6 ⟨o11,o12,o13,o14,o15,fv,frs,rfl,S6,hsa6,gnl6,gfl6,hF6,lfr,hnm,hfok,hown,hnil⟩
  refine ⟨_,rfl,_,rfl,_,rfl,fl,fv,rfl,.inl ⟨SqL.of gfl6,fun fa hfa=>?_⟩⟩
  have s7:=af hfa (.tup fv)
  have g7:(upd H6 fa (.tup fv)) fa=some (.tup fv):=ab
  generalize upd H6 fa (.tup fv)=H7 at s7 g7 ⊢
  refine ⟨(by show 3<=sizeLine;decide),fun pb hpb=>?_⟩
  have s8:=af hpb (.tup [.int wh,.ref sa,.ref fa])
  have tk68:=au (s7.trans s8)
  refine q (.ref pb) ⟨wh,ss,frs⟩ _ ⟨pb,sa,fa,fv,rfl,ab,hsa6.mono tk68,s8 _ _ g7,hF6.mono tk68⟩ ?_ (S6.trans (s7.trans s8))
  refine ⟨hok,⟨hw2,hw3⟩,?_,?_,?_,?_,⟨mode,hmode,hfok⟩,?_,hnil⟩
  ·show frs.length<=10
   lia
  ·show ss.length<=frs.length
   lia
  ·show (frs.map Frm.name).Nodup
   rw [hnm]
   exact nNd.sublist (List.take_sublist _ _)
  ·intro fr hfr
   refine nWd _ (List.mem_of_mem_take (i:=n.toNat) ?_)
   rw [<- hnm]
   exact List.mem_map_of_mem hfr
  ·intro k hk
   exact hown k (by have:k<ss.length:=hk;lia) hk
theorem wW (F:Fun K "_law_book" "_law_book" fJ f fd) (G:Gb mg)
  (GD:FnOk P w K mg base CX0 1 g gd ["tape","many"] bo) (bD:Binds K gd ["tape","many"] []) (kD:W.keepIn K (.ref g)=true) (mD:mg "_law_digit"=some (.ref g))
  (GF:FnOk P w K mg base CX0 5 f2 fd2 ["tape","sorts","name","own","parts","mode"] gy) (bF:Binds K fd2 ["tape","sorts","name","own","parts","mode"] []) (kF:W.keepIn K (.ref f2)=true) (mF:mg "_law_form"=some (.ref f2))
  (GT:FnOk P w K mg base CX0 2 f3 fd3 ["script","k"] (iS K)) (bT:Binds K fd3 ["script","k"] []) (kT:W.keepIn K (.ref f3)=true) (mT:mg "_law_tape"=some (.ref f3))
  (GS:FnOk P w K mg base CX0 3 f4 fd4 ["tape","few"] l0) (bS:Binds K fd4 ["tape","few"] []) (kS:W.keepIn K (.ref f4)=true) (mS:mg "_law_sorts"=some (.ref f4))
  (GN:FnOk P w K mg base CX0 2 f5 fd5 ["tape","many"] iy) (bN:Binds K fd5 ["tape","many"] []) (kN:W.keepIn K (.ref f5)=true) (mN:mg "_law_names"=some (.ref f5)):
  FnOk P w K mg base CX0 6 f fd ["script","start","few"] (pF K):=by
 refine F.ok scBook (fun vs H Q E h=>?_) (fun cdv A outer s H vs Q E hr h=>?_)
 ·obtain ⟨sc,ns,st,few,rfl,_⟩:=h
  rfl
 obtain ⟨sc,ns,st,few,rfl,hS,hns,hst0,hst1,q⟩:=h
 have hr1:=hr.mono (show 1<=5 by decide)
 have hr2:=hr.mono (show 2<=5 by decide)
 have hr3:=hr.mono (show 3<=5 by decide)
 obtain ⟨t,ht,hread⟩:=xz (cdv:=cdv) (A:=A) (outer:=outer) (s:=s) (H:=H) (Q:=Q) (E:=E) (f:=f) (few:=few) G GD bD kD mD GF bF kF mF GT bT kT mT hS hns hst0 hst1 q hr
 refine ⟨_,ae (aq (i:=3) scBook.nd rfl (Or.inl rfl) (ak GT hr2 rfl mT kT bT .nil av (pac (pv 0) (pac (pv 1) ac))))
  (ae (aq (i:=4) scBook.nd rfl (Or.inl rfl) (ao (r:=cI K) aS (aU (pac ad (pac ad (pac ad (pac ad (pac (aE yx ad ad) (pac (aE bf ad (ak GD hr1 rfl mD kD bD .nil av (pac (pv 3) (pac ad ac)))) ac)))))))
   (ak GD hr1 rfl mD kD bD .nil av (pac (pv 3) (pac ad ac))) (fun _ _=>rfl)))
  (ae (aq (i:=5) scBook.nd rfl (Or.inl rfl) (ao (r:=cI K) aS (aU (pac ad (pac ad (pac ad (pac ad (pac ad ac)))))) (ak GD hr1 rfl mD kD bD .nil av (pac (pv 3) (pac ad ac))) (fun _ _=>rfl)))
  (ae (aq (i:=6) scBook.nd rfl (Or.inl rfl) (ak GD hr1 rfl mD kD bD .nil av (pac (pv 3) (pac ad ac))))
  (ae (aq (i:=7) scBook.nd rfl (Or.inl rfl) (ak GD hr1 rfl mD kD bD .nil av (pac (pv 3) (pac (ao (r:=cI K) aS (aU (pac ad (pac ad (pac ad ac)))) (ak GD hr1 rfl mD kD bD .nil av (pac (pv 3) (pac ad ac))) (fun _ _=>rfl)) ac))))
  (ae (aq (i:=8) scBook.nd rfl (Or.inr rfl) (ak GS hr3 rfl mS kS bS .nil av (pac (pv 3) (pac (pv 2) ac))))
  (ae (aq (i:=9) scBook.nd rfl (Or.inl rfl) (ak GN hr2 rfl mN kN bN .nil av (pac (pv 3) (pac ad ac))))
  (ae (aq (i:=10) scBook.nd rfl (Or.inl rfl) (aU ac)) ht))))))),?_⟩
 refine ⟨_,rfl,_,rfl,sc,ns,st,rfl,hS,hns,hst0,by lia,fun hd t0 hhd=>?_⟩
 have S1:=af hhd (.lst [.int t0])
 have tt1:Tp (upd H hd (.lst [.int t0])) hd:=⟨t0,ab⟩
 generalize upd H hd (.lst [.int t0])=H1 at S1 tt1 ⊢
 refine ⟨10,30,rfl,rfl,⟨by decide,by decide,by decide +kernel⟩,?_⟩
 refine ⟨_,rfl,hd,1000,rfl,tt1,by decide,by decide,fun z t1 hz0 hz1=>⟨2,z,rfl,rfl,?_⟩⟩
 have k2:Kp hd H1 (upd H1 hd (.lst [.int t1])):=Kp.tape
 have tt2:Tp (upd H1 hd (.lst [.int t1])) hd:=⟨t1,ab⟩
 generalize upd H1 hd (.lst [.int t1])=H2 at k2 tt2 ⊢
 refine ⟨(by show 6<=sizeLine;decide),fun p hp=>?_⟩
 have np:=cK tt2 hp
 refine ⟨_,rfl,hd,6,rfl,tt2.new hp,by decide,by decide,fun d t2 hd0 hd1=>?_⟩
 obtain ⟨wh,ewh,hw2,hw3⟩:=ub hz0 hz1 hd0 hd1
 refine ⟨p,_,d,.int wh,rfl,rfl,SqL.of (by rw [am np];exact ab),ewh,?_⟩
 have k3:Kp hd H1 (upd (upd H2 p (.lst [.int 2,.int 7,.int 10,.int 97,.int (10^ (30:Int).toNat),.int (2+z)])) hd (.lst [.int t2])):=(k2.new hp).trans Kp.tape
 have tt3:Tp (upd (upd H2 p (.lst [.int 2,.int 7,.int 10,.int 97,.int (10^ (30:Int).toNat),.int (2+z)])) hd (.lst [.int t2])) hd:=⟨t2,ab⟩
 generalize upd (upd H2 p (.lst [.int 2,.int 7,.int 10,.int 97,.int (10^ (30:Int).toNat),.int (2+z)])) hd (.lst [.int t2])=H3 at k3 tt3 ⊢
 refine ⟨(by show 5<=sizeLine;decide),fun p hp=>?_⟩
 have np:=cK tt3 hp
 refine ⟨_,rfl,hd,5,rfl,tt3.new hp,by decide,by decide,fun d t2 hd0 hd1=>?_⟩
 obtain ⟨mode,emo,hmode⟩:=w8 hd0 hd1
 refine ⟨p,_,d,.int mode,rfl,rfl,SqL.of (by rw [am np];exact ab),emo,?_⟩
 have k4:Kp hd H1 (upd (upd H3 p (.lst [.int 0,.int 0,.int 1,.int 2,.int 2])) hd (.lst [.int t2])):=(k3.new hp).trans Kp.tape
 have tt4:Tp (upd (upd H3 p (.lst [.int 0,.int 0,.int 1,.int 2,.int 2])) hd (.lst [.int t2])) hd:=⟨t2,ab⟩
 generalize upd (upd H3 p (.lst [.int 0,.int 0,.int 1,.int 2,.int 2])) hd (.lst [.int t2])=H4 at k4 tt4 ⊢
 refine ⟨_,rfl,hd,2,rfl,tt4,by decide,by decide,fun gr t3 _ _=>?_⟩
 have k5:Kp hd H1 (upd H4 hd (.lst [.int t3])):=k4.trans Kp.tape
 have tt5:Tp (upd H4 hd (.lst [.int t3])) hd:=⟨t3,ab⟩
 generalize upd H4 hd (.lst [.int t3])=H5 at k5 tt5 ⊢
 refine ⟨_,rfl,(by show 3<=sizeLine;decide),fun p hp=>?_⟩
 have np:=cK tt5 hp
 refine ⟨_,rfl,hd,3,rfl,tt5.new hp,by decide,by decide,fun d t4 hd0 hd1=>?_⟩
 obtain ⟨mm,emm,hmm3,hmm7⟩:=w6 hd0 hd1
 refine ⟨p,_,d,.int mm,rfl,rfl,SqL.of (by rw [am np];exact ab),emm,?_⟩
 have k6:Kp hd H1 (upd (upd H5 p (.lst [.int 3,.int 4,.int 7])) hd (.lst [.int t4])):=(k5.new hp).trans Kp.tape
 have tt6:Tp (upd (upd H5 p (.lst [.int 3,.int 4,.int 7])) hd (.lst [.int t4])) hd:=⟨t4,ab⟩
 generalize upd (upd H5 p (.lst [.int 3,.int 4,.int 7])) hd (.lst [.int t4])=H6 at k6 tt6 ⊢
 refine ⟨hd,mm,rfl,tt6,by lia,by lia,fun mo t5 hmo0 hmo1=>?_⟩
 have k7:Kp hd H1 (upd H6 hd (.lst [.int t5])):=k6.trans Kp.tape
 have tt7:Tp (upd H6 hd (.lst [.int t5])) hd:=⟨t5,ab⟩
 generalize upd H6 hd (.lst [.int t5])=H7 at k7 tt7 ⊢
 refine ⟨_,rfl,_,rfl,hd,few,rfl,tt7,fun sa ss xs H8 gsa hR hok k8 tt8=>?_⟩
 refine ⟨_,rfl,hd,10,rfl,tt8,by decide,by decide,fun nl ws H9 gnl hnl hN hnh k9 tt9=>?_⟩
 refine ⟨(by show 0<=sizeLine;decide),fun fl hfl=>?_⟩
 have k19:Kp hd H1 H9:=k7.trans (k8.trans k9)
 have S9:Same H H9:=fun b oo h=>k19 b oo (S1 b oo h) (aj h hhd)
 have s10:=af hfl (.lst [])
 exact hread hd sa nl fl wh mode gr mo ss ws _ hok hN hw2 hw3 hmode hmo0 (by lia) (S9.free hfl) (aj gnl hfl) (S9.free hfl) (S9.trans s10) (SrtsAt.mono (au s10) (SrtsAt.mono (k9.tk tt8) ⟨xs,gsa,hR⟩)) (s10 _ _ gnl) ab
end My
namespace L2
open PySem PySem.Spec PyProof.Rows
section
variable {X:Cx}
theorem uY:OpR X (binaryOp .Add) (fun x y H Q=> ∃ a b xs ys,x=.ref a/\y=.ref b/\SqT X.K H a xs/\SqT X.K H b ys/\xs.length+ys.length<=sizeLine/\(xs=[]->Q (.ref b) H)/\(xs≠[]->ys=[]->Q (.ref a) H)/\
  (xs≠[]->ys≠[]-> ∀ p,H p=none->Q (.ref p) (upd H p (.tup (xs++ys))))):=by
 intro pins s Z H x y v u Q I rx ry h
 obtain ⟨a,b,xs,ys,rfl,rfl,ha,hb,hz,q0,q1,q2⟩:=h
 by_cases hx:xs=[]
 ·subst hx
  cases rx
  cases ry
  obtain ⟨its,r1,p1,_⟩:=I.tuple ha
  obtain ⟨its2,r2,p2,_⟩:=I.tuple hb
  cases r1
  obtain ⟨⟨cls,dd,data,sl⟩,ho,hc,n,hd⟩:=id p1
  obtain ⟨⟨cls2,dd2,data2,sl2⟩,ho2,hc2,n2,hd2⟩:=id p2
  simp only at hc hd hc2 hd2
  subst hc hd hc2 hd2
  exact concat_meets ⟨_,ho,rfl⟩ ⟨_,ho2,rfl⟩ noFill_tuple_add seq_tuple_add PySem.F.slot_tuple_add PySem.F.entry_tuple_add (PySem.F.args_tuple_add_2 _ _)
   (tuple_addW0 a b #[] its2.toArray n n2 dd dd2 sl sl2 rfl) ⟨ho,ho2,⟨.ref b,H,I,rfl,q0 rfl⟩⟩
 ·exact wR pins s Z H _ _ v u Q I rx ry ⟨a,b,xs,ys,rfl,rfl,ha,hb,hx,hz,q1 hx,q2 hx⟩
end
end L2
namespace HT
open PySem PyProof.Rows
open PySem.AutoSeq1 (wpAny_loadPart')
section
variable {prog:Program} {w:World} {A:Around} {s:Shared} {E:Value->Shared->Prop}
noncomputable def eO (it:Addr):Obj:={cls:=.type "enumerate",data:=.fields #[.none,.bool false,.ref it,rawInt 0,.none,.none]}
theorem tS (l:Addr) (o:Obj) (items:Array Value):Meets (Builtin.«enumerate.__new__» ⟨[.type "enumerate",.ref l],[]⟩)
  (fun _ R s=>s.heap.get? l=some o/\s.heap.IsTuple l items/\R (.ok (.ret (.ref (s.heap.push (tIt l)).objs.size))) {s with heap:=(s.heap.push (tIt l)).push (eO s.heap.objs.size)}):=
 .of_wp fun prog w A R s h=>by
  obtain ⟨hp,g,d,tk,os⟩:=s
  obtain ⟨hl,a1,h⟩:=h
  have hsub:=sub_enumerate
  have b1:Heap.IsTuple (Shared.heap ⟨hp,g,d,tk,os⟩) l items:=a1
  wp_walk using wpAny_loadPart' hl
  refine wpAny_stack_any fun st=>wpAny_pure ?_
  split
  ·rename_i c _ _ _ _ _
   cases (c==Value.type "enumerate") <;> (wp_walk using wpAny_loadPart' hl,wpAny_pyIter_tuple b1;exact ⟨_,rfl,h⟩)
  ·wp_walk using wpAny_loadPart' hl,wpAny_pyIter_tuple b1
   exact ⟨_,rfl,h⟩
theorem call_enumT {l:Addr} {items:Array Value} {Q:Value->Shared->Prop} (a1:s.heap.IsTuple l items)
  (q: ∀ h',IsEnum h' (s.heap.objs.size+1) s.heap.objs.size 0 .none->h'.IsTupleIter s.heap.objs.size l 0->(∀ b o,s.heap.get? b=some o->h'.get? b=some o)->Q (.ref (s.heap.objs.size+1)) {s with heap:=h'}):
  wpAny (model prog w) A (call (.type "enumerate") [.ref l]) Q E s:=by
 obtain ⟨o,ho,_⟩:=id a1
 refine callType_new PySem.F.called_enumerate (by decide) (PySem.F.typeCall_enumerate_1 _) (PySem.F.newCall_enumerate_1 _) (fun obj=>PySem.F.args_object_init_2 obj _) PySem.F.entry_enumerate_new (tS l o items) ⟨ho,a1,?_⟩
 have z1:(s.heap.push (tIt l)).objs.size=s.heap.objs.size+1:=Heap.size_push ..
 have g2:((s.heap.push (tIt l)).push (eO s.heap.objs.size)).get? (s.heap.push (tIt l)).objs.size=some (eO s.heap.objs.size):=Heap.get?_push_size _ rfl
 have g1:((s.heap.push (tIt l)).push (eO s.heap.objs.size)).get? s.heap.objs.size=some (tIt l):=Heap.get?_push_of_some _ (Heap.get?_push_size _ rfl)
 show _/\_
 rw [z1]at g2 ⊢
 exact ⟨⟨_,g2,rfl⟩,q _ g2 ⟨_,g1,rfl,rfl⟩ fun b o x=>Heap.get?_push_of_some _ (Heap.get?_push_of_some _ x)⟩
end
end HT
namespace L2
open PySem PySem.Spec PyProof.Rows
noncomputable def Ite (l:Addr):It:=
 ⟨fun i H=> ∃ xs x,H l=some (.tup xs)/\xs[i]? =some x,
  fun i H v H'=> ∃ T x,H T=none/\v=.ref T/\H'=upd H T (.tup [.int (i:Int),x])/\ ∀ xs,H l=some (.tup xs)->xs[i]? =some x,
  fun i H=> ∃ xs,H l=some (.tup xs)/\xs.length=i⟩
def AZ (e it l:Addr) (i:Nat) (h:Heap):Prop:=(∃ old,IsEnum h e it (i:Int) old)/\HT.SIter true h it l i
theorem fp2 {e it b:Addr} (h:b∈[e,it]):b=e\/b=it:=by simpa using h
theorem rW {P:Program} {w:World} {K:W.Frag} {es:List Expr} {kk:Nat} {tpos:Pos} (e it l:Addr) (nd:e≠it):tX P w K (.Tuple es kk tpos) (Ite l) [e,it] e (AZ e it l):=by
 have ap: ∀ {X:Cx} {pins:List (Addr×Obj)} {H:Hp} {xs:List V},(∀ b∈[e,it],kq X pins H b)->H l=some (.tup xs)->e≠l/\l≠it:=by
  intro X pins H xs hf h1
  have a: ∀ b∈[e,it],b≠l:=fun b hb=>(aj h1 (hf b hb).1).symm
  exact ⟨a e (by simp),Ne.symm (a it (by simp))⟩
 refine ⟨by simp,fun i h st b hb=>?_,fun i h h' st k=>?_,?_,?_,fun _ _ _ _ _ st h=>wpAny_pyIter_enum st.1.choose_spec h⟩
 ·obtain ⟨⟨old,h1⟩,h2⟩:=st
  rcases fp2 hb with rfl | rfl
  ·exact ⟨_,h1,fun v e=>nomatch e⟩
  ·exact h2.obj
 ·obtain ⟨⟨old,h1⟩,h2⟩:=st
  exact ⟨⟨old,k e (by simp) _ h1⟩,h2.at fun o z=>k it (by simp) o z⟩
 ·intro X hP hw hK hc i pins s Z H E I hf st hg
  subst hP hw hK
  obtain ⟨xs,x,hx,ex⟩:=hg
  obtain ⟨its,r1,q1,_⟩:=I.seqS (c:=true) hx
  obtain ⟨u,hu,ru⟩:=r1.get ex
  obtain ⟨⟨old,z0⟩,s1⟩:=st
  obtain ⟨a1,a2⟩:=ap hf hx
  refine wpAny_pyNext_enum_itemD (HT.draws_seq (A:=X.A.in1) true (I.ok.hd hc) it l a2 its.toArray) z0 ⟨s1,q1⟩ (by rw [List.size_toArray];exact (List.getElem?_eq_some_iff.mp hu).1) nd
   (by simp only [List.mem_cons,List.not_mem_nil,or_false,not_or];exact ⟨nd,a1⟩) fun x' h' tk px z1 t1 pr _ kk=>?_
  have ex':x'=u:=by
   have p1:its[i]? =some x':=by simpa using px
   rw [hu]at p1;exact (Option.some.inj p1).symm
  subst ex'
  refine ⟨_,rfl,wpAny_letOwnedTupleGo_enum z1 fun h'' z2 sb=>?_⟩
  have lt: ∀ {b:Addr} {ob:Obj},s.heap.get? b=some ob->b≠s.heap.objs.size:=fun e=>Nat.ne_of_lt (Heap.lt_size e)
  have fT:H s.heap.objs.size=none:=I.hok.fresh (Nat.le_refl _)
  have keep: ∀ b ob,b∉[e,it]->s.heap.get? b=some ob->h''.get? b=some ob:=fun b ob hb z=>by
   simp only [List.mem_cons,List.not_mem_nil,or_false,not_or]at hb
   exact sb.extBut b ob hb.1 (kk b ob hb.1 hb.2 z)
  have trk: ∀ b uo,H b=some uo->b∉[e,it]:=fun b uo z hb=>by rw [(hf b hb).1]at z;cases z
  have ptT:=sb.extBut _ _ (Ne.symm (lt z0)) pr
  have I2:Inv X pins Z (upd H s.heap.objs.size (.tup [.int (i:Int),x])) {s with heap:=h'',toks:=tk+1}:=by
   refine I.step (g':=s.gens) (d':=s.drawn) (ch:=[e,it]) (fun b hb=>?_) (fun b ob _ _ hb z _=>keep b ob hb z) (fun b ob _ _ hb z _=>⟨ob.slots,keep b ob hb z⟩) (fun b ob hb z n=>by rw [am (lt z)];exact n)
    (fun b ob hb z=>⟨ob,keep b ob hb z⟩) (fun b zs z=>by rw [am (aj z fT)];exact z) (fun b ob uo z=>by rw [am (aj z fT)];exact z) (fun b ps z=>⟨#[],by rw [am (aj z fT),z];simp⟩) (fun m hm=>?_) (fun b uo z=>?_) I.bare
   ·obtain ⟨_,f1,_,f3,f4,f5⟩:=hf b hb
    exact ⟨f3,f1,f4,f5⟩
   ·obtain ⟨ob,es',ep,ho,r⟩:=hm
    exact ⟨ob,es',ep,keep _ ob (fun hb=>(hf _ hb).2.1 rfl) ho,r⟩
   ·by_cases hb:b=s.heap.objs.size
    ·subst hb
     rw [ab]at z
     cases z
     exact ⟨by show 2<=sizeLine;decide,[.int (i:Int) tk,x'],.cons ⟨tk,rfl⟩ (.cons ru .nil),_,ptT,rfl,_,rfl⟩
    ·rw [am hb]at z
     refine (I.hok b uo z).stay (fun c' v' hc' q=>keep c' v' ?_ q) (fun c' q=>by rw [am (aj q fT)];exact q) fun c' zs q=>by rw [am (aj q fT)];exact q
     rcases hc' with h | h
     ·rw [h];exact trk b uo z
     ·exact trk c' _ h
  refine ⟨.ref s.heap.objs.size,_,I2,rfl,⟨_,x,fT,rfl,rfl,fun xs' h1=>?_⟩,⟨⟨_,by rw [Int.natCast_add];exact z2⟩,t1.1.at fun o z=>sb.extBut _ o (Ne.symm nd) z⟩,fun b hb=>?_⟩
  ·rw [hx]at h1
   cases h1
   exact ex
  ·have hb': ∃ ob,s.heap.get? b=some ob:=by
    rcases fp2 hb with rfl | rfl
    ·exact ⟨_,z0⟩
    ·obtain ⟨ob,z,_⟩:=s1.obj;exact ⟨ob,z⟩
   obtain ⟨ob,z⟩:=hb'
   rw [am (lt z)]
   exact (hf b hb).1
 ·intro X hP hw hK hc i pins s Z H E I hf st hg
  subst hP hw hK
  obtain ⟨xs,hx,l'⟩:=hg
  obtain ⟨its,r1,q1,_⟩:=I.seqS (c:=true) hx
  obtain ⟨⟨old,z0⟩,s1⟩:=st
  obtain ⟨a1,a2⟩:=ap hf hx
  have hi:i=its.toArray.size:=by rw [List.size_toArray,<- l'];exact r1.length
  rw [hi]at s1
  refine wpAny_pyNext_enum_endD (HT.draws_seq (A:=X.A.in1) true (I.ok.hd hc) it l a2 its.toArray) z0 ⟨s1,q1⟩ fun h' eb=>⟨rfl,?_⟩
  exact I.turned (t':=s.toks) (it:=it) (fun b ob hb z=>eb b ob hb z) (hf it (by simp)).1 (hf it (by simp)).2.1 (hf it (by simp)).2.2.2.1 (hf it (by simp)).2.2.2.2.1 (hf it (by simp)).2.2.2.2.2
noncomputable def Af (ta:TA):TI:=fun Z H R=>ta Z H fun vs H1=> ∃ l xs,vs=[.ref l]/\H1 l=some (.tup xs)/\R (Ite l) H1
theorem wN {X:Cx} {es:List Expr} {kk:Nat} {tpos:Pos} {a:Expr} {ta:TA} {p pos:Pos} (hg:Gl X "enumerate") (hm:X.mg "enumerate"=none) (ha:PA X [a] ta) (hs:starEach [a] X.env=[(false,eval a X.env)]:=by rfl):
  PI X (.Tuple es kk tpos) (.Call (.Name "enumerate" p) [a] [] pos) (Af ta):=by
 intro pins s Z H R I h
 refine Call_ (ig I hg hm (show bootBuiltins "enumerate"=some (.type "enumerate") by decide +kernel) (PyProof.Rows.callWith_type1 (thn (ha pos pins s Z H _ I h) fun us s1 ⟨vs,H1,I1,r1,q1⟩=>?_) (by rw [hs];rfl) rfl))
 obtain ⟨l,xs,rfl,hx,q⟩:=q1
 obtain ⟨u,rfl,ru⟩:=fO r1
 cases (show u=Value.ref l from ru)
 obtain ⟨its,_,e1,_⟩:=I1.seqS (c:=true) hx
 refine HT.call_enumT e1 fun h' a1 a2 kp=>?_
 have I2:Inv X pins Z H1 {s1 with heap:=h'}:=I1.kept (t':=s1.toks) kp
 refine wpAny_pyIter_enum a1 ?_
 refine ⟨s1.heap.objs.size+1,[s1.heap.objs.size+1,s1.heap.objs.size],_,_,H1,rfl,I2,rW _ _ l (Nat.succ_ne_self _),⟨⟨_,a1⟩,a2⟩,fun b hb=>?_,q⟩
 have hb':s1.heap.objs.size<=b:=by rcases fp2 hb with rfl | rfl <;> lia
 exact I1.fpOk hb' (I1.hok.fresh hb')
section
variable {X:Cx} {x x2:Str} {px px2 tpos pos fpos:Pos} {kk:Nat} {iter elt:Expr} {scope sc0:Scope} {N0 ys:List Str} {fr:List Nat} {wi:TI} {te:TE}
def ym (K:W.Frag):R2:=fun x y H Q=> ∃ a b xs ys,x=.ref a/\y=.ref b/\SqT K H a xs/\SqT K H b ys/\xs.length+ys.length<=sizeLine/\(xs=[]->Q (.ref b) H)/\(xs≠[]->ys=[]->Q (.ref a) H)/\
 (xs≠[]->ys≠[]-> ∀ p,H p=none->Q (.ref p) (upd H p (.tup (xs++ys))))
theorem uX:OpR X (binaryOp .Add) (ym X.K):=by
 intro pins s Z H x y v u Q I rx ry h
 obtain ⟨a,b,xs,ys,e1,e2,h1,h2,h3,q1,q2,q3⟩:=h
 exact uY pins s Z H x y v u Q I rx ry ⟨a,b,xs,ys,e1,e2,h1,h2,h3,q1,q2,q3⟩
end
section
variable {X:Cx}
theorem j1 (hu:X.A.units+1<cLine):OpR X (compareOp .In) (uL X.K false):=by
 intro pins s Z H x y v u Q I rx ry h
 obtain ⟨a,p,ks,ys,kss,rfl,rfl,ha,hp,hk,q⟩:=h
 cases rx
 cases ry
 obtain ⟨its,r,pl,hz⟩:=I.list hp
 refine SeqAt.in_listAt (nn H ks) pl.isList (fun w hw=>?_) ⟨.bl _,H,I,rfl,?_⟩
 ·obtain ⟨b,ls,rfl,hb⟩:=qf r hk w (by simpa using hw)
  rw [jz hb]
  exact fun prog w' E Q hq=>wpAny_eqBool_tuple (show X.A.units+1<cLine from hu) (gM I.hok hb) (gM I.hok ha) hq
 ·rw [show its.toArray.any (nn H ks)=its.any (nn H ks) by simp,qB r hk]
  exact q
end
theorem gc {G:V->V->Prop} {R:Value->Value->Prop} (hG: ∀ v u x y,G v u->RelV v x->RelV u y->R x y): ∀ {xs ys:List V} {us ws:List Value},Paired G xs ys->Vals xs us->Vals ys ws->
  us.length=ws.length/\ ∀ j (h1:j<us.length) (h2:j<ws.length),R us[j] ws[j]
 | _,_,_,_,.nil,.nil,.nil=>⟨rfl,fun j h _=>absurd h (Nat.not_lt_zero _)⟩
 | _,_,_,_,.cons g p,.cons r1 r,.cons s1 s=>by
  obtain ⟨l,h⟩:=gc hG p r s
  refine ⟨by simp [l],fun j h1 h2=>?_⟩
  cases j with
  | zero=>exact hG _ _ _ _ g r1 s1
  | succ j=>exact h j (Nat.lt_of_succ_lt_succ h1) (Nat.lt_of_succ_lt_succ h2)
end L2
namespace HT
open PySem PyProof.Rows
section
variable {prog:Program} {w:World} {A:Around} {s:Shared} {E:Value->Shared->Prop}
theorem getItem_tuple_all {t sl:Addr} {items:Array Value} {vl vu:Value} {lo hi:Option Int} {Q:Value->Shared->Prop} (ht:IsTup s.heap t items) (hs:s.heap.IsSliceOf sl vl vu .none) (pl:IsPart vl lo) (pu:IsPart vu hi)
  (i1:sIx items.size 0 lo=0) (i2:sIx items.size items.size hi=items.size) (h:Q (.ref t) s):wpAny (model prog w) A (getItem (.ref t) (.ref sl)) Q E s:=by
 obtain ⟨os,hos,hcs,hds⟩:=id hs
 have hTs:s.TypeIs (.ref sl) "slice":=⟨os,hos,hcs⟩
 unfold getItem
 try with_reducible refine wpAny_holding ?_
 first | refine wpAny_bind (wpAny_pure ?_) | skip
 refine wpAny_bind (wpAny_sequenceKey ht.typeIs (by decide) (wpAny_bind (wpAny_callSpecial?_slot (name:=Str.ofString "__getitem__") ht.typeIs PyProof.Rows.slot_tuple_getitem
  (wpAny_call_entry PyProof.Rows.slot_tuple_getitem ht.typeIs entry_tuple_getitem ?_ (args_tuple_getitem _ _)))))
 refine (show wpAny _ _ (Builtin.Tuple.tupleItemsOf (.ref t) >>= _) _ _ s from wpAny_bind (tupleItemsOf_ ht (wpAny_bind (wpAny_typeOf hTs ?_))))
 rw [if_pos (by decide)]
 refine wpAny_bind (ff hs pl pu ?_)
 rw [i1,i2]
 refine (show wpAny _ _ (if (((0:Nat):Int)==0&&(1:Int)==1&&(items.size-0)==items.size)=true then _ else _) _ _ s from ?_)
 rw [if_pos (by simp)]
 refine wpAny_bind (m:=Builtin.Tuple.tupleIsExact _) ?_
 unfold Builtin.Tuple.tupleIsExact
 refine wpAny_bind (wpAny_typeOf ht.typeIs (wpAny_pure ?_))
 rw [if_pos (by decide)]
 exact wpAny_bind (wpAny_rule (wpAny_pure ⟨_,rfl,wpAny_pure h⟩))
end
end HT
namespace L2
open PySem PySem.Spec PyProof.Rows
section
variable {X:Cx}
noncomputable def AA:V->Option Int->Option Int->Hp->VK->Prop:=fun x lo hi H Q=> ∃ a xs,x=.ref a/\H a=some (.tup xs)/\ ∀ p H',(∀ b o,H b=some o->H' b=some o)->H' p=some (.tup (cW xs lo hi))->Q (.ref p) H'
theorem iA:SlR X AA:=by
 intro pins s Z H x v vl vu lo hi sl Q I rx hs pl pu h
 obtain ⟨a,xs,ex,hx,q⟩:=h
 by_cases hw:HT.sIx xs.length 0 lo=0/\HT.sIx xs.length xs.length hi=xs.length
 ·subst ex
  cases rx
  obtain ⟨its,r,ht,hz⟩:=I.tuple (SqT.of (K:=X.K) hx)
  have hl:=r.length
  refine ⟨"tuple",_,PyProof.Rows.slot_tuple_getitem.lookup,ht.typeIs,HT.getItem_tuple_all ht hs pl pu (by rw [List.size_toArray,<- hl];exact hw.1) (by rw [List.size_toArray,<- hl];exact hw.2) ⟨.ref a,H,I,rfl,q a H (fun _ _ h=>h) ?_⟩⟩
  rw [hx]
  unfold cW
  rw [hw.1,hw.2,List.drop_zero,Nat.sub_zero,List.take_length]
 ·exact pG pins s Z H x v vl vu lo hi sl Q I rx hs pl pu ⟨a,xs,ex,SqT.of hx,hw,fun p hp=>q p _ (fun b o e=>by rw [am (aj e hp)];exact e) ab⟩
theorem vT {P:Program} {w:World} {H:Hp} (h:Heap) (hb:sysModules<h.objs.size):ObjOk P w H (h.push {cls:=.type "dict",data:=.dict #[]}) h.objs.size (.dP []):=
 ⟨Nat.zero_le _,beq_eq_false_iff_ne.mpr (Ne.symm (Nat.ne_of_lt hb)),[],.nil,_,#[],0,Heap.get?_push_size _ rfl,⟨rfl,rfl,rfl⟩,rfl,rfl,List.nodup_nil⟩
def x3:TE:=fun _ H Q=> ∀ p,H p=none->Q (.ref p) (upd H p (.dP []))
theorem oj {pos:Pos}:PE X (.Dict [] [] pos) x3:=fun pins s Z H Q I h=>
 wpAny_Dict_empty ⟨.ref s.heap.objs.size,_,I.laid (a:=s.heap.objs.size) (o:=.dP []) (t':=s.toks) (fun _ _ q=>Heap.get?_push_of_some _ q) (Nat.le_refl _) (vT s.heap I.big),rfl,h _ (I.hok.fresh (Nat.le_refl _))⟩
end
noncomputable def AlkT (H:Hp):Nat->V->V->Prop
 | 0,v,u=>(∃ z,v=.str z/\u=.str z)\/ ∃ i,v=.int i/\u=.int i
 | n+1,v,u=>((∃ z,v=.str z/\u=.str z)\/ ∃ i,v=.int i/\u=.int i)\/ ∃ a b xs ys,v=.ref a/\u=.ref b/\H a=some (.tup xs)/\H b=some (.tup ys)/\Paired (AlkT H n) xs ys
theorem AlkT.eqAt {X:Cx} {pins:List (Addr×Obj)} {Z:St} {H:Hp} {s:Shared} (I:Inv X pins Z H s): ∀ (n:Nat) {A:Around} {v u:V} {x y:Value},A.units+n<cLine->AlkT H n v u->RelV v x->RelV u y->SeqAt.EqAt A s x y true:=by
 have leaf: ∀ {A:Around} {v u:V} {x y:Value},((∃ z,v=.str z/\u=.str z)\/ ∃ i,v=.int i/\u=.int i)->RelV v x->RelV u y->SeqAt.EqAt A s x y true:=by
  rintro A v u x y (⟨z,rfl,rfl⟩ | ⟨i,rfl,rfl⟩) r1 r2
  ·obtain ⟨t1,rfl⟩:=(show ∃ t,x=Value.str z t from r1)
   obtain ⟨t2,rfl⟩:=(show ∃ t,y=Value.str z t from r2)
   simpa using SeqAt.EqAt.str_str (A:=A) (s:=s) z t1 z t2
  ·obtain ⟨t1,rfl⟩:=(show ∃ t,x=Value.int i t from r1)
   obtain ⟨t2,rfl⟩:=(show ∃ t,y=Value.int i t from r2)
   simpa using SeqAt.EqAt.int_int (A:=A) (s:=s) i t1 i t2
 intro n
 induction n with
 | zero=>intro A v u x y _ h r1 r2;exact leaf h r1 r2
 | succ n ih=>
  intro A v u x y hu h r1 r2
  rcases h with h | ⟨a,b,xs,ys,rfl,rfl,ha,hb,hp⟩
  ·exact leaf h r1 r2
  ·cases (show x=Value.ref a from r1)
   cases (show y=Value.ref b from r2)
   by_cases hab:a=b
   ·subst hab;exact SeqAt.EqAt.same _
   obtain ⟨its,r,p,_⟩:=I.seqS (c:=true) ha
   obtain ⟨its2,r2,p2,_⟩:=I.seqS (c:=true) hb
   have hu1:A.in1.units+n<cLine:=by show A.units+1+n<cLine;lia
   obtain ⟨hl,hj⟩:=gc (R:=fun x y=>SeqAt.EqAt A.in1 s x y true) (fun v u x y g q1 q2=>ih hu1 g q1 q2) hp r r2
   have:=SeqAt.RcAt.tuples (e:=fun _=>true) p p2 (by lia:A.units<cLine) (fun j h1 h2=>by simpa using hj j (by simpa using h1) (by simpa using h2))
   rw [show ((List.range (min its.toArray.size its2.toArray.size)).all (fun _=>true)&&its.toArray.size==its2.toArray.size)=true by simp [hl]]at this
   exact SeqAt.EqAt.of_refs hab this
def AB (n:Nat):R2:=fun x y H Q=> ∃ a b xs ys,x=.ref a/\y=.ref b/\H a=some (.lst xs)/\H b=some (.lst ys)/\Paired (AlkT H n) xs ys/\Q (.bl false) H
theorem yy {X:Cx} {n:Nat} (hu:X.A.units+ (n+1) <cLine):OpR X (compareOp .NotEq) (AB n):=by
 intro pins s Z H x y v u Q I rx ry h
 obtain ⟨a,b,xs,ys,rfl,rfl,ha,hb,hp,q⟩:=h
 cases rx
 cases ry
 obtain ⟨its,r,p,_⟩:=I.seqS (c:=false) ha
 obtain ⟨its2,r2,p2,_⟩:=I.seqS (c:=false) hb
 have hu1:X.A.in1.units+n<cLine:=by show X.A.units+1+n<cLine;lia
 obtain ⟨hl,hj⟩:=gc (R:=fun x y=>SeqAt.EqAt X.A.in1 s x y true) (fun v u x y g q1 q2=>AlkT.eqAt I n hu1 g q1 q2) hp r r2
 refine SeqAt.RcNeAt.lists (e:=fun _=>true) p p2 (by simpa using hl) (by lia) (fun j h1 h2=>by simpa using hj j (by simpa using h1) (by simpa using h2)) X.prog X.w X.xe _ ⟨.bl false,H,I,?_,q⟩
 show Value.bool _=Value.bool false
 simp
theorem vP {l:Addr} {xs:List V} {g:TG} {tb:TS} {D:cH} {Z:St} {H:Hp} (Pv:Nat->St->Hp->Prop) (h0:Pv 0 Z H) (hl: ∀ i Z H,i<=xs.length->Pv i Z H->H l=some (.tup xs))
  (step: ∀ i x T Z H,xs[i]? =some x->H T=none->Pv i Z H->g (.ref T) Z (upd H T (.tup [.int (i:Int),x])) fun Z2 H2=>tb {D with nx:=Pv (i+1),ct:=Pv (i+1),bk:=D.nx} Z2 H2) (fin: ∀ Z H,Pv xs.length Z H->D.nx Z H):
  ∃ W:Nat->Nat->St->Hp->Prop,(∃ m,W 0 m Z H)/\ ∀ i m Z H,W i m Z H->
   ((Ite l).stop i H/\D.nx Z H)\/((Ite l).go i H/\ ∃ N:St->Hp->Prop,(∀ Z' H',N Z' H'-> ∃ m',m'<m/\W (i+1) m' Z' H')/\ ∀ x H',(Ite l).yld i H x H'->g x Z H' fun Z2 H2=>tb {D with nx:=N,ct:=N,bk:=D.nx} Z2 H2):=by
 refine ⟨fun i m Z H=>m=xs.length-i/\i<=xs.length/\Pv i Z H,⟨xs.length,by simp,Nat.zero_le _,h0⟩,?_⟩
 rintro i m Z H ⟨rfl,hi,p⟩
 have q:=hl i Z H hi p
 by_cases hlt:i<xs.length
 ·refine .inr ⟨⟨xs,xs[i],q,List.getElem?_eq_getElem hlt⟩,Pv (i+1),fun Z' H' p'=>⟨xs.length- (i+1),by lia,rfl,hlt,p'⟩,fun x H' y=>?_⟩
  obtain ⟨T,v,fT,rfl,rfl,hk⟩:=y
  exact step i v T Z H (hk xs q) fT p
 ·have e:i=xs.length:=by lia
  subst e
  exact .inl ⟨⟨xs,q,rfl⟩,fin Z H p⟩
section
variable {X:Cx}
theorem sn (bs:List Bool):((List.range bs.length).any fun i=>(bs[i]?).getD false)=bs.any id:=by
 induction bs with
 | nil=>rfl
 | cons b r ih=>
  rw [List.length_cons,List.range_succ_eq_map,List.any_cons,List.any_map]
  show (b||(List.range r.length).any (fun i=>((b::r)[i+1]?).getD false))=(b||r.any id)
  rw [<- ih]
  rfl
theorem v7 (hc:X.calm=true):eG X (.builtin "any") (fun xs H Q=> ∃ (p:Addr) (bs:List Bool),xs=[.ref p]/\SqL X.K H p (bs.map V.bl)/\Q (.bl (bs.any id)) H):=by
 intro pins s Z H xs us Q I r h
 obtain ⟨p,bs,rfl,hq,q⟩:=h
 obtain ⟨u,rfl,ru⟩:=fO r
 cases ru
 obtain ⟨its,rv,pl,hz⟩:=I.list hq
 have hl:=pl.isList
 have hlt:p<s.heap.objs.size:=by obtain ⟨_,e,_⟩:=hl;exact Heap.lt_size e
 have hn:its.toArray.size=bs.length:=by have:=rv.length;rw [List.length_map]at this;rw [List.size_toArray];lia
 refine call_any_walk (wpAny_pyIter_list hl ?_)
 refine ⟨s.heap.objs.size,[s.heap.objs.size,p],[s.heap.objs.size],its.toArray.size,_,_,fun i=>(bs[i]?).getD false,rfl,Walks.list (A:=X.A.in1) (I.ok.hd hc) _ p (Nat.ne_of_lt hlt) its.toArray,
  ⟨⟨_,Heap.get?_push_size _ rfl,rfl,rfl⟩,hl.push _⟩,fun i v s' Q' E' hP hQ=>?_,fun h' tk hk=>?_⟩
 ·have hv:its[i]? =some v:=by simpa using hP
  have hi:i<bs.length:=by
   have:=(List.getElem?_eq_some_iff.mp hv).1
   have:=rv.length
   rw [List.length_map]at this
   lia
  have hb:(bs.map V.bl)[i]? =some (V.bl bs[i]):=by rw [List.getElem?_map,List.getElem?_eq_getElem hi] <;> rfl
  obtain ⟨u,eu,ru⟩:=rv.get hb
  rw [hv]at eu
  cases eu
  cases (show v=Value.bool bs[i]from ru)
  have hQ':=hQ
  simp only [List.getElem?_eq_getElem hi,Option.getD_some]at hQ'
  exact wpAny_truthy_bool hQ'
 ·rw [hn,sn]
  refine ⟨.bl (bs.any id),H,I.kept (t':=tk) fun b x e=>?_,rfl,q⟩
  exact hk b x (fun hm=>by rw [List.mem_singleton.mp hm]at e;exact Nat.lt_irrefl _ (Heap.lt_size e)) (Heap.get?_push_of_some _ e)
end
end L2
namespace HT
open PySem PyProof.Rows
section
variable {prog:Program} {w:World} {A:Around} {E:Value->Shared->Prop} {s:Shared}
theorem eL:isSubtype (.type "NoneType") (.type "dict")=pure false:=by rw [isSubtype_type];kernel_rfl
theorem dict_ne_none {a:Addr} {o:Obj} {es:Array DictEntry} {ep:Nat} {Q:Value->Shared->Prop} (ho:s.heap.get? a=some o) (hc:o.cls=.type "dict") (hd:o.data=.dict es ep) (hu:A.units<cLine) (h:Q (.bool true) s):
  wpAny (model prog w) A (compareOp .NotEq (.ref a) .none) Q E s:=by
 have ty:s.TypeIs (.ref a) "dict":=⟨o,ho,hc⟩
 show wpAny (model prog w) A (richCompare .NotEq (.ref a) .none) Q E s
 refine SeqAt.rc_ne_decline_or (k:=false) ty rfl (by decide) eL PySem.F.slot_dict_ne PySem.F.slot_NoneType_ne_refl (fun Q' hq=>?_)
  (fun _ hq=>call_gives PySem.F.slot_NoneType_ne_refl rfl PySem.F.entry_NoneType_ne (PySem.F.args_NoneType_ne_2 _ _) (SeqAt.NoneType___ne___none_ref_0 a) hq)
  (fun _ hq=>wpAny_of_eq (rfl:isSame (.ref a) .none=pure false) hq) (.inr hu) h
 refine wpAny_call_entry PySem.F.slot_dict_ne ty PySem.F.entry_dict_ne ?_ (PySem.F.args_dict_ne_2 _ _)
 show wpAny _ _ (Builtin.Dict.dictSlotArgs "__ne__" ⟨[.ref a,.none],[]⟩ >>= _) _ _ s
 refine wpAny_bind ?_
 unfold Builtin.Dict.dictSlotArgs
 refine wpAny_bind (wpAny_notOrdered_dict ty ?_)
 show wpAny _ _ (pure (Value.ref a,Value.none)) _ _ s
 refine wpAny_pure ?_
 refine wpAny_bind (wpAny_isInstance (T:="NoneType") rfl eL ?_)
 simp only [Bool.not_false,if_true]
 exact wpAny_bind (wpAny_rule (wpAny_pure ⟨_,rfl,hq⟩))
end
end HT
namespace L2
open PySem PySem.Spec PyProof.Rows
noncomputable def eqD (kvs kvs':List (Key×V)):Bool:=kvs.length==kvs'.length&&kvs.all fun kv=>decide (aW kvs' kv.1=some kv.2)
def oZ (kvs:List (Key×V)):Prop:= ∀ kv∈kvs,∃ n:Int,kv.2=.int n
section
variable {X:Cx}
theorem oN {A:Around} {s:Shared} {kb:List (Key×V)} {wb:List (Key×Value)} (rb:KV kb wb) (ib:oZ kb): ∀ {ka:List (Key×V)} {wa:List (Key×Value)},KV ka wa->oZ ka->PySem.W.KeqHits A s wb wa (ka.all fun kv=>decide (aW kb kv.1=some kv.2))
 | _,_,.nil,_=>.nil
 | (k,v)::ra,(k',u)::wr,.cons h t,ia=>by
  obtain ⟨e,rv⟩:=h
  cases (show k=k' from e)
  obtain ⟨n,en⟩:=ia (k,v) List.mem_cons_self
  cases (show v=.int n from en)
  obtain ⟨tk,rfl⟩:=(show ∃ t,u=Value.int n t from rv)
  have ih:=oN (A:=A) (s:=s) rb ib t fun kv hkv=>ia kv (List.mem_cons_of_mem _ hkv)
  have hv:=rb.val k
  show PySem.W.KeqHits A s wb ((k,.int n tk)::wr) (decide (aW kb k=some (.int n))&&ra.all fun kv=>decide (aW kb kv.1=some kv.2))
  cases hk:aW kb k with
  | none=>
   rw [hk]at hv
   have hn:valueAt wb k=none:=by
    cases hw:valueAt wb k with
    | none=>rfl
    | some y=>rw [hw]at hv;exact hv.elim
   rw [decide_eq_false (fun z=>by cases z),Bool.false_and]
   exact .miss hn
  | some z=>
   rw [hk]at hv
   obtain ⟨m,em⟩: ∃ m:Int,z=.int m:=by
    have hm: ∃ kv∈kb,kv.2=z:=by
     unfold aW at hk
     cases hf:kb.find? (fun kv=>decide (kv.1=k))with
     | none=>rw [hf]at hk;cases hk
     | some kv=>rw [hf]at hk;exact ⟨kv,List.mem_of_find?_eq_some hf,Option.some.inj hk⟩
    obtain ⟨kv,h1,h2⟩:=hm
    obtain ⟨m,e⟩:=ib kv h1
    exact ⟨m,by rw [<- h2,e]⟩
   subst em
   obtain ⟨y,hy,ry⟩: ∃ y,valueAt wb k=some y/\RelV (.int m) y:=by
    cases hw:valueAt wb k with
    | none=>rw [hw]at hv;exact hv.elim
    | some y=>rw [hw]at hv;exact ⟨y,rfl,hv⟩
   obtain ⟨t2,rfl⟩:=(show ∃ t,y=Value.int m t from ry)
   refine .hit hy ?_ ih
   have e3:decide (some (V.int m)=some (V.int n))=(n==m):=by
    by_cases c:n=m
    ·subst c;simp
    ·rw [beq_eq_false_iff_ne.mpr c]
     exact decide_eq_false fun z=>c (V.int.inj (Option.some.inj z)).symm
   rw [e3]
   exact fun prog w E Q h=>wpAny_eqBool_int (by simpa using h)
def AC:R2:=fun x y H Q=> ∃ a kvs,x=.ref a/\H a=some (.dK kvs)/\oZ kvs/\((y=.non/\Q (.bl true) H)\/ ∃ b kvs',y=.ref b/\H b=some (.dK kvs')/\oZ kvs'/\Q (.bl (!eqD kvs kvs')) H)
theorem yA (hu:X.A.units+1<cLine):OpR X (compareOp .NotEq) AC:=by
 intro pins s Z H x y v u Q I rx ry h
 obtain ⟨a,kvs,rfl,ha,ia,h⟩:=h
 cases rx
 obtain ⟨hz,lo,ws,rel,dd⟩:=vU I.hok ha
 rcases h with ⟨rfl,q⟩ | ⟨b,kvs',rfl,hb,ib,q⟩
 ·cases ry
  obtain ⟨od,es,ep,ho,hed,hdat,_⟩:=dd
  exact HT.dict_ne_none ho hed.1 hdat (by lia) (a8 I q rfl)
 ·cases ry
  obtain ⟨hz2,lo2,ws2,rel2,dd2⟩:=vU I.hok hb
  refine PySem.W.keq_ne lo lo2 dd dd2 (by lia) (fun _=>oN rel2 ib rel ia) (a8 I q ?_)
  rw [<- rel.length,<- rel2.length]
  rfl
end
section
variable {X:Cx}
theorem tW (hc:X.calm=true):eG X (.builtin "min") (fun xs H Q=> ∃ (p:Addr) (ns:List Int),xs=[.ref p]/\SqL X.K H p (ns.map V.int)/\0<ns.length/\ ∀ M,M∈ns->(∀ a∈ns,M<=a)->Q (.int M) H):=by
 intro pins s Z H xs us Q I r h
 obtain ⟨p,ns,rfl,hq,hne,q⟩:=h
 obtain ⟨u,rfl,ru⟩:=fO r
 cases ru
 obtain ⟨its,rv,pl,hz⟩:=I.list hq
 have hl:=pl.isList
 have hlt:p<s.heap.objs.size:=by obtain ⟨_,e,_⟩:=hl;exact Heap.lt_size e
 have hn:its.toArray.size=ns.length:=by have:=rv.length;rw [List.length_map]at this;rw [List.size_toArray];lia
 refine call_min_walk (wpAny_pyIter_list hl ?_)
 have hval: ∀ (i:Nat) (v:Value),its.toArray[i]? =some v-> ∃ t,v=Value.int (ns.getD i 0) t:=fun i v hP=>by
  have hv:its[i]? =some v:=by simpa using hP
  have hi:i<ns.length:=by
   have:=(List.getElem?_eq_some_iff.mp hv).1
   have:=rv.length
   rw [List.length_map]at this
   lia
  have hb:(ns.map V.int)[i]? =some (V.int ns[i]):=by rw [List.getElem?_map,List.getElem?_eq_getElem hi];rfl
  obtain ⟨u,eu,ru⟩:=rv.get hb
  rw [hv]at eu
  cases eu
  obtain ⟨t,e⟩:=(show ∃ t,v=Value.int ns[i] t from ru)
  refine ⟨t,?_⟩
  rw [e,List.getD_eq_getElem?_getD,List.getElem?_eq_getElem hi]
  rfl
 refine ⟨s.heap.objs.size,[s.heap.objs.size,p],[s.heap.objs.size],its.toArray.size,_,_,fun i j=>decide (ns.getD i 0<ns.getD j 0),rfl,Walks.list (A:=X.A.in1) (I.ok.hd hc) _ p (Nat.ne_of_lt hlt) its.toArray,
  ⟨⟨_,Heap.get?_push_size _ rfl,rfl,rfl⟩,hl.push _⟩,fun b hb=>?_,by rw [hn];exact hne,CmpOf.ints_lt (fun i=>ns.getD i 0) hval,fun v h' tk hP hk=>?_⟩
 ·simp only [List.mem_cons,List.not_mem_nil,or_false]at hb
  rw [size_push']
  rcases hb with rfl | rfl
  ·exact Nat.lt_succ_self _
  ·exact Nat.lt_succ_of_lt hlt
 ·obtain ⟨a1,a2⟩:=argBest_lt (fun i=>ns.getD i 0) (its.toArray.size-1)
  obtain ⟨t,rfl⟩:=hval _ _ hP
  rw [hn]at a1 a2
  refine ⟨.int _,H,I.kept (t':=tk) fun b x e=>?_,⟨t,rfl⟩,?_⟩
  ·exact hk b x (fun hm=>by rw [List.mem_singleton.mp hm]at e;exact Nat.lt_irrefl _ (Heap.lt_size e)) (Heap.get?_push_of_some _ e)
  ·rw [hn]
   refine q _ ?_ fun a ha=>?_
   ·have hi:argBest (fun i j=>decide (ns.getD i 0<ns.getD j 0)) (ns.length-1) <ns.length:=by lia
    show ns.getD _ 0∈ns
    rw [List.getD_eq_getElem?_getD,List.getElem?_eq_getElem hi]
    exact List.getElem_mem _
   ·obtain ⟨j,hj⟩:=List.getElem?_of_mem ha
    have hjl:=(List.getElem?_eq_some_iff.mp hj).1
    have:=a2 j (by lia)
    rw [show ns.getD j 0=a by rw [List.getD_eq_getElem?_getD,hj];rfl]at this
    exact this
end
end L2
namespace My
open PySem L2
theorem js {ss:List Srt} (nd:(ss.map Srt.name).Nodup) {a b:Srt} (ha:a∈ss) (hb:b∈ss) (e:a.name=b.name):a=b:=by
 obtain ⟨i,hi⟩:=List.getElem?_of_mem ha
 obtain ⟨j,hj⟩:=List.getElem?_of_mem hb
 have q1:(ss.map Srt.name)[i]? =some a.name:=by rw [List.getElem?_map,hi];rfl
 have q2:(ss.map Srt.name)[j]? =some a.name:=by rw [List.getElem?_map,hj,e];rfl
 have:=fj nd q1 q2
 subst this
 rw [hi]at hj
 exact Option.some.inj hj
theorem cD {α β:Type} {F:α->β->Prop}: ∀ {l:List α} {r:List β} {i:Nat} {a:α},Paired F l r->l[i]? =some a-> ∃ b,r[i]? =some b/\F a b
 | _,_,i,a,.nil,e=>by cases i <;> cases e
 | _,_,0,a,.cons h _,e=>⟨_,rfl,by cases e;exact h⟩
 | _,_,i+1,a,.cons _ t,e=>cD (i:=i) t e
inductive Ts (H:Hp):List V->List V->Prop where
 | nil:Ts H [] []
 | cons {a:Addr} {k:Str} {r vs out:List V}:H a=some (.tup (.str k::r))->k.length<=1000->r.length<=3->Ts H (dA (.str k::r)++vs) out->Ts H (.ref a::vs) (.ref a::out)
theorem Ts.len {H:Hp} {ws out:List V} (h:Ts H ws out):ws.length<=out.length:=by
 induction h with
 | nil=>exact Nat.le_refl _
 | cons _ _ _ _ ih=>
  rw [List.length_append]at ih
  rw [List.length_cons,List.length_cons]
  lia
def nN:Sp:=fun vs H Q _=> ∃ v out,vs=[v]/\Ts H [v] out/\out.length<=1000/\ ∀ p H',Same H H'->H' p=some (.lst out)->Q (.ref p) H'
theorem scTuples:aB ["formula","found","waiting","one"] ["formula"] (ag mj):=fsc
theorem sK (F:Fun K "tuples_of" "tuples_of" mj f fd)
  (GI:FnOk P w K mg base CX0 1 f2 fd2 ["formula"] qZ) (bI:Binds K fd2 ["formula"] []) (kI:W.keepIn K (.ref f2)=true) (mI:mg "inner_of"=some (.ref f2)):
  FnOk P w K mg base CX0 2 f fd ["formula"] nN:=by
 refine F.ok scTuples (fun vs H Q E h=>?_) (fun cdv A outer s H vs Q E hr h=>?_)
 ·obtain ⟨v,b,rfl,_⟩:=h
  rfl
 obtain ⟨v,out,rfl,hT,hout,q⟩:=h
 refine ⟨_,ae (aq (i:=1) scTuples.nd rfl (Or.inl rfl) (aU ac))
  (ae (aq (i:=2) scTuples.nd rfl (Or.inl rfl) (aU (aa (pv 0) ac)))
  (ae (jW PassesOwn.never (jV (pv 2) (fun _=>rfl))
   (ae (aq (i:=3) scTuples.nd rfl (Or.inl rfl) (yt PySem.F.plainAttrs_list PySem.F.slot_list_pop PySem.F.type_list_pop yJ (pv 2)))
   (ae (cJ (dH PySem.F.plainAttrs_list PySem.F.slot_list_append PySem.F.type_list_append bM (pv 1) (aa (pv 3) ac)))
   (ai (cJ (dH PySem.F.plainAttrs_list PySem.F.slot_list_extend PySem.F.type_list_extend w4 (pv 2) (aa (uV (ak GI hr rfl mI kI bI .nil av (aa (pv 3) ac)) (dY c7 ad)) ac)))))))
  (ai (ax (pv 1))))),?_⟩
 refine ⟨(by show 0<=sizeLine;decide),fun p1 h1=>?_⟩
 refine ⟨_,rfl,(by show 1<=sizeLine;decide),fun p2 h2=>?_⟩
 dsimp only [wv,lZ,gU,tC]
 have n21:p1≠p2:=fun e=>by
  subst e
  rw [ab]at h2
  cases h2
 have h2':H p2=none:=by rw [am (Ne.symm n21)]at h2;exact h2
 refine nH (fun Z H'=> ∃ (ws done rest:List V) (o:Option V),Z=[some v,some (.ref p1),some (.ref p2),o]/\H' p1=some (.lst done)/\H' p2=some (.lst ws.reverse)/\Same H H'/\Ts H ws rest/\done++rest=out)
  (fun _ H'=>match H' p1 with | some (.lst d)=>out.length-d.length | _=>0) ⟨[v],[],out,none,rfl,by rw [am n21,ab],ab,(af h1 _).trans (af h2 _),hT,rfl⟩ ?_ ?_
 ·rintro Z H' ⟨ws,done,rest,o,rfl,g1,g2,sm,hW,he⟩
  refine ⟨_,rfl,_,.inl ⟨ws.reverse,SqL.of g2,rfl⟩,?_⟩
  have hle:done.length+rest.length=out.length:=by rw [<- he,List.length_append]
  cases hW with
  | nil=>
   refine bh ?_
   refine ⟨_,rfl,?_⟩
   rw [List.append_nil]at he
   subst he
   exact q _ _ sm g1
  | @cons a k r vs rest' ha hk hr3 ht=>
   have ne:(!((V.ref a::vs).reverse).isEmpty)=true:=by simp
   refine cU (fun _=>?_) (fun c=>absurd ne c)
   rw [List.reverse_cons]at g2
   refine ⟨_,rfl,.inl ⟨rfl,_,SqL.of g2⟩,p2,_,.ref a,rfl,rfl,g2,by simp,?_⟩
   rw [List.dropLast_concat]
   have l1: ∀ {c:Addr} {oo:HO},H c=some oo->c≠p1:=fun h=>aj h h1
   have l2: ∀ {c:Addr} {oo:HO},H c=some oo->c≠p2:=fun h=>aj h h2'
   rw [List.length_cons]at hle
   refine ⟨_,rfl,.inl ⟨rfl,_,SqL.of (show upd H' p2 (.lst vs.reverse) p1=some (.lst done) by rw [am n21];exact g1)⟩,_,rfl,p1,done,.ref a,rfl,rfl,by rw [am n21];exact g1,aG (by lia),?_⟩
   have sm1:Same H (upd (upd H' p2 (.lst vs.reverse)) p1 (.lst (done++[.ref a]))):=fun c oo h=>by rw [am (l1 h),am (l2 h)];exact sm c oo h
   have k2:upd (upd H' p2 (.lst vs.reverse)) p1 (.lst (done++[.ref a])) p2=some (.lst vs.reverse):=by rw [am (Ne.symm n21),ab]
   refine ⟨_,rfl,.inl ⟨rfl,_,SqL.of k2⟩,_,rfl,a,k,r,rfl,sm1 _ _ ha,by lia,fun p H3 sm4 hp=>?_⟩
   have k1':H3 p1=some (.lst (done++[.ref a])):=sm4 _ _ ab
   have k2':H3 p2=some (.lst vs.reverse):=sm4 _ _ k2
   have hil:(dA (.str k::r)).length<=3:=by
    show (if (eA k).isSome=true then r else []).length<=3
    split
    ·exact hr3
    ·exact Nat.zero_le _
   refine ⟨_,rfl,p,_,rfl,rfl,SqT.of hp,fun p4 h4=>?_⟩
   have n41:p1≠p4:=aj k1' h4
   have n42:p2≠p4:=aj k2' h4
   have hlv:=ht.len
   rw [List.length_append]at hlv
   refine ⟨p2,p4,_,_,rfl,rfl,by rw [am n42];exact k2',SqT.of ab,?_,?_⟩
   ·rw [List.length_reverse,List.length_reverse]
    exact Nat.le_of_lt (aG (by lia))
   ·refine ⟨⟨dA (.str k::r)++vs,done++[.ref a],rest',_,rfl,by rw [am n21,am n41];exact k1',by rw [ab,List.reverse_append],fun c oo h=>?_,ht,by rw [List.append_assoc];exact he⟩,?_⟩
    ·have h3:=sm4 _ _ (sm1 c oo h)
     rw [am (l2 h),am (aj h3 h4)]
     exact h3
    ·rw [am n21,am n41,k1',g1]
     show out.length- (done++[V.ref a]).length<out.length-done.length
     rw [List.length_append,List.length_singleton]
     lia
 ·rintro Z H' Q1 Q2 hq ⟨y,e1,k,t,h⟩
  exact ⟨y,e1,k,t,hq _ _ h⟩
theorem cs {J:It} {α:Type} {as:List α} {A:α->V->Prop} {xs:List V} {fr:List Nat} {te:TE} {Z:St} {H1:Hp} {Q:VK} (hn:xs.length<=1000) (hP:Paired A as xs)
  (hgo: ∀ i H,Same H1 H->i<xs.length->J.go i H) (hst: ∀ H,Same H1 H->J.stop xs.length H) (hy: ∀ i H v H',Same H1 H->J.yld i H v H'->H'=H/\xs[i]? =some v)
  (R:Hp->α->V->Prop) (mono: ∀ {H H':Hp} {a:α} {v:V},TK H H'->R H a v->R H' a v)
  (hte: ∀ a v H (k:VK),a∈as->A a v->Same H1 H->(∀ u H',Same H H'->R H' a u->k u H')->te (some v::cS fr Z) H k)
  (hd: ∀ p zs H',H1 p=none->Same H1 H'->H' p=some (.lst zs)->Paired (R H') as zs->Q (.ref p) H'):iP fr te Z J H1 Q:=by
 intro p hp
 have hl:as.length=xs.length:=Paired.length hP
 refine ⟨fun i m zs H=>i<=xs.length/\m=xs.length-i/\Same H1 H/\H p=some (.lst zs)/\zs.length=i/\Paired (R H) (as.take i) zs,⟨_,Nat.zero_le _,rfl,af hp _,ab,rfl,.nil⟩,?_⟩
 rintro i m zs H ⟨hi,hm,sm,gp,hz,hT⟩
 refine ⟨gp,?_⟩
 by_cases e:i=xs.length
 ·subst e
  rw [<- hl,List.take_length]at hT
  exact .inl ⟨hst H sm,hd p zs H hp sm gp hT⟩
 ·have hlt:i<xs.length:=by lia
  refine .inr ⟨hgo i H sm hlt,aG (by lia),fun v H' hv=>?_⟩
  obtain ⟨rfl,hv2⟩:=hy i H v H' sm hv
  obtain ⟨a,ha,hA⟩:=aJ hP hv2
  refine hte a v _ _ (List.mem_of_getElem? ha) hA sm fun u H2 s2 r=>?_
  have gp2:=s2 _ _ gp
  have tk:TK H2 (upd H2 p (.lst (zs++[u]))):=TK.lst gp2
  refine ⟨gp2,xs.length- (i+1),by lia,by lia,rfl,?_,ab,by rw [List.length_append,hz];rfl,?_⟩
  ·intro b o hb
   rw [am (aj hb hp)]
   exact s2 _ _ (sm _ _ hb)
  ·rw [List.take_add_one,ha]
   exact Paired.snoc (Paired.mapP hT fun _ _ r=>mono ((au s2).trans tk) r) (mono tk r)
theorem fG {α:Type} {J:It} {as:List α} {xs:List V} {A:α->V->Prop} {fr:List Nat} {tc:TT} {te:TE} {Z:St} {H1:Hp} {Q:VK} (hn:xs.length<=4000) (hP:Paired A as xs)
  (hgo: ∀ i H,Same H1 H->i<xs.length->J.go i H) (hst: ∀ H,Same H1 H->J.stop xs.length H) (hy: ∀ i H v H',Same H1 H->J.yld i H v H'->H'=H/\xs[i]? =some v)
  (c:α->Bool) (R:Hp->α->V->Prop) (mono: ∀ {H H':Hp} {a:α} {v:V},TK H H'->R H a v->R H' a v)
  (htc: ∀ a v H (k:Bool->Hp->Prop),a∈as->A a v->Same H1 H->(∀ H',Same H H'->k (c a) H')->tc (some v::cS fr Z) H k)
  (hte: ∀ a v H (k:VK),a∈as->A a v->c a=true->Same H1 H->(∀ u H',Same H H'->R H' a u->k u H')->te (some v::cS fr Z) H k)
  (hd: ∀ p zs H',H1 p=none->Same H1 H'->H' p=some (.lst zs)->Paired (R H') (as.filter c) zs->Q (.ref p) H'):qL fr tc te Z J H1 Q:=by
 intro p hp
 refine ⟨fun i m zs H=>i<=xs.length/\m=xs.length-i/\Same H1 H/\H p=some (.lst zs)/\zs.length<=i/\Paired (R H) ((as.take i).filter c) zs,⟨_,Nat.zero_le _,rfl,af hp _,ab,Nat.le_refl _,.nil⟩,?_⟩
 rintro i m zs H ⟨hi,hm,sm,gp,hz,hT⟩
 refine ⟨gp,?_⟩
 by_cases e:i=xs.length
 ·subst e
  rw [<- Paired.length hP,List.take_length]at hT
  exact .inl ⟨hst H sm,hd p zs H hp sm gp hT⟩
 ·have hlt:i<xs.length:=by lia
  refine .inr ⟨hgo i H sm hlt,Nat.lt_of_le_of_lt (m:=4000) (by lia) (by decide),fun v H' hv=>?_⟩
  obtain ⟨rfl,hv2⟩:=hy i H v H' sm hv
  obtain ⟨a,ha,hA⟩:=aJ hP hv2
  have etk:(as.take (i+1)).filter c=(as.take i).filter c++(if c a then [a]else []):=by
   rw [List.take_add_one,ha,List.filter_append]
   congr 1
   show List.filter c [a]=_
   by_cases hc:c a=true
   ·rw [if_pos hc,List.filter_cons_of_pos hc];rfl
   ·rw [if_neg hc,List.filter_cons_of_neg hc];rfl
  refine htc a v _ _ (List.mem_of_getElem? ha) hA sm fun H0 s0=>?_
  have sm0:=sm.trans s0
  have gp0:=s0 _ _ gp
  by_cases hc:c a=true
  ·rw [if_pos hc]at etk
   rw [if_pos hc]
   refine hte a v _ _ (List.mem_of_getElem? ha) hA hc sm0 fun u H2 s2 r=>?_
   have gp2:=s2 _ _ gp0
   have tk:TK H2 (upd H2 p (.lst (zs++[u]))):=TK.lst gp2
   refine ⟨gp2,xs.length- (i+1),by lia,by lia,rfl,?_,ab,by rw [List.length_append];show zs.length+1<=i+1;lia,?_⟩
   ·intro b o hb
    rw [am (aj hb hp)]
    exact s2 _ _ (sm0 _ _ hb)
   ·rw [etk]
    exact Paired.snoc (Paired.mapP hT fun _ _ r=>mono ((au (s0.trans s2)).trans tk) r) (mono tk r)
  ·rw [if_neg hc,List.append_nil]at etk
   rw [if_neg hc]
   exact ⟨xs.length- (i+1),by lia,by lia,rfl,sm0,gp0,by lia,by rw [etk];exact Paired.mapP hT fun _ _ r=>mono (au s0) r⟩
theorem cZ {K:W.Frag} {a:Addr} {xs:List V} {H1:Hp} (ha:H1 a=some (.lst xs)): ∀ i H,Same H1 H->i<xs.length->(Itl K a).go i H:=fun i H s h=>⟨xs,xs[i],SqL.of (s _ _ ha),List.getElem?_eq_getElem h⟩
theorem cY {K:W.Frag} {a:Addr} {xs:List V} {H1:Hp} (ha:H1 a=some (.lst xs)): ∀ H,Same H1 H->(Itl K a).stop xs.length H:=fun H s=>⟨xs,SqL.of (s _ _ ha),Nat.le_refl _⟩
theorem dG {K:W.Frag} {a:Addr} {xs:List V} {H1:Hp} (ha:H1 a=some (.lst xs)): ∀ i H v H',Same H1 H->(Itl K a).yld i H v H'->H'=H/\xs[i]? =some v:=fun i H v H' s hv=>⟨hv.1,by obtain ⟨rfl,hv⟩:=hv;exact hv xs (SqL.of (s _ _ ha))⟩
theorem dz {K:W.Frag} {a:Addr} {xs:List V} {H1:Hp} (ha:H1 a=some (.tup xs)): ∀ i H,Same H1 H->i<xs.length->(Itt K a).go i H:=fun i H s h=>⟨xs,xs[i],SqT.of (s _ _ ha),List.getElem?_eq_getElem h⟩
theorem dy {K:W.Frag} {a:Addr} {xs:List V} {H1:Hp} (ha:H1 a=some (.tup xs)): ∀ H,Same H1 H->(Itt K a).stop xs.length H:=fun H s=>⟨xs,SqT.of (s _ _ ha),Nat.le_refl _⟩
theorem eW {K:W.Frag} {a:Addr} {xs:List V} {H1:Hp} (ha:H1 a=some (.tup xs)): ∀ i H v H',Same H1 H->(Itt K a).yld i H v H'->H'=H/\xs[i]? =some v:=fun i H v H' s hv=>⟨hv.1,by obtain ⟨rfl,hv⟩:=hv;exact hv xs (SqT.of (s _ _ ha))⟩
noncomputable def zZ:Expr->Scope
 | .ListComp _ _ s _=>s
 | _=>{kind:=.function,names:=[],isGenerator:=false,isCoroutine:=false}
noncomputable def zL:List Stmt->Expr
 | [.Return (some e) _]=>e
 | _=>.Constant .none 0 ⟨0,0,0,0⟩
noncomputable def zI (sc0 scope:Scope):Scope:={scope with names:=bx sc0 scope}
noncomputable def sw (K:W.Frag):List V->Hp->VK->Prop:=fun xs H Q=> ∃ (p:Addr) (bs:List Bool),xs=[.ref p]/\SqL K H p (bs.map V.bl)/\Q (.bl (bs.all id)) H
theorem dw: ∀ ps:List Srt,Paired (fun (p:Srt) (v:V)=>v=.str p.name) ps (be ps)
 | []=>.nil
 | _::r=>.cons rfl (dw r)
theorem cj {α:Type} {g:α->V}: ∀ {l:List α} {zs:List V},Paired (fun a v=>v=g a) l zs->zs=l.map g
 | _,_,.nil=>rfl
 | _,_,.cons h t=>by rw [h,cj t];rfl
def RK (ks:List Key):Prop:=(∃ x:Str,ks=[.inr "own",.inr x]/\x.length<=1000)\/ ∃ (i:Int) (x:Str),ks=[.inr "part",.inl i,.inr x]/\x.length<=1000
inductive Tw (H:Hp):List V->List V->List (List Key)->Prop where
 | nil:Tw H [] [] []
 | rd {a:Addr} {ks:List Key} {vs out:List V} {rs:List (List Key)}:H a=some (.tup (ks.map kV))->RK ks->Tw H vs out rs->Tw H (.ref a::vs) (.ref a::out) (ks::rs)
 | num {a:Addr} {r vs out:List V} {rs:List (List Key)}:H a=some (.tup (.str "num"::r))->r.length<=3->Tw H vs out rs->Tw H (.ref a::vs) (.ref a::out) rs
 | inn {a:Addr} {k:Str} {r vs out:List V} {rs:List (List Key)}:H a=some (.tup (.str k::r))->(eA k).isSome=true->k.length<=1000->r.length<=3->Tw H (r++vs) out rs->Tw H (.ref a::vs) (.ref a::out) rs
theorem Tw.mono {H H':Hp} {ws out:List V} {rs:List (List Key)} (t:TK H H') (h:Tw H ws out rs):Tw H' ws out rs:=by
 induction h with
 | nil=>exact .nil
 | rd a b _ ih=>exact .rd (t _ _ a) b ih
 | num a b _ ih=>exact .num (t _ _ a) b ih
 | inn a b c d _ ih=>exact .inn (t _ _ a) b c d ih
theorem q8 {ks:List Key} (h:RK ks): ∃ (k:Str) (r:List V),ks.map kV=.str k::r/\(k="own"\/k="part")/\r.length<=3/\eA k=none:=by
 rcases h with ⟨x,rfl,_⟩ | ⟨i,x,rfl,_⟩
 ·exact ⟨"own",_,rfl,.inl rfl,by simp,lH⟩
 ·exact ⟨"part",_,rfl,.inr rfl,by simp,j9⟩
theorem Tw.ts {H:Hp} {ws out:List V} {rs:List (List Key)} (h:Tw H ws out rs):Ts H ws out:=by
 induction h with
 | nil=>exact .nil
 | @rd a ks vs out rs ha hk t ih=>
  obtain ⟨k,r,e,hk2,hl,hi⟩:=q8 hk
  rw [e]at ha
  refine .cons ha ?_ hl ?_
  ·rcases hk2 with rfl | rfl <;> decide +kernel
  ·have:dA (.str k::r)=[]:=by simp only [dA,hi];rfl
   rw [this]
   exact ih
 | @num a r vs out rs ha hl t ih=>
  refine .cons ha (by decide +kernel) hl ?_
  have:dA (.str "num"::r)=[]:=by simp only [dA,tO];rfl
  rw [this]
  exact ih
 | @inn a k r vs out rs ha hi hk hl t ih=>
  refine .cons ha hk hl ?_
  have:dA (.str k::r)=r:=by simp only [dA,hi];rfl
  rw [this]
  exact ih
inductive Tr (H:Hp):List V->List (List Key)->Prop where
 | nil:Tr H [] []
 | rd {a:Addr} {ks:List Key} {out:List V} {rs:List (List Key)}:H a=some (.tup (ks.map kV))->RK ks->Tr H out rs->Tr H (.ref a::out) (ks::rs)
 | no {a:Addr} {k:Str} {r out:List V} {rs:List (List Key)}:H a=some (.tup (.str k::r))-> ¬ k="own"-> ¬ k="part"->Tr H out rs->Tr H (.ref a::out) rs
theorem Tw.tr {H:Hp} {ws out:List V} {rs:List (List Key)} (h:Tw H ws out rs):Tr H out rs:=by
 induction h with
 | nil=>exact .nil
 | rd a b _ ih=>exact .rd a b ih
 | num a _ _ ih=>exact .no a (by decide +kernel) (by decide +kernel) ih
 | @inn a k r vs out rs ha hi _ _ _ ih=>
  refine .no ha (fun e=>?_) (fun e=>?_) ih
  ·rw [e,lH]at hi;cases hi
  ·rw [e,j9]at hi;cases hi
noncomputable def dd (acc:List (List Key)):List (List Key)->List (List Key)
 | []=>acc
 | k::r=>dd (if k∈acc then acc else acc++[k]) r
theorem gk: ∀ {rs acc:List (List Key)},(dd acc rs).length<=acc.length+rs.length
 | [],acc=>Nat.le_refl _
 | x::r,acc=>by
  have:=gk (rs:=r) (acc:=if x∈acc then acc else acc++[x])
  show (dd (if x∈acc then acc else acc++[x]) r).length<=acc.length+ (r.length+1)
  refine Nat.le_trans this ?_
  split
  ·lia
  ·rw [List.length_append,List.length_singleton];lia
theorem oK (kvs:List (List Key×V)) (k:List Key) (v:V):(cz kvs k v).map (·.1)=if k∈kvs.map (·.1)then kvs.map (·.1)else kvs.map (·.1)++[k]:=by
 unfold cz
 by_cases h:k∈kvs.map (·.1)
 ·rw [if_pos h,if_pos,List.map_map]
  ·refine List.map_congr_left fun x _=>?_
   show (if x.1=k then (x.1,v)else x).1=x.1
   split <;> rfl
  ·obtain ⟨x,hx,e⟩:=List.mem_map.mp h
   exact List.any_eq_true.mpr ⟨x,hx,decide_eq_true e⟩
 ·rw [if_neg h,if_neg,List.map_append]
  ·rfl
  ·intro z
   obtain ⟨x,hx,e⟩:=List.any_eq_true.mp z
   exact h (List.mem_map.mpr ⟨x,hx,of_decide_eq_true e⟩)
theorem dD (k:Str):inV (.str k) [.str "own",.str "part"]=(decide (k="own")||decide (k="part")):=by
 show (("own"==k)||(("part"==k)||false))=_
 rw [Bool.or_false]
 by_cases h1:k="own"
 ·subst h1;decide +kernel
 ·by_cases h2:k="part"
  ·subst h2;decide +kernel
  ·rw [decide_eq_false h1,decide_eq_false h2]
   have e1:(("own":Str)==k)=false:=beq_eq_false_iff_ne.mpr fun e=>h1 e.symm
   have e2:(("part":Str)==k)=false:=beq_eq_false_iff_ne.mpr fun e=>h2 e.symm
   rw [e1,e2]
def qV:Sp:=fun vs H Q _=> ∃ v out rs,vs=[v]/\Tw H [v] out rs/\out.length<=1000/\ ∀ p ys H',H p=none->Same H H'->H' p=some (.lst ys)->KsOf H' ys (dd [] rs)->Q (.ref p) H'
theorem scReads:aB ["formula","found","one"] ["formula"] (ag pL):=fsc
theorem vc (F:Fun K "readings_of" "readings_of" pL f fd) (hlist:mg "list"=none) (mR:mg "READINGS"=some (.ref aR)) (hR: ∀ H,SqT K H aR [.str "own",.str "part"])
  (GT:FnOk P w K mg base CX0 2 f2 fd2 ["formula"] nN) (bT:Binds K fd2 ["formula"] []) (kT:W.keepIn K (.ref f2)=true) (mT:mg "tuples_of"=some (.ref f2)):
  FnOk P w K mg base CX0 3 f fd ["formula"] qV:=by
 refine F.ok scReads (fun vs H Q E h=>?_) (fun cdv A outer s H vs Q E hr h=>?_)
 ·obtain ⟨v,b,_,rfl,_⟩:=h
  rfl
 obtain ⟨v,out,rs,rfl,hT,hout,q⟩:=h
 have hu:=hr.units
 refine ⟨_,ae (aq (i:=1) scReads.nd rfl (Or.inl rfl) uR)
  (ae (bg PassesOwn.never rfl (bu (ak GT hr rfl mT kT bT .nil av (aa (pv 0) ac))) (aH (i:=2) scReads.nd rfl (Or.inl rfl))
   (ai (aY (aw fi (ao (r:=aC K) al (pv 2) ad (fun _ _=>rfl)) (rj (v:=.ref aR) rfl mR rfl) (by with_unfolding_all rfl))
    (ai (dL (cF hr) (pv 1) (pv 2) eg rfl)) aK)))
  (ai (ax (bj (qz rfl) rfl hlist (by decide +kernel) (aa (pv 1) ac))))),?_⟩
 refine fun pd hd=>?_
 have s0:=af hd (.dT [])
 have g0:(upd H pd (.dT [])) pd=some (.dT []):=ab
 generalize upd H pd (.dT [])=H0 at s0 g0 ⊢
 refine ⟨_,rfl,v,out,rfl,(hT.mono (fun _ _ h=>s0 _ _ h)).ts,hout,fun p1 H1 s1 h1=>⟨p1,rfl,⟨out,SqL.of h1⟩,?_⟩⟩
 have S1:=s0.trans s1
 have n1:pd≠p1:=fun e=>by
  subst e
  have:=s1 _ _ g0
  rw [h1]at this
  cases this
 refine dj (xs:=out) (fun i Z H'=>i<=out.length/\ ∃ o kvs rs',Z=[some v,some (.ref pd),o]/\H' pd=some (.dT kvs)/\H' p1=some (.lst out)/\Same H H'/\Tr H (out.drop i) rs'/\dd (kvs.map (·.1)) rs'=dd [] rs/\kvs.length<=i)
  ⟨Nat.zero_le _,none,[],rs,rfl,s1 _ _ g0,h1,S1,hT.tr,rfl,Nat.le_refl _⟩ (fun i Z H' _ h=>by obtain ⟨_,_,_,_,_,_,gp,_⟩:=h;exact SqL.of gp) ?_ ?_
 ·rintro i x Z H' hx ⟨hi,o,kvs,rs',rfl,gd,gp,sm,hTr,hdd,hl⟩
  have hlt:i<out.length:=(List.getElem?_eq_some_iff.mp hx).1
  have hdr:out.drop i=x::out.drop (i+1):=by
   rw [List.drop_eq_getElem_cons hlt]
   have:out[i]? =some out[i]:=List.getElem?_eq_getElem hlt
   rw [hx]at this
   rw [Option.some.inj this]
  rw [hdr]at hTr
  cases hTr with
  | @rd a ks _ rs'' ha hk t=>
   obtain ⟨k,r,e,hk2,_,_⟩:=q8 hk
   have ha':=sm _ _ ha
   refine ⟨_,rfl,a,_,0,_,rfl,rfl,SqT.of (by rw [<- e];exact ha'),bi,aR,_,rfl,.inr (hR _),rfl,rfl,_,rfl,?_⟩
   refine cU (fun _=>?_) (fun c=>absurd ?_ c)
   ·refine ⟨_,rfl,_,rfl,pd,_,rfl,DPut.t gd ha' (aG (by lia)),?_⟩
    refine ⟨hlt,_,_,rs'',rfl,ab,by rw [am (Ne.symm n1)];exact gp,fun c oo h=>by rw [am (aj h hd)];exact sm c oo h,t,?_,?_⟩
    ·rw [oK];exact hdd
    ·have:=congrArg List.length (oK kvs ks (.bl true))
     rw [List.length_map]at this
     rw [this]
     split
     ·rw [List.length_map];lia
     ·rw [List.length_append,List.length_map,List.length_singleton];lia
   ·show inV (.str k) [.str "own",.str "part"]=true
    rw [dD]
    rcases hk2 with rfl | rfl <;> rfl
  | @no a k r _ _ ha h1' h2' t=>
   refine ⟨_,rfl,a,_,0,_,rfl,rfl,SqT.of (sm _ _ ha),bi,aR,_,rfl,.inr (hR _),rfl,rfl,_,rfl,?_⟩
   refine cU (fun c=>absurd c ?_) (fun _=>?_)
   ·show ¬ inV (.str k) [.str "own",.str "part"]=true
    rw [dD,decide_eq_false h1',decide_eq_false h2']
    decide
   ·exact ⟨hlt,_,_,rs',rfl,gd,gp,sm,t,hdd,by lia⟩
 ·rintro Z H' ⟨_,o,kvs,rs',rfl,gd,gp,sm,hTr,hdd,hl⟩
  rw [List.drop_length]at hTr
  cases hTr
  refine ⟨_,rfl,pd,kvs,rfl,gd,fun p ys hp hk=>?_⟩
  have e:kvs.map (·.1)=dd [] rs:=hdd
  rw [e]at hk
  exact q p ys _ (sm.free hp) (fun c oo h=>by rw [am (aj (sm c oo h) hp)];exact sm c oo h) ab (hk.mono fun b xs h=>by rw [am (aj h hp)];exact h)
inductive iU  (vs:List V) (H:Hp) (Q:VK) (E_:XK):Prop
 | mk: ∀ bv bk,(vs=[bv])->(RepB H bk bv)->(∀ fa fv,H fa=some (.tup fv)->RepFs H bk.forms fv->Q (.ref fa) H)->iU vs H Q E_
inductive dI  (vs:List V) (H:Hp) (Q:VK) (E_:XK):Prop
 | mk: ∀ v fr,(vs=[v])->(RepF H fr v)->(Q (.str fr.own.name) H)->dI vs H Q E_
inductive dR  (vs:List V) (H:Hp) (Q:VK) (E_:XK):Prop
 | mk: ∀ v fr,(vs=[v])->(RepF H fr v)->(∀ pa,H pa=some (.tup (be fr.parts))->Q (.ref pa) H)->dR vs H Q E_
theorem xt {l:List Frm} (nd:(l.map Frm.name).Nodup) {a b:Frm} (ha:a∈l) (hb:b∈l) (e:a.name=b.name):a=b:=by
 obtain ⟨i,hi⟩:=List.getElem?_of_mem ha
 obtain ⟨j,hj⟩:=List.getElem?_of_mem hb
 have q1:(l.map Frm.name)[i]? =some a.name:=by rw [List.getElem?_map,hi];rfl
 have q2:(l.map Frm.name)[j]? =some a.name:=by rw [List.getElem?_map,hj,e];rfl
 have:=fj nd q1 q2
 subst this
 rw [hi]at hj
 exact Option.some.inj hj
theorem sj:aB ["book"] ["book"] (ag jS):=fsc
theorem qd (F:Fun K "forms_of" "forms_of" jS f fd):FnOk P w K mg base CX0 1 f fd ["book"] iU:=by
 refine F.ok sj (fun vs H Q E h=>?_) (fun cdv A outer s H vs Q E hr h=>?_)
 ·obtain ⟨bv,bk,rfl,_⟩:=h
  rfl
 obtain ⟨bv,bk,rfl,⟨a,sa,fa,fv,rfl,ha,_,hfa,hF⟩,q⟩:=h
 refine ⟨_,ai (ax (ao (r:=aC K) al (pv 0) ad (fun _ _=>rfl))),?_⟩
 exact ⟨_,rfl,a,_,2,_,rfl,rfl,SqT.of ha,ar (j:=2) rfl,q fa fv hfa hF⟩
theorem mf:aB ["form"] ["form"] (ag fV):=fsc
theorem kw (F:Fun K "sort_of_form" "sort_of_form" fV f fd):FnOk P w K mg base CX0 1 f fd ["form"] dI:=by
 refine F.ok mf (fun vs H Q E h=>?_) (fun cdv A outer s H vs Q E hr h=>?_)
 ·obtain ⟨v,fr,rfl,_⟩:=h
  rfl
 obtain ⟨v,fr,rfl,⟨a,pa,ra,rv,rfl,ha,_⟩,q⟩:=h
 refine ⟨_,ai (ax (ao (r:=aC K) al (pv 0) ad (fun _ _=>rfl))),?_⟩
 exact ⟨_,rfl,a,_,1,_,rfl,rfl,SqT.of ha,ar (j:=1) rfl,q⟩
theorem si:aB ["form"] ["form"] (ag jQ):=fsc
theorem qc (F:Fun K "parts_of" "parts_of" jQ f fd):FnOk P w K mg base CX0 1 f fd ["form"] dR:=by
 refine F.ok si (fun vs H Q E h=>?_) (fun cdv A outer s H vs Q E hr h=>?_)
 ·obtain ⟨v,fr,rfl,_⟩:=h
  rfl
 obtain ⟨v,fr,rfl,⟨a,pa,ra,rv,rfl,ha,hpa,_⟩,q⟩:=h
 refine ⟨_,ai (ax (ao (r:=aC K) al (pv 0) ad (fun _ _=>rfl))),?_⟩
 exact ⟨_,rfl,a,_,2,_,rfl,rfl,SqT.of ha,ar (j:=2) rfl,q pa hpa⟩
def la:Sp:=fun vs H Q _=> ∃ bv bk,vs=[bv]/\RepB H bk bv/\ ∀ sa sv,H sa=some (.tup sv)->RepSs H bk.sorts sv->Q (.ref sa) H
def iT:Sp:=fun vs H Q _=> ∃ v fr,vs=[v]/\RepF H fr v/\ ∀ ra rv,H ra=some (.tup rv)->RepRs H fr.rules rv->Q (.ref ra) H
theorem sf:aB ["book"] ["book"] (ag jO):=fsc
theorem pZ (F:Fun K "sorts_of" "sorts_of" jO f fd):FnOk P w K mg base CX0 1 f fd ["book"] la:=by
 refine F.ok sf (fun vs H Q E h=>?_) (fun cdv A outer s H vs Q E hr h=>?_)
 ·obtain ⟨bv,bk,rfl,_⟩:=h
  rfl
 obtain ⟨bv,bk,rfl,⟨a,sa,fa,fv,rfl,ha,⟨sx,hsa,hS⟩,_⟩,q⟩:=h
 refine ⟨_,ai (ax (ao (r:=aC K) al (pv 0) ad (fun _ _=>rfl))),?_⟩
 exact ⟨_,rfl,a,_,1,_,rfl,rfl,SqT.of ha,ar (j:=1) rfl,q sa sx hsa hS⟩
theorem sh:aB ["form"] ["form"] (ag jP):=fsc
theorem qb (F:Fun K "rules_of" "rules_of" jP f fd):FnOk P w K mg base CX0 1 f fd ["form"] iT:=by
 refine F.ok sh (fun vs H Q E h=>?_) (fun cdv A outer s H vs Q E hr h=>?_)
 ·obtain ⟨v,fr,rfl,_⟩:=h
  rfl
 obtain ⟨v,fr,rfl,⟨a,pa,ra,rv,rfl,ha,hpa,hra,hR⟩,q⟩:=h
 refine ⟨_,ai (ax (ao (r:=aC K) al (pv 0) ad (fun _ _=>rfl))),?_⟩
 exact ⟨_,rfl,a,_,3,_,rfl,rfl,SqT.of ha,ar (j:=3) rfl,q ra rv hra hR⟩
noncomputable def nJ (t:Int×Str):List Key:=[.inl t.1,.inr t.2]
theorem qe (x y z:V): ¬ (HT.sIx [x,y,z].length 0 none=0/\HT.sIx [x,y,z].length [x,y,z].length (some 2)=[x,y,z].length):=by
 rintro ⟨_,h⟩
 have h2:HT.sIx 3 3 (some 2)=3:=h
 exact absurd h2 (by decide)
theorem AR (x y z:V):cW [x,y,z] none (some 2)=[x,y]:=rfl
def nT:Sp:=fun vs H Q _=> ∃ v fr,vs=[v]/\RepF H fr v/\fr.rules.length<=12/\ ∀ p zs H',H p=none->Same H H'->H' p=some (.lst zs)->KsOf H' zs ((fr.rules.map fun r=>(r.pl,r.word)).map nJ)->Q (.ref p) H'
def qY:Sp:=fun vs H Q _=> ∃ a ks,vs=[.ref a]/\H a=some (.tup (List.map kV ks))/\RK ks/\ ∀ p (i:Int) (x:Str),((ks=[.inr "own",.inr x]/\i= -1)\/ks=[.inr "part",.inl i,.inr x])->H p=none->Q (.ref p) (upd H p (.tup [.int i,.str x]))
def nO:Sp:=fun vs H Q _=> ∃ (v:V) (fr:Frm) (i:Int) (q:Srt),vs=[v,.int i]/\RepF H fr v/\((i= -1/\q=fr.own)\/(0<=i/\fr.parts[i.toNat]? =some q))/\Q (.str (Srt.name q)) H
theorem uy:aB ["form"] ["form"] (ag jw):=fsc
theorem sW (F:Fun K "keys_of" "keys_of" jw f fd)
  (GU:FnOk P w K mg base CX0 1 f2 fd2 ["form"] iT) (bU:Binds K fd2 ["form"] []) (kU:W.keepIn K (.ref f2)=true) (mU:mg "rules_of"=some (.ref f2)):
  FnOk P w K mg base CX0 2 f fd ["form"] nT:=by
 refine F.ok uy (fun vs H Q E h=>?_) (fun cdv A outer s H vs Q E hr h=>?_)
 ·obtain ⟨bv,bk,rfl,_⟩:=h
  rfl
 obtain ⟨v,fr,rfl,hF,h12,q⟩:=h
 refine ⟨_,ai (ax (cy (sc0:=ag jw) (N0:=["form"]) (ys:=[]) (fr:=[]) rfl (cf (ak GU hr rfl mU kU bU .nil av (aa (pv 0) ac))) rfl rfl
   cok (fun C s H ex=>aN (r:=yj K) pG (pv 0) aZ (aV ad)))),?_⟩
 refine ⟨_,rfl,_,fr,rfl,hF,fun rb rv hrb hR=>?_⟩
 have lR:=hR.len
 refine ⟨rb,rfl,⟨_,SqT.of hrb⟩,?_⟩
 refine cs (by lia) hR (dz hrb) (dy hrb) (eW hrb) (fun H r v=> ∃ b,v=.ref b/\H b=some (.tup ((nJ (r.pl,r.word)).map kV))) (fun t ⟨b,e,h⟩=>⟨b,e,t _ _ h⟩) ?_ ?_
 ·rintro r v H1 k hr' ⟨a,u,rfl,ha,_⟩ s1 hk
  refine ⟨_,rfl,2,rfl,a,_,rfl,SqT.of (s1 _ _ ha),qe _ _ _,fun p hp=>?_⟩
  rw [AR]
  exact hk _ _ (af hp _) ⟨p,rfl,ab⟩
 intro p zs H1 hp s1 g1 hz
 refine q p zs H1 hp s1 g1 ?_
 have: ∀ {l:List Rul} {zs:List V},Paired (fun (r:Rul) v=> ∃ b,v=.ref b/\H1 b=some (.tup ((nJ (r.pl,r.word)).map kV))) l zs->KsOf H1 zs ((l.map fun r=>(r.pl,r.word)).map nJ):=by
  intro l zs h
  induction h with
  | nil=>exact .nil
  | cons a _ ih=>exact .cons a ih
 exact this hz
theorem wI:aB ["reading"] ["reading"] (ag pP):=fsc
theorem vn (F:Fun K "key_of" "key_of" pP f fd):FnOk P w K mg base CX0 1 f fd ["reading"] qY:=by
 refine F.ok wI (fun vs H Q E h=>?_) (fun cdv A outer s H vs Q E hr h=>?_)
 ·obtain ⟨a,ks,rfl,_⟩:=h
  rfl
 obtain ⟨a,ks,rfl,ha,hk,q⟩:=h
 refine ⟨_,ai (ax (ga (aw bq (ao (r:=aC K) al (pv 0) ad (fun _ _=>rfl)) aX (ay _))
  (aP (aa (dY c7 ad) (aa (ao (r:=aC K) al (pv 0) ad (fun _ _=>rfl)) ac)))
  (aP (aa (ao (r:=aC K) al (pv 0) ad (fun _ _=>rfl)) (aa (ao (r:=aC K) al (pv 0) ad (fun _ _=>rfl)) ac))))),?_⟩
 rcases hk with ⟨x,rfl,_⟩ | ⟨i,x,rfl,_⟩
 ·refine ⟨_,rfl,a,_,0,.str "own",rfl,rfl,SqT.of ha,bi,rfl,true,(by rw [decide_eq_true rfl]),bt ?_⟩
  refine ⟨1,rfl,_,rfl,a,_,1,.str x,rfl,rfl,SqT.of ha,ar (j:=1) rfl,(by show 2<=sizeLine;decide),fun p hp=>q p (-1) x (.inl ⟨rfl,rfl⟩) hp⟩
 ·refine ⟨_,rfl,a,_,0,.str "part",rfl,rfl,SqT.of ha,bi,rfl,false,(by rw [decide_eq_false (by decide +kernel)]),bh ?_⟩
  refine ⟨_,rfl,a,_,1,.int i,rfl,rfl,SqT.of ha,ar (j:=1) rfl,_,rfl,a,_,2,.str x,rfl,rfl,SqT.of ha,ar (j:=2) rfl,(by show 2<=sizeLine;decide),fun p hp=>q p i x (.inr rfl) hp⟩
theorem uw:aB ["form","at"] ["form","at"] (ag ml):=fsc
theorem sL (F:Fun K "sort_at" "sort_at" ml f fd)
  (GO:FnOk P w K mg base CX0 1 f5 fd5 ["form"] dI) (bO:Binds K fd5 ["form"] []) (kO:W.keepIn K (.ref f5)=true) (mO:mg "sort_of_form"=some (.ref f5))
  (GP:FnOk P w K mg base CX0 1 f6 fd6 ["form"] dR) (bP:Binds K fd6 ["form"] []) (kP:W.keepIn K (.ref f6)=true) (mP:mg "parts_of"=some (.ref f6)):
  FnOk P w K mg base CX0 2 f fd ["form","at"] nO:=by
 refine F.ok uw (fun vs H Q E h=>?_) (fun cdv A outer s H vs Q E hr h=>?_)
 ·obtain ⟨v,fr,i,qq,rfl,_⟩:=h
  rfl
 obtain ⟨v,fr,i,qq,rfl,hF,hc,q⟩:=h
 refine ⟨_,ai (ax (ga (aw bq (pv 1) (dY c7 ad) (ay _)) (ak GO hr rfl mO kO bO .nil av (aa (pv 0) ac))
  (ao (r:=aC K) al (ak GP hr rfl mP kP bP .nil av (aa (pv 0) ac)) (pv 1) (fun _ _=>rfl)))),?_⟩
 rcases hc with ⟨rfl,rfl⟩ | ⟨h0,hq⟩
 ·exact ⟨_,rfl,1,rfl,rfl,true,(by rw [decide_eq_true rfl]),bt ⟨_,rfl,v,fr,rfl,hF,q⟩⟩
 ·refine ⟨_,rfl,1,rfl,rfl,false,(by rw [decide_eq_false fun z=>by have:=V.int.inj z;lia]),bh ⟨_,rfl,v,fr,rfl,hF,fun pa hpa=>?_⟩⟩
  have e:(be fr.parts)[i.toNat]? =some (.str qq.name):=by unfold be;rw [List.getElem?_map,hq];rfl
  have e2:i=((i.toNat:Nat):Int):=by lia
  refine ⟨_,rfl,pa,_,i,.str qq.name,rfl,rfl,SqT.of hpa,?_,q⟩
  rw [e2]
  exact ar e
noncomputable def Fm.rdk:Fm->List (List Key)
 | .num _=>[]
 | .own x=>[[.inr "own",.inr x]]
 | .part k x=>[[.inr "part",.inl k,.inr x]]
 | .bin _ a b=>a.rdk++b.rdk
 | .whn a b c=>a.rdk++(b.rdk++c.rdk)
noncomputable def fsz:List Fm->Nat
 | []=>0
 | f::r=>f.size+fsz r
noncomputable def c8:List Fm->List (List Key)
 | []=>[]
 | f::r=>f.rdk++c8 r
theorem Tw.of {H:Hp}: ∀ (n:Nat) {fs:List Fm} {ws:List V},fsz fs=n->Paired (fun f v=>Rep H f v/\f.wf) fs ws-> ∃ out,Tw H ws out (c8 fs)/\out.length=n:=by
 intro n
 induction n using Nat.strongRecOn with
 | _ n ih=>
  intro fs ws hn h
  cases h with
  | nil=>exact ⟨[],.nil,hn⟩
  | @cons f v fs ws hf t=>
   obtain ⟨rp,wf⟩:=hf
   have hn:f.size+fsz fs=n:=hn
   cases f with
   | num i=>
    obtain ⟨a,rfl,ha⟩:=rp
    have hn:1+fsz fs=n:=hn
    obtain ⟨out,h1,h2⟩:=ih (fsz fs) (by lia) rfl t
    exact ⟨_,.num ha (by simp) h1,by rw [List.length_cons,h2];lia⟩
   | own x=>
    obtain ⟨a,rfl,ha⟩:=rp
    have hn:1+fsz fs=n:=hn
    obtain ⟨out,h1,h2⟩:=ih (fsz fs) (by lia) rfl t
    exact ⟨_,.rd (ks:=[.inr "own",.inr x]) ha (.inl ⟨x,rfl,fu wf⟩) h1,by rw [List.length_cons,h2];lia⟩
   | part k x=>
    obtain ⟨a,rfl,ha⟩:=rp
    obtain ⟨w0,w1⟩:(0<=k/\k<=2)/\cQ x=true:=wf
    have hn:1+fsz fs=n:=hn
    obtain ⟨out,h1,h2⟩:=ih (fsz fs) (by lia) rfl t
    exact ⟨_,.rd (ks:=[.inr "part",.inl k,.inr x]) ha (.inr ⟨k,x,rfl,fu w1⟩) h1,by rw [List.length_cons,h2];lia⟩
   | bin op A B=>
    obtain ⟨a,u,w,rfl,ha,r1,r2⟩:=rp
    obtain ⟨ho,w1,w2⟩:op∈ops/\A.wf/\B.wf:=wf
    have hn:A.size+B.size+1+fsz fs=n:=hn
    obtain ⟨out,h1,h2⟩:=ih (A.size+ (B.size+fsz fs)) (by lia) (fs:=A::B::fs) rfl (.cons ⟨r1,w1⟩ (.cons ⟨r2,w2⟩ t))
    refine ⟨.ref a::out,?_,by rw [List.length_cons,h2];lia⟩
    rw [show c8 (Fm.bin op A B::fs)=c8 (A::B::fs)from List.append_assoc _ _ _]
    exact .inn ha (by rw [tN ho];rfl) (sI ho) (by simp) h1
   | whn A B C=>
    obtain ⟨a,u,w,z,rfl,ha,r1,r2,r3⟩:=rp
    obtain ⟨w1,w2,w3⟩:A.wf/\B.wf/\C.wf:=wf
    have hn:A.size+B.size+C.size+1+fsz fs=n:=hn
    obtain ⟨out,h1,h2⟩:=ih (A.size+ (B.size+ (C.size+fsz fs))) (by lia) (fs:=A::B::C::fs) rfl (.cons ⟨r1,w1⟩ (.cons ⟨r2,w2⟩ (.cons ⟨r3,w3⟩ t)))
    refine ⟨.ref a::out,?_,by rw [List.length_cons,h2];lia⟩
    rw [show c8 (Fm.whn A B C::fs)=c8 (A::B::C::fs)from by show (A.rdk++(B.rdk++C.rdk))++c8 fs=A.rdk++(B.rdk++(C.rdk++c8 fs));rw [List.append_assoc,List.append_assoc]]
    exact .inn ha (by rw [qm];rfl) (by decide +kernel) (by simp) h1
theorem Tw.of1 {H:Hp} {f:Fm} {v:V} (r:Rep H f v) (wf:f.wf): ∃ out,Tw H [v] out f.rdk/\out.length=f.size:=by
 obtain ⟨out,h1,h2⟩:=Tw.of (H:=H) f.size (fs:=[f]) (ws:=[v]) rfl (.cons ⟨r,wf⟩ .nil)
 rw [show c8 [f]=f.rdk from List.append_nil _]at h1
 exact ⟨out,h1,h2⟩
theorem dd_iff {ks:List Key}: ∀ {rs acc:List (List Key)},ks∈dd acc rs↔ks∈acc\/ks∈rs
 | [],acc=>by
  show ks∈acc↔_
  exact ⟨.inl,fun h=>h.elim id fun z=>by cases z⟩
 | x::r,acc=>by
  show ks∈dd (if x∈acc then acc else acc++[x]) r↔_
  rw [dd_iff (rs:=r),List.mem_cons]
  by_cases h:x∈acc
  ·rw [if_pos h]
   exact ⟨fun z=>z.elim .inl fun z=>.inr (.inr z),fun z=>z.elim .inl fun z=>z.elim (fun e=>.inl (by rw [e];exact h)) .inr⟩
  ·rw [if_neg h,List.mem_append,List.mem_singleton]
   exact ⟨fun z=>z.elim (fun z=>z.elim .inl fun z=>.inr (.inl z)) fun z=>.inr (.inr z),fun z=>z.elim (fun z=>.inl (.inl z)) fun z=>z.elim (fun z=>.inl (.inr z)) .inr⟩
def zo (s:Srt):Prop:=(s.downs++s.ups).Nodup/\(∀ x∈s.downs++s.ups,cQ x=true)/\s.downs.length<=3/\s.ups.length<=3
def wq (ss:List Srt):Prop:=1<=ss.length/\ss.length<=4/\(ss.map Srt.name).Nodup/\(∀ s∈ss,cQ s.name=true)/\ ∀ s∈ss,zo s
theorem wB {ss:List Srt} (h:dQ ss):wq ss:=⟨h.1,h.2.1,h.2.2.1,h.2.2.2.1,fun s hs=>let o:=h.2.2.2.2 s hs;⟨o.1,o.2.1,o.2.2.1,o.2.2.2.1⟩⟩
structure BkG (b:Bk):Prop where
 so:wq b.sorts
 few:b.forms.length<=10
 nd:(b.forms.map Frm.name).Nodup
 wd: ∀ fr∈b.forms,cQ fr.name=true
 ok: ∀ fr∈b.forms,fr.own∈b.sorts/\(∀ q∈fr.parts,q∈b.sorts)/\fr.parts.length<=3
abbrev Sz:=List (Str×Nat)
noncomputable def aL (m:Sz) (x:Str):Option Nat:=(m.find? fun q=>decide (q.1=x)).map (·.2)
noncomputable def kvS (m:Sz):List (Key×V):=m.map fun q=>(Sum.inr q.1,.int (q.2:Int))
theorem fq (q:Str×Nat) (m:Sz) (x:Str):aL (q::m) x=if q.1=x then some q.2 else aL m x:=by
 unfold aL
 rw [List.find?_cons]
 by_cases c:q.1=x
 ·rw [if_pos c,decide_eq_true c];rfl
 ·rw [if_neg c,decide_eq_false c]
theorem ip (m:Sz) (x:Str):aW (kvS m) (.inr x)=(aL m x).map fun n=>V.int (n:Int):=by
 induction m with
 | nil=>rfl
 | cons q r ih=>
  rw [fq]
  show aW ((Sum.inr q.1,V.int (q.2:Int))::kvS r) (.inr x)=_
  by_cases c:q.1=x
  ·rw [if_pos c,cb (show (Sum.inr q.1:Key)=.inr x by rw [c])];rfl
  ·rw [if_neg c,bc (fun z=>c (Sum.inr.inj z)),ih]
theorem j7 (m:Sz):oZ (kvS m):=fun kv h=>by
 obtain ⟨q,_,rfl⟩:=List.mem_map.mp h
 exact ⟨_,rfl⟩
theorem vO {m:Sz} {x:Str} {n:Nat} (h:aL m x=some n):(x,n)∈m:=by
 induction m with
 | nil=>cases h
 | cons q r ih=>
  rw [fq]at h
  by_cases c:q.1=x
  ·rw [if_pos c]at h
   cases h
   rw [<- c]
   exact List.mem_cons_self
  ·rw [if_neg c]at h
   exact List.mem_cons_of_mem _ (ih h)
theorem xo {m:Sz} (nd:(m.map (·.1)).Nodup) {x:Str} {n:Nat} (h:(x,n)∈m):aL m x=some n:=by
 induction m with
 | nil=>cases h
 | cons q r ih=>
  rw [List.map_cons,List.nodup_cons]at nd
  rw [fq]
  rcases List.mem_cons.mp h with e | h
  ·subst e;rw [if_pos rfl]
  ·rw [if_neg (fun z=>nd.1 (by rw [z];exact List.mem_map.mpr ⟨_,h,rfl⟩))]
   exact ih nd.2 h
theorem getS_key {m:Sz} {x:Str}:(aL m x).isSome=true↔x∈m.map (·.1):=by
 induction m with
 | nil=>exact ⟨fun h=>(by cases h),fun h=>(by cases h)⟩
 | cons q r ih=>
  rw [fq,List.map_cons,List.mem_cons]
  by_cases c:q.1=x
  ·rw [if_pos c];exact ⟨fun _=>.inl c.symm,fun _=>rfl⟩
  ·rw [if_neg c,ih];exact ⟨.inr,fun h=>h.resolve_left fun z=>c z.symm⟩
theorem mV {α:Type} [DecidableEq α]: ∀ {l r:List α},l.Nodup->(∀ a∈l,a∈r)->l.length<=r.length
 | [],_,_,_=>Nat.zero_le _
 | a::l,r,nd,h=>by
  rw [List.nodup_cons]at nd
  have ha:=h a List.mem_cons_self
  have:=mV (r:=r.erase a) nd.2 fun b hb=>(List.mem_erase_of_ne (fun z=>nd.1 (by rw [<- z];exact hb))).mpr (h b (List.mem_cons_of_mem _ hb))
  rw [List.length_erase_of_mem ha]at this
  have:0<r.length:=List.length_pos_of_mem ha
  rw [List.length_cons]
  lia
theorem rG {m m':Sz} (nd:(m.map (·.1)).Nodup) (nd':(m'.map (·.1)).Nodup):eqD (kvS m) (kvS m')=true↔ ∀ x,aL m x=aL m' x:=by
 have hl:(kvS m).length=(m.map (·.1)).length:=by unfold kvS;rw [List.length_map,List.length_map]
 have hl':(kvS m').length=(m'.map (·.1)).length:=by unfold kvS;rw [List.length_map,List.length_map]
 unfold eqD
 rw [Bool.and_eq_true,beq_iff_eq,List.all_eq_true]
 constructor
 ·rintro ⟨h1,h2⟩
  have h2: ∀ x n,aL m x=some n->aL m' x=some n:=fun x n h=>by
   have:=of_decide_eq_true (h2 (Sum.inr x,.int (n:Int)) (List.mem_map.mpr ⟨(x,n),vO h,rfl⟩))
   rw [ip]at this
   cases hg:aL m' x with
   | none=>rw [hg]at this;cases this
   | some k=>
    rw [hg]at this
    have:=V.int.inj (Option.some.inj this)
    rw [show k=n by lia]
  intro x
  cases hx:aL m x with
  | some n=>exact (h2 x n hx).symm
  | none=>
   cases hx':aL m' x with
   | none=>rfl
   | some n=>
    exfalso
    have sub: ∀ a∈m.map (·.1),a∈(m'.map (·.1)).erase x:=fun a ha=>by
     obtain ⟨k,hk⟩:=Option.isSome_iff_exists.mp (getS_key.mpr ha)
     refine (List.mem_erase_of_ne (fun z=>?_)).mpr (getS_key.mp (by rw [h2 a k hk];rfl))
     rw [z,hx]at hk;cases hk
    have hp:=mV nd sub
    have hm:=getS_key.mp (show (aL m' x).isSome=true by rw [hx'];rfl)
    rw [List.length_erase_of_mem hm]at hp
    have:=List.length_pos_of_mem hm
    lia
 ·intro h
  refine ⟨?_,fun kv hkv=>?_⟩
  ·have a:=mV (r:=m'.map (·.1)) nd fun a ha=>getS_key.mp (by rw [<- h];exact getS_key.mpr ha)
   have b:=mV (r:=m.map (·.1)) nd' fun a ha=>getS_key.mp (by rw [h];exact getS_key.mpr ha)
   lia
  ·obtain ⟨q,hq,rfl⟩:=List.mem_map.mp hkv
   refine decide_eq_true ?_
   show aW (kvS m') (.inr q.1)=some (.int (q.2:Int))
   rw [ip,<- h,xo nd (x:=q.1) (n:=q.2) hq]
   rfl
noncomputable def aM (m:Sz) (fr:Frm):Bool:=fr.parts.all fun p=>(aL m p.name).isSome
noncomputable def szB (m:Sz) (fr:Frm):Nat:=1+ (fr.parts.map fun p=>(aL m p.name).getD 0).sum
noncomputable def cv (bk:Bk) (m:Sz) (x:Str):List Nat:=(bk.forms.filter fun fr=>aM m fr&&decide (fr.own.name=x)).map (szB m)
noncomputable def ie:List Nat->Option Nat
 | []=>none
 | a::r=>some (r.foldl min a)
theorem jc: ∀ (r:List Nat) (a:Nat),r.foldl min a∈a::r/\ ∀ k∈a::r,r.foldl min a<=k
 | [],a=>⟨List.mem_cons_self,fun k hk=>by rw [List.mem_singleton.mp hk];exact Nat.le_refl _⟩
 | b::r,a=>by
  obtain ⟨h1,h2⟩:=jc r (min a b)
  show r.foldl min (min a b)∈a::b::r/\ ∀ k∈a::b::r,r.foldl min (min a b)<=k
  have hm:=h2 (min a b) List.mem_cons_self
  refine ⟨?_,fun k hk=>?_⟩
  ·rcases List.mem_cons.mp h1 with e | h1
   ·rw [e]
    rcases Nat.le_total a b with h | h
    ·rw [Nat.min_eq_left h];exact List.mem_cons_self
    ·rw [Nat.min_eq_right h];exact List.mem_cons_of_mem _ List.mem_cons_self
   ·exact List.mem_cons_of_mem _ (List.mem_cons_of_mem _ h1)
  ·rcases List.mem_cons.mp hk with rfl | hk
   ·exact Nat.le_trans hm (Nat.min_le_left ..)
   ·rcases List.mem_cons.mp hk with rfl | hk
    ·exact Nat.le_trans hm (Nat.min_le_right ..)
    ·exact h2 k (List.mem_cons_of_mem _ hk)
theorem gK {l:List Nat} {n:Nat} (h:ie l=some n):n∈l/\ ∀ k∈l,n<=k:=by
 cases l with
 | nil=>cases h
 | cons a r=>
  cases h
  exact jc r a
theorem ng {l:List Nat} {k:Nat} (h:k∈l): ∃ n,ie l=some n/\n<=k:=by
 cases l with
 | nil=>cases h
 | cons a r=>exact ⟨_,rfl,(jc r a).2 k h⟩
noncomputable def RdS (bk:Bk) (m:Sz):Sz:=bk.sorts.filterMap fun s=>(ie (cv bk m s.name)).map fun n=>(s.name,n)
theorem cO (bk:Bk) (m:Sz) (hs:(bk.sorts.map Srt.name).Nodup):((RdS bk m).map (·.1)).Nodup/\ ∀ x n,aL (RdS bk m) x=some n↔(∃ s∈bk.sorts,s.name=x)/\ie (cv bk m x)=some n:=by
 unfold RdS
 generalize bk.sorts=ss at hs
 induction ss with
 | nil=>exact ⟨List.nodup_nil,fun x n=>⟨fun h=>(by cases h),fun ⟨⟨s,h,_⟩,_⟩=>(by cases h)⟩⟩
 | cons s r ih=>
  rw [List.map_cons,List.nodup_cons]at hs
  obtain ⟨i1,i2⟩:=ih hs.2
  have sub: ∀ y∈(r.filterMap fun s=>(ie (cv bk m s.name)).map fun n=>(s.name,n)).map (·.1),y∈r.map Srt.name:=fun y hy=>by
   obtain ⟨q,hq,rfl⟩:=List.mem_map.mp hy
   obtain ⟨t,ht,e⟩:=List.mem_filterMap.mp hq
   cases hm:ie (cv bk m t.name)with
   | none=>rw [hm]at e;cases e
   | some k=>rw [hm]at e;cases e;exact List.mem_map.mpr ⟨t,ht,rfl⟩
  cases hm:ie (cv bk m s.name)with
  | none=>
   rw [List.filterMap_cons_none (by rw [hm];rfl)]
   refine ⟨i1,fun x n=>(i2 x n).trans ⟨fun ⟨⟨t,ht,e⟩,h⟩=>⟨⟨t,List.mem_cons_of_mem _ ht,e⟩,h⟩,fun ⟨⟨t,ht,e⟩,h⟩=>?_⟩⟩
   rcases List.mem_cons.mp ht with rfl | ht
   ·rw [<- e,hm]at h;cases h
   ·exact ⟨⟨t,ht,e⟩,h⟩
  | some k=>
   rw [List.filterMap_cons_some (b:=(s.name,k)) (by rw [hm];rfl)]
   refine ⟨?_,fun x n=>?_⟩
   ·rw [List.map_cons,List.nodup_cons]
    exact ⟨fun h=>hs.1 (sub _ h),i1⟩
   ·rw [fq]
    by_cases c:s.name=x
    ·rw [if_pos c]
     constructor
     ·intro h
      cases h
      exact ⟨⟨s,List.mem_cons_self,c⟩,by rw [<- c];exact hm⟩
     ·rintro ⟨_,h⟩
      rw [<- c,hm]at h
      exact h
    ·rw [if_neg c,i2]
     constructor
     ·rintro ⟨⟨t,ht,e⟩,h⟩
      exact ⟨⟨t,List.mem_cons_of_mem _ ht,e⟩,h⟩
     ·rintro ⟨⟨t,ht,e⟩,h⟩
      rcases List.mem_cons.mp ht with rfl | ht
      ·exact absurd e c
      ·exact ⟨⟨t,ht,e⟩,h⟩
theorem cands_mem {bk:Bk} {m:Sz} {x:Str} {n:Nat}:n∈cv bk m x↔ ∃ fr∈bk.forms,aM m fr=true/\fr.own.name=x/\szB m fr=n:=by
 unfold cv
 rw [List.mem_map]
 constructor
 ·rintro ⟨fr,h,e⟩
  obtain ⟨h1,h2⟩:=List.mem_filter.mp h
  rw [Bool.and_eq_true]at h2
  exact ⟨fr,h1,h2.1,of_decide_eq_true h2.2,e⟩
 ·rintro ⟨fr,h1,h2,h3,h4⟩
  exact ⟨fr,List.mem_filter.mpr ⟨h1,by rw [Bool.and_eq_true];exact ⟨h2,decide_eq_true h3⟩⟩,h4⟩
theorem gO {m:Sz} {fr:Frm} (h:aM m fr=true) {p:Srt} (hp:p∈fr.parts): ∃ k,aL m p.name=some k/\k<szB m fr:=by
 obtain ⟨k,hk⟩:=Option.isSome_iff_exists.mp (List.all_eq_true.mp h p hp)
 refine ⟨k,hk,?_⟩
 unfold szB
 have: ∀ l:List Srt,p∈l->k<=(l.map fun p=>(aL m p.name).getD 0).sum:=by
  intro l
  induction l with
  | nil=>intro h;cases h
  | cons q r ih=>
   intro h
   rw [List.map_cons,List.sum_cons]
   rcases List.mem_cons.mp h with rfl | h
   ·rw [hk];show k<=k+_;lia
   ·have:=ih h;lia
 have:=this fr.parts hp
 lia
def LeS (m m':Sz):Prop:= ∀ x n,aL m x=some n-> ∃ n',aL m' x=some n'/\n'<=n
theorem vE {m m':Sz} (h:LeS m m') {fr:Frm} (hg:aM m fr=true):aM m' fr=true/\szB m' fr<=szB m fr:=by
 unfold szB aM at *
 have go: ∀ l:List Srt,(l.all fun p=>(aL m p.name).isSome)=true->(l.all fun p=>(aL m' p.name).isSome)=true/\(l.map fun p=>(aL m' p.name).getD 0).sum<=(l.map fun p=>(aL m p.name).getD 0).sum:=by
  intro l
  induction l with
  | nil=>intro _;exact ⟨rfl,Nat.le_refl _⟩
  | cons p r ih=>
   intro hp
   rw [List.all_cons,Bool.and_eq_true]at hp
   obtain ⟨k,hk⟩:=Option.isSome_iff_exists.mp hp.1
   obtain ⟨k',hk',hle⟩:=h _ _ hk
   obtain ⟨i1,i2⟩:=ih hp.2
   refine ⟨by rw [List.all_cons,i1,hk'];rfl,?_⟩
   rw [List.map_cons,List.map_cons,List.sum_cons,List.sum_cons,hk,hk']
   show k'+_<=k+_
   lia
 obtain ⟨a,b⟩:=go fr.parts hg
 exact ⟨a,by lia⟩
structure FixS (bk:Bk) (m:Sz):Prop where
 key: ∀ x,(aL m x).isSome=true-> ∃ s∈bk.sorts,s.name=x
 fix: ∀ s∈bk.sorts,aL m s.name=ie (cv bk m s.name)
theorem FixS.wit {bk:Bk} {m:Sz} (h:FixS bk m) {x:Str} {n:Nat} (e:aL m x=some n): ∃ fr∈bk.forms,aM m fr=true/\fr.own.name=x/\szB m fr=n:=by
 obtain ⟨s,hs,rfl⟩:=h.key x (by rw [e];rfl)
 rw [h.fix s hs]at e
 exact cands_mem.mp (gK e).1
theorem FixS.low {bk:Bk} {m:Sz} (hb:BkG bk) (h:FixS bk m) {fr:Frm} (hf:fr∈bk.forms) (hg:aM m fr=true): ∃ n,aL m fr.own.name=some n/\n<=szB m fr:=by
 rw [h.fix fr.own (hb.ok fr hf).1]
 exact ng (cands_mem.mpr ⟨fr,hf,hg,rfl,rfl⟩)
theorem qp {bk:Bk} {m m':Sz} (hb:BkG bk) (h:FixS bk m) (h':FixS bk m'): ∀ n x,aL m x=some n-> ∃ n',aL m' x=some n'/\n'<=n:=by
 intro n
 induction n using Nat.strongRecOn with
 | _ n ih=>
  intro x e
  obtain ⟨fr,hf,hg,ho,hz⟩:=h.wit e
  have go: ∀ l:List Srt,(∀ p∈l,∃ k,aL m p.name=some k/\k<n)->(l.all fun p=>(aL m' p.name).isSome)=true/\(l.map fun p=>(aL m' p.name).getD 0).sum<=(l.map fun p=>(aL m p.name).getD 0).sum:=by
   intro l
   induction l with
   | nil=>intro _;exact ⟨rfl,Nat.le_refl _⟩
   | cons p r ih2=>
    intro hp
    obtain ⟨k,hk,hlt⟩:=hp p List.mem_cons_self
    obtain ⟨k',hk',hle⟩:=ih k hlt p.name hk
    obtain ⟨i1,i2⟩:=ih2 fun q hq=>hp q (List.mem_cons_of_mem _ hq)
    refine ⟨by rw [List.all_cons,i1,hk'];rfl,?_⟩
    rw [List.map_cons,List.map_cons,List.sum_cons,List.sum_cons,hk,hk']
    show k'+_<=k+_
    lia
  obtain ⟨a,b⟩:=go fr.parts fun p hp=>by
   obtain ⟨k,h1,h2⟩:=gO hg hp
   exact ⟨k,h1,by lia⟩
  obtain ⟨n',h1,h2⟩:=h'.low hb hf a
  rw [ho]at h1
  refine ⟨n',h1,?_⟩
  unfold szB at h2 hz
  lia
theorem y6 {bk:Bk} {m m':Sz} (hb:BkG bk) (h:FixS bk m) (h':FixS bk m'): ∀ x,aL m x=aL m' x:=by
 intro x
 cases e:aL m x with
 | some n=>
  obtain ⟨n',h1,h2⟩:=qp hb h h' n x e
  obtain ⟨n2,h3,h4⟩:=qp hb h' h n' x h1
  rw [e]at h3
  cases h3
  rw [h1,show n'=n by lia]
 | none=>
  cases e':aL m' x with
  | none=>rfl
  | some n=>
   obtain ⟨n',h1,_⟩:=qp hb h' h n x e'
   rw [e]at h1
   cases h1
theorem tR {bk:Bk} {m m':Sz} (h: ∀ x,aL m x=aL m' x):(∀ fr,aM m fr=aM m' fr/\szB m fr=szB m' fr)/\ ∀ x,cv bk m x=cv bk m' x:=by
 have a: ∀ fr,aM m fr=aM m' fr/\szB m fr=szB m' fr:=fun fr=>by
  unfold aM szB
  constructor <;> simp only [h]
 refine ⟨a,fun x=>?_⟩
 unfold cv
 have e1:(fun fr=>aM m fr&&decide (fr.own.name=x))=(fun fr=>aM m' fr&&decide (fr.own.name=x)):=funext fun fr=>by rw [(a fr).1]
 have e2:szB m=szB m':=funext fun fr=>(a fr).2
 rw [e1,e2]
theorem qo {bk:Bk} {m:Sz} (hb:BkG bk) (h: ∀ x,aL (RdS bk m) x=aL m x):FixS bk (RdS bk m):=by
 have hk:=(cO bk m hb.so.2.2.1).2
 refine ⟨fun x hx=>?_,fun s hs=>?_⟩
 ·obtain ⟨n,hn⟩:=Option.isSome_iff_exists.mp hx
  exact ((hk x n).mp hn).1
 ·rw [(tR h).2]
  cases e:ie (cv bk m s.name)with
  | some n=>exact (hk _ _).mpr ⟨⟨s,hs,rfl⟩,e⟩
  | none=>
   cases e2:aL (RdS bk m) s.name with
   | none=>rfl
   | some n=>
    have:=((hk _ _).mp e2).2
    rw [e]at this
    cases this
theorem oY {bk:Bk} {m m':Sz} (hb:BkG bk) (h:LeS m m'):LeS (RdS bk m) (RdS bk m'):=fun x n e=>by
 have hk:=(cO bk m hb.so.2.2.1).2
 have hk':=(cO bk m' hb.so.2.2.1).2
 obtain ⟨hs,hm⟩:=(hk x n).mp e
 obtain ⟨h1,h2⟩:=gK hm
 obtain ⟨fr,hf,hg,ho,hz⟩:=cands_mem.mp h1
 obtain ⟨a,b⟩:=vE h hg
 obtain ⟨n',h3,h4⟩:=ng (cands_mem.mpr ⟨fr,hf,a,ho,rfl⟩)
 exact ⟨n',(hk' x n').mpr ⟨hs,h3⟩,by lia⟩
noncomputable def jr (bk:Bk) (m:Sz):Nat:=bk.sorts.countP fun s=>(aL m s.name).isSome
noncomputable def gB:Nat->Nat
 | 0=>0
 | c+1=>1+3*gB c
theorem gP: ∀ {a b:Nat},a<=b->gB a<=gB b:=by
 intro a b h
 induction h with
 | refl=>exact Nat.le_refl _
 | step _ ih=>show gB a<=1+3*gB _;lia
def BdS (bk:Bk) (m:Sz):Prop:= ∀ x n,aL m x=some n->n<=gB (jr bk m)
theorem zc {bk:Bk} (hb:BkG bk) (m:Sz):jr bk m<=4:=Nat.le_trans List.countP_le_length hb.so.2.1
theorem qA {bk:Bk} {m:Sz} (hb:BkG bk) (h:BdS bk m) {x:Str} {n:Nat} (e:aL m x=some n):n<=40:=Nat.le_trans (h x n e) (Nat.le_trans (gP (zc hb m)) (by decide))
theorem vZ {bk:Bk} {m m':Sz} (h:LeS m m'):jr bk m<=jr bk m':=by
 unfold jr
 refine List.countP_mono_left fun s _ hs=>?_
 obtain ⟨n,hn⟩:=Option.isSome_iff_exists.mp hs
 obtain ⟨n',h',_⟩:=h _ _ hn
 rw [h'];rfl
theorem zb {bk:Bk} {m m':Sz} (h:LeS m m') {s:Srt} (hs:s∈bk.sorts) (h0:aL m s.name=none) (h1:(aL m' s.name).isSome=true):jr bk m<jr bk m':=by
 unfold jr
 have go: ∀ l:List Srt,s∈l->l.countP (fun s=>(aL m s.name).isSome) <l.countP (fun s=>(aL m' s.name).isSome):=by
  intro l
  induction l with
  | nil=>intro h;cases h
  | cons q r ih=>
   intro hm
   have hle:r.countP (fun s=>(aL m s.name).isSome)<=r.countP (fun s=>(aL m' s.name).isSome):=List.countP_mono_left fun s _ hs=>by
    obtain ⟨n,hn⟩:=Option.isSome_iff_exists.mp hs
    obtain ⟨n',h',_⟩:=h _ _ hn
    rw [h'];rfl
   rw [List.countP_cons,List.countP_cons]
   rcases List.mem_cons.mp hm with rfl | hm
   ·rw [h0,h1]
    simp only [Option.isSome_none,Bool.false_eq_true,if_false,if_true]
    lia
   ·have:=ih hm
    have:(if (aL m q.name).isSome=true then 1 else 0)<=(if (aL m' q.name).isSome=true then 1 else 0):=by
     by_cases c:(aL m q.name).isSome=true
     ·obtain ⟨n,hn⟩:=Option.isSome_iff_exists.mp c
      obtain ⟨n',h',_⟩:=h _ _ hn
      rw [if_pos c,if_pos (by rw [h'];rfl)]
      exact Nat.le_refl _
     ·rw [if_neg c];exact Nat.zero_le _
    lia
 exact go _ hs
theorem nA {bk:Bk} {m:Sz} (hb:BkG bk) (h:LeS m (RdS bk m)) (hbd:BdS bk m):BdS bk (RdS bk m):=fun x n e=>by
 cases e0:aL m x with
 | some k=>
  obtain ⟨n',h1,h2⟩:=h x k e0
  rw [e]at h1
  cases h1
  exact Nat.le_trans h2 (Nat.le_trans (hbd x k e0) (gP (vZ h)))
 | none=>
  obtain ⟨⟨s,hs,rfl⟩,hm⟩:=((cO bk m hb.so.2.2.1).2 x n).mp e
  obtain ⟨fr,hf,hg,ho,hz⟩:=cands_mem.mp (gK hm).1
  have hlt:=zb h hs e0 (by rw [e];rfl)
  refine Nat.le_trans ?_ (gP hlt)
  show n<=1+3*gB (jr bk m)
  have hp3:=(hb.ok fr hf).2.2
  have: ∀ l:List Srt,(l.all fun p=>(aL m p.name).isSome)=true->(l.map fun p=>(aL m p.name).getD 0).sum<=l.length*gB (jr bk m):=by
   intro l
   induction l with
   | nil=>intro _;exact Nat.zero_le _
   | cons p r ih=>
    intro hp
    rw [List.all_cons,Bool.and_eq_true]at hp
    obtain ⟨k,hk⟩:=Option.isSome_iff_exists.mp hp.1
    have i1:=ih hp.2
    have i2:=hbd _ _ hk
    rw [List.map_cons,List.sum_cons,hk,List.length_cons,Nat.succ_mul]
    show k+_<=_
    lia
  have hs:=this fr.parts hg
  have:fr.parts.length*gB (jr bk m)<=3*gB (jr bk m):=Nat.mul_le_mul_right _ hp3
  unfold szB at hz
  lia
noncomputable def muS (bk:Bk) (m:Sz):Nat:=(bk.sorts.map fun s=>(aL m s.name).getD 64).sum
theorem vx {bk:Bk} {m m':Sz} (hb:BkG bk) (h:LeS m m') (hk: ∀ x,(aL m x).isSome=true-> ∃ s∈bk.sorts,s.name=x) (hk': ∀ x,(aL m' x).isSome=true-> ∃ s∈bk.sorts,s.name=x) (h40: ∀ x n,aL m' x=some n->n<=40)
  (hne: ¬ ∀ x,aL m' x=aL m x):muS bk m'<muS bk m:=by
 have pt: ∀ s:Srt,(aL m' s.name).getD 64<=(aL m s.name).getD 64/\((aL m' s.name).getD 64=(aL m s.name).getD 64->aL m' s.name=aL m s.name):=by
  intro s
  cases e:aL m s.name with
  | some n=>
   obtain ⟨n',h1,h2⟩:=h _ _ e
   rw [h1]
   refine ⟨h2,fun (z:n'=n)=>by rw [z]⟩
  | none=>
   cases e':aL m' s.name with
   | none=>exact ⟨Nat.le_refl _,fun _=>rfl⟩
   | some n=>
    have:=h40 _ _ e'
    exact ⟨by show n<=64;lia,fun (z:n=64)=>by lia⟩
 have go: ∀ l:List Srt,(l.map fun s=>(aL m' s.name).getD 64).sum<=(l.map fun s=>(aL m s.name).getD 64).sum/\((l.map fun s=>(aL m' s.name).getD 64).sum=(l.map fun s=>(aL m s.name).getD 64).sum-> ∀ s∈l,aL m' s.name=aL m s.name):=by
  intro l
  induction l with
  | nil=>exact ⟨Nat.le_refl _,fun _ s h=>by cases h⟩
  | cons q r ih=>
   obtain ⟨i1,i2⟩:=ih
   obtain ⟨p1,p2⟩:=pt q
   rw [List.map_cons,List.map_cons,List.sum_cons,List.sum_cons]
   refine ⟨by lia,fun z s hs=>?_⟩
   rcases List.mem_cons.mp hs with rfl | hs
   ·exact p2 (by lia)
   ·exact i2 (by lia) s hs
 obtain ⟨g1,g2⟩:=go bk.sorts
 unfold muS
 rcases Nat.lt_or_ge (bk.sorts.map fun s=>(aL m' s.name).getD 64).sum (bk.sorts.map fun s=>(aL m s.name).getD 64).sum with z | z
 ·exact z
 ·exfalso
  refine hne fun x=>?_
  have g:=g2 (by lia)
  cases e':aL m' x with
  | some n=>
   obtain ⟨s,hs,rfl⟩:=hk' x (by rw [e'];rfl)
   rw [<- e',g s hs]
  | none=>
   cases e:aL m x with
   | none=>rfl
   | some n=>
    obtain ⟨s,hs,rfl⟩:=hk x (by rw [e];rfl)
    rw [<- e,<- g s hs,e']
theorem zW {bk:Bk} (hb:BkG bk) (m:Sz) (h40: ∀ x n,aL m x=some n->n<=40):muS bk m<=256:=by
 unfold muS
 have go: ∀ l:List Srt,(l.map fun s=>(aL m s.name).getD 64).sum<=64*l.length:=by
  intro l
  induction l with
  | nil=>exact Nat.le_refl _
  | cons q r ih=>
   have:(aL m q.name).getD 64<=64:=by
    cases e:aL m q.name with
    | none=>exact Nat.le_refl _
    | some n=>have:=h40 _ _ e;show n<=64;lia
   rw [List.map_cons,List.sum_cons,List.length_cons]
   lia
 have:=go bk.sorts
 have:=hb.so.2.1
 lia
theorem yZ {bk:Bk} (hb:BkG bk): ∃ m,FixS bk m/\(m.map (·.1)).Nodup/\ ∀ x n,aL m x=some n->n<=40:=by
 have go: ∀ k m,muS bk m<=k->(m.map (·.1)).Nodup->(∀ x,(aL m x).isSome=true-> ∃ s∈bk.sorts,s.name=x)->LeS m (RdS bk m)->BdS bk m-> ∃ m,FixS bk m/\(m.map (·.1)).Nodup/\ ∀ x n,aL m x=some n->n<=40:=by
  intro k
  induction k with
  | zero=>
   intro m hm nd hk hle hbd
   have hb2:=nA hb hle hbd
   by_cases c: ∀ x,aL (RdS bk m) x=aL m x
   ·exact ⟨_,qo hb c,(cO bk m hb.so.2.2.1).1,fun x n e=>qA hb hb2 e⟩
   ·have:=vx hb hle hk (fun x hx=>by
     obtain ⟨n,hn⟩:=Option.isSome_iff_exists.mp hx
     exact (((cO bk m hb.so.2.2.1).2 x n).mp hn).1) (fun x n e=>qA hb hb2 e) c
    lia
  | succ k ih=>
   intro m hm nd hk hle hbd
   have hb2:=nA hb hle hbd
   have hk2: ∀ x,(aL (RdS bk m) x).isSome=true-> ∃ s∈bk.sorts,s.name=x:=fun x hx=>by
    obtain ⟨n,hn⟩:=Option.isSome_iff_exists.mp hx
    exact (((cO bk m hb.so.2.2.1).2 x n).mp hn).1
   by_cases c: ∀ x,aL (RdS bk m) x=aL m x
   ·exact ⟨_,qo hb c,(cO bk m hb.so.2.2.1).1,fun x n e=>qA hb hb2 e⟩
   ·have:=vx hb hle hk hk2 (fun x n e=>qA hb hb2 e) c
    exact ih _ (by lia) (cO bk m hb.so.2.2.1).1 hk2 (oY hb hle) hb2
 exact go _ [] (Nat.le_refl _) List.nodup_nil (fun x h=>by cases h) (fun x n h=>by cases h) (fun x n h=>by cases h)
def nP:Sp:=fun vs H Q _=> ∃ v fr d m,vs=[v,.ref d]/\RepF H fr v/\fr.parts.length<=3/\H d=some (.dK (kvS m))/\(∀ x n,aL m x=some n->n<=40)/\aM m fr=true/\ ∀ H',Same H H'->Q (.int ((szB m fr:Nat):Int)) H'
def jM:Sp:=fun vs H Q _=> ∃ bv bk d m,vs=[bv,.ref d]/\RepB H bk bv/\BkG bk/\H d=some (.dK (kvS m))/\ ∀ p zs H',H p=none->Same H H'->H' p=some (.lst zs)->Paired (RepF H') (bk.forms.filter (aM m)) zs->Q (.ref p) H'
theorem ul (ms:List Nat):iu (ms.map fun m=>((m:Nat):Int))=((ms.sum:Nat):Int):=by
 induction ms with
 | nil=>rfl
 | cons m r ih=>
  show (m:Int) +iu (r.map fun m=>((m:Nat):Int))=(((m::r).sum:Nat):Int)
  rw [ih,List.sum_cons]
  lia
theorem ux:aB ["form","sizes"] ["form","sizes"] (ag ju):=fsc
theorem sM (F:Fun K "least_size_by" "least_size_by" ju f fd) (hsum:mg "sum"=none)
  (GP:FnOk P w K mg base CX0 1 f3 fd3 ["form"] dR) (bP:Binds K fd3 ["form"] []) (kP:W.keepIn K (.ref f3)=true) (mP:mg "parts_of"=some (.ref f3)):FnOk P w K mg base CX0 2 f fd ["form","sizes"] nP:=by
 refine F.ok ux (fun vs H Q E h=>?_) (fun cdv A outer s H vs Q E hr h=>?_)
 ·obtain ⟨v,fr,d,m,rfl,_⟩:=h
  rfl
 obtain ⟨v,fr,d,m,rfl,hF,hp3,hd,h40,hg,q⟩:=h
 have hu:=cF hr
 refine ⟨_,ai (ax (aE bf ad (aF (oW rfl) rfl hsum (by decide +kernel) (aa (cy (sc0:=ag ju) (N0:=["form","sizes"]) (ys:=["sizes"]) (fr:=[1]) rfl (cf (ak GP hr rfl mP kP bP .nil av (aa (pv 0) ac))) rfl rfl
   cok (fun C s H ex=>cx hu (pv 1) (pv 0) (fun _ _=>rfl))) ac)))),?_⟩
 refine ⟨_,rfl,v,fr,rfl,hF,fun pa hpa=>⟨pa,rfl,⟨_,SqT.of hpa⟩,?_⟩⟩
 have hpl:(be fr.parts).length=fr.parts.length:=List.length_map _
 refine cs (by lia) (dw fr.parts) (dz hpa) (dy hpa) (eW hpa) (fun _ p v=>v=.int (((aL m p.name).getD 0:Nat):Int)) (fun _ h=>h) ?_ ?_
 ·rintro p v H' k hp rfl s' hk
  obtain ⟨n,hn,_⟩:=gO hg hp
  have hv:aW (kvS m) (.inr p.name)=some (.int ((n:Nat):Int)):=by rw [ip,hn];rfl
  refine ⟨_,rfl,_,rfl,d,.int ((n:Nat):Int),rfl,(by rw [<- hv];exact DGet.k (k:=.inr p.name) (s' _ _ hd)),hk _ H' (Same.refl H') (by rw [hn];rfl)⟩
 intro p zs H1 hp s1 g1 hz
 have ez:=cj hz
 have ez:zs=((fr.parts.map fun p=>(aL m p.name).getD 0).map fun m=>((m:Nat):Int)).map V.int:=by rw [ez,List.map_map,List.map_map];rfl
 subst ez
 refine ⟨p,_,rfl,SqL.of g1,by rw [List.length_map,List.length_map];lia,fun n hn=>?_,?_⟩
 ·obtain ⟨k,hk,rfl⟩:=List.mem_map.mp hn
  obtain ⟨sr,hsr,rfl⟩:=List.mem_map.mp hk
  obtain ⟨n,hn,_⟩:=gO hg hsr
  have:=h40 _ _ hn
  rw [hn]
  show (0:Int)<=(n:Int)/\(n:Int)<=1000000
  lia
 rw [ul]
 refine ⟨_,_,rfl,rfl,?_⟩
 have:=q H1 s1
 unfold szB at this
 rw [show ((V.int (1+ (((fr.parts.map fun p=>(aL m p.name).getD 0).sum:Nat):Int))))=V.int ((1+ (fr.parts.map fun p=>(aL m p.name).getD 0).sum:Nat):Int)from congrArg V.int (show (1:Int) + ((_:Nat):Int)=((1+_:Nat):Int) by lia)]
 exact this
theorem uz:aB ["book","sizes"] ["book","sizes"] (ag gH):=fsc
theorem sY (F:Fun K "grown_forms" "grown_forms" gH f fd) (G:Gb mg)
  (GF:FnOk P w K mg base CX0 1 f2 fd2 ["book"] iU) (bF:Binds K fd2 ["book"] []) (kF:W.keepIn K (.ref f2)=true) (mF:mg "forms_of"=some (.ref f2))
  (GP:FnOk P w K mg base CX0 1 f3 fd3 ["form"] dR) (bP:Binds K fd3 ["form"] []) (kP:W.keepIn K (.ref f3)=true) (mP:mg "parts_of"=some (.ref f3)):FnOk P w K mg base CX0 2 f fd ["book","sizes"] jM:=by
 refine F.ok uz (fun vs H Q E h=>?_) (fun cdv A outer s H vs Q E hr h=>?_)
 ·obtain ⟨bv,bk,d,m,rfl,_⟩:=h
  rfl
 obtain ⟨bv,bk,d,m,rfl,hB,hok,hd,q⟩:=h
 have hu:=cF hr
 have hfew:=hok.few
 refine ⟨_,ai (ax (om (sc0:=ag gH) (N0:=["book","sizes"]) (ys:=["sizes"]) (fr:=[1]) rfl (cf (ak GF hr rfl mF kF bF .nil av (aa (pv 0) ac))) rfl rfl
   cok
   (fun C s H ex=>dE (aF (r:=sw K) (eC rfl) rfl G.all (by decide +kernel) (aa (cy (sc0:=zI (ag gH) (zZ (zL (bV gH)))) (N0:=["form","sizes"]) (wi:=yW K (qN dR [] E0 (ir (jF 0) rX))) (ys:=["sizes"]) (fr:=[1]) rfl (cf (ak GP hr rfl mP kP bP .nil av (aa (pv 0) ac))) rfl rfl
    cok (fun C s H ex=>jX (jY hu (pv 0) (pv 1)))) ac)))
   (fun C s H ex=>pv 0))),?_⟩
 refine ⟨_,rfl,bv,bk,rfl,hB,fun fa fv hfa hF=>⟨fa,rfl,⟨_,SqT.of hfa⟩,?_⟩⟩
 have lF:=hF.len
 refine fG (by lia) hF (dz hfa) (dy hfa) (eW hfa) (aM m) RepF (fun t h=>h.mono t) ?_ ?_ (fun p zs H' hp s' gp hz=>q p zs H' hp s' gp hz)
 ·intro fr v H1 k hfr hR s1 hk
  have hp3:=(hok.ok fr hfr).2.2
  refine ⟨_,rfl,v,fr,rfl,hR.mono (au s1),fun pa hpa=>⟨pa,rfl,⟨_,SqT.of hpa⟩,?_⟩⟩
  have hpl:(be fr.parts).length=fr.parts.length:=List.length_map _
  refine cs (by lia) (dw fr.parts) (dz hpa) (dy hpa) (eW hpa) (fun _ p v=>v=.bl (aL m p.name).isSome) (fun _ h=>h) ?_ ?_
  ·rintro p v H' k' hp rfl s' hk'
   refine ⟨_,rfl,_,rfl,d,_,rfl,DGet.k (k:=.inr p.name) (s' _ _ (s1 _ _ hd)),hk' _ H' (Same.refl H') ?_⟩
   rw [ip]
   cases aL m p.name <;> rfl
  intro p zs H2 hp s2 g2 hz
  have ez:=cj hz
  have ez:zs=(fr.parts.map fun p=>(aL m p.name).isSome).map V.bl:=by rw [ez,List.map_map];rfl
  subst ez
  refine ⟨p,_,rfl,SqL.of g2,_,rfl,?_⟩
  have:=hk H2 s2
  unfold aM at this
  rw [List.all_map]
  exact this
 ·intro fr v H1 k hfr hR _ s1 hk
  exact ⟨_,rfl,hk v H1 (Same.refl H1) (hR.mono (au s1))⟩
theorem xh {m:Sz} {x:Str} {n:Nat} (h:aL m x=none):cz (kvS m) (.inr x) (.int (n:Int))=kvS (m++[(x,n)]):=by
 unfold cz
 rw [dS,ip,h]
 rw [if_neg (by simp)]
 unfold kvS
 rw [List.map_append]
 rfl
noncomputable def RtS (bk:Bk) (m:Sz) (ss:List Srt):Sz:=ss.filterMap fun s=>(ie (cv bk m s.name)).map fun n=>(s.name,n)
theorem wt (bk:Bk) (m:Sz) (ss:List Srt) (s:Srt):RtS bk m (ss++[s])=RtS bk m ss++(match ie (cv bk m s.name)with | some n=>[(s.name,n)] | none=>[]):=by
 unfold RtS
 rw [List.filterMap_append]
 congr 1
 cases h:ie (cv bk m s.name)with
 | none=>rw [List.filterMap_cons_none (by rw [h];rfl)];rfl
 | some n=>rw [List.filterMap_cons_some (b:=(s.name,n)) (by rw [h];rfl)];rfl
theorem xC {bk:Bk} {m:Sz} {ss:List Srt} {x:Str} (h:(aL (RtS bk m ss) x).isSome=true):x∈ss.map Srt.name:=by
 have h:=getS_key.mp h
 obtain ⟨q,hq,rfl⟩:=List.mem_map.mp h
 obtain ⟨t,ht,e⟩:=List.mem_filterMap.mp hq
 cases hm:ie (cv bk m t.name)with
 | none=>rw [hm]at e;cases e
 | some k=>rw [hm]at e;cases e;exact List.mem_map.mpr ⟨t,ht,rfl⟩
theorem tV (bk:Bk) (m:Sz) (x:Str):((bk.forms.filter (aM m)).filter fun fr=>decide (fr.own.name=x)).map (szB m)=cv bk m x:=by
 unfold cv
 rw [List.filter_filter]
 congr 1
 refine List.filter_congr fun fr _=>?_
 rw [Bool.and_comm]
def jK:Sp:=fun vs H Q _=> ∃ bv bk d m,vs=[bv,.ref d]/\RepB H bk bv/\BkG bk/\H d=some (.dK (kvS m))/\(∀ x n,aL m x=some n->n<=40)/\ ∀ p H',H p=none->Same H H'->H' p=some (.dK (kvS (RdS bk m)))->Q (.ref p) H'
def nR:Sp:=fun vs H Q _=> ∃ bv bk,vs=[bv]/\RepB H bk bv/\BkG bk/\ ∀ d m H',H d=none->Same H H'->H' d=some (.dK (kvS m))->FixS bk m->(m.map (·.1)).Nodup->(∀ x n,aL m x=some n->n<=40)->Q (.ref d) H'
def jI:Sp:=fun vs H Q _=> ∃ bv bk,vs=[bv]/\RepB H bk bv/\BkG bk/\ ∀ p zs m H',FixS bk m->H p=none->Same H H'->H' p=some (.lst zs)->Paired (RepF H') (bk.forms.filter (aM m)) zs->Q (.ref p) H'
abbrev At:List Str:=["book","before","sizes","name","downs","ups","found"]
theorem scOne:aB At ["book","before"] (ag gE):=fsc
theorem ox (F:Fun K "sizes_one_round_on" "sizes_one_round_on" gE f fd) (G:Gb mg)
  (GS:FnOk P w K mg base CX0 1 f2 fd2 ["book"] la) (bS:Binds K fd2 ["book"] []) (kS:W.keepIn K (.ref f2)=true) (mS:mg "sorts_of"=some (.ref f2))
  (GG:FnOk P w K mg base CX0 2 f3 fd3 ["book","sizes"] jM) (bG:Binds K fd3 ["book","sizes"] []) (kG:W.keepIn K (.ref f3)=true) (mG:mg "grown_forms"=some (.ref f3))
  (GO:FnOk P w K mg base CX0 1 f4 fd4 ["form"] dI) (bO:Binds K fd4 ["form"] []) (kO:W.keepIn K (.ref f4)=true) (mO:mg "sort_of_form"=some (.ref f4))
  (GB:FnOk P w K mg base CX0 2 f5 fd5 ["form","sizes"] nP) (bB:Binds K fd5 ["form","sizes"] []) (kB:W.keepIn K (.ref f5)=true) (mB:mg "least_size_by"=some (.ref f5)):
  FnOk P w K mg base CX0 3 f fd ["book","before"] jK:=by
 refine F.ok scOne (fun vs H Q E h=>?_) (fun cdv A outer s H vs Q E hr h=>?_)
 ·obtain ⟨bv,bk,d,m,rfl,_⟩:=h
  rfl
 obtain ⟨bv,bk,d,m,rfl,hB,hok,hd,h40,q⟩:=h
 have hu:=cF hr
 have hr1:=hr.mono (show 1<=2 by decide)
 refine ⟨_,ae (aq (i:=2) scOne.nd rfl (Or.inl rfl) ee)
  (ae (bg PassesOwn.never rfl (cf (ak GS hr1 rfl mS kS bS .nil av (aa (pv 0) ac)))
    (eU rfl (aT (aH (i:=3) scOne.nd rfl (Or.inr rfl)) (aT (aH (i:=4) scOne.nd rfl (Or.inl rfl)) (aT (aH (i:=5) scOne.nd rfl (Or.inl rfl)) dv))))
   (ae (fZ (i:=6) (sc0:=ag gE) (N0:=At) (ys:=["before","name"]) (fr:=[1,3]) rfl scOne.nd rfl (Or.inl rfl) (bu (ak GG hr rfl mG kG bG .nil av (aa (pv 0) (aa (pv 1) ac)))) rfl rfl
     cok
     (fun C s H ex=>aw bq (ak GO hr1 rfl mO kO bO .nil av (aa (pv 0) ac)) (pv 2) (ay _))
     (fun C s H ex=>ak GB hr rfl mB kB bB .nil av (aa (pv 0) (aa (pv 1) ac))))
   (ai (aY (jV (pv 6) (fun _=>rfl)) (ai (dL hu (pv 2) (pv 3) (aF (tW rfl) rfl G.min (by decide +kernel) (aa (pv 6) ac)) rfl)) aK))))
  (ai (ax (pv 2)))),?_⟩
 refine fun td htd=>?_
 have s0:=af htd (.dK [])
 have g0:(upd H td (.dK [])) td=some (.dK []):=ab
 generalize upd H td (.dK [])=H0 at s0 g0 ⊢
 refine ⟨_,rfl,bv,bk,rfl,hB.mono (au s0),fun sa xs hsa hS=>⟨sa,rfl,⟨_,SqT.of hsa⟩,?_⟩⟩
 have lS:bk.sorts.length=xs.length:=hS.len
 have h4:=hok.so.2.1
 have hfew:=hok.few
 have hB0:=hB.mono (au s0)
 refine eR (xs:=xs) (fun i Z H'=>i<=xs.length/\ ∃ o3 o4 o5 o6,Z=[some bv,some (.ref d),some (.ref td),o3,o4,o5,o6]/\Same H H'/\TK H0 H'/\H' td=some (.dK (kvS (RtS bk m (bk.sorts.take i)))))
  ⟨Nat.zero_le _,none,none,none,none,rfl,s0,TK.refl _,g0⟩ (fun i Z H' _ h=>by obtain ⟨_,_,_,_,_,_,_,t,_⟩:=h;exact SqT.of (t _ _ hsa)) ?_ ?_
 ·rintro i x Z H1 hx ⟨hi,o3,o4,o5,o6,rfl,S1,T1,g1⟩
  have hil:i<xs.length:=(List.getElem?_eq_some_iff.mp hx).1
  obtain ⟨sr,hsr,b,dc,uc,rfl,hb,hdc,huc⟩:=aJ hS hx
  have hsm:=List.mem_of_getElem? hsr
  refine ⟨b,_,rfl,SqT.of (T1 _ _ hb),rfl,_,_,rfl,_,_,rfl,_,_,rfl,rfl,?_⟩
  refine ⟨_,rfl,_,rfl,bv,bk,d,m,rfl,hB0.mono T1,hok,S1 _ _ hd,fun p zs H2 hp s2 g2 hz=>⟨p,rfl,⟨_,SqL.of g2⟩,?_⟩⟩
  have S2:=S1.trans s2
  have lz:=Paired.length hz
  have lfl:(bk.forms.filter (aM m)).length<=10:=Nat.le_trans (List.length_filter_le _ _) hfew
  refine fG (by lia) hz (cZ g2) (cY g2) (dG g2) (fun fr=>decide (fr.own.name=sr.name)) (fun _ fr v=>v=.int ((szB m fr:Nat):Int)) (fun _ h=>h) ?_ ?_ ?_
  ·intro fr v H3 k hfr hR s3 hk
   refine ⟨_,rfl,v,fr,rfl,hR.mono (au s3),_,rfl,rfl,_,rfl,?_⟩
   rw [show decide (V.str fr.own.name=V.str sr.name)=decide (fr.own.name=sr.name)from decide_eq_decide.mpr ⟨fun e=>V.str.inj e,fun e=>by rw [e]⟩]
   exact hk H3 (Same.refl H3)
  ·intro fr v H3 k hfr hR hc s3 hk
   obtain ⟨hf1,hf2⟩:=List.mem_filter.mp hfr
   exact ⟨_,rfl,_,rfl,v,fr,d,m,rfl,hR.mono (au s3),(hok.ok fr hf1).2.2,s3 _ _ (S2 _ _ hd),h40,hf2,fun H4 s4=>hk _ H4 s4 rfl⟩
  intro p3 ws H3 hp3 s3 g3 hw
  have ew:=cj hw
  have ew:ws=((cv bk m sr.name).map fun n=>((n:Nat):Int)).map V.int:=by rw [ew,<- tV,List.map_map,List.map_map];rfl
  subst ew
  have S3:=S2.trans s3
  have T3:TK H0 H3:=T1.trans (au (s2.trans s3))
  have g13:=s3 _ _ (s2 _ _ g1)
  refine ⟨_,rfl,_,.inl ⟨_,SqL.of g3,rfl⟩,?_⟩
  have enx:RtS bk m (bk.sorts.take (i+1))=RtS bk m (bk.sorts.take i)++(match ie (cv bk m sr.name)with | some n=>[(sr.name,n)] | none=>[]):=by
   rw [List.take_add_one,hsr]
   exact wt ..
  cases hc:cv bk m sr.name with
  | nil=>
   refine bh ?_
   refine ⟨hil,_,_,_,_,rfl,S3,T3,?_⟩
   rw [enx,hc]
   show H3 td=some (.dK (kvS (RtS bk m (bk.sorts.take i)++[])))
   rw [List.append_nil]
   exact g13
  | cons c0 cr=>
   refine bt ?_
   rw [hc]at g3
   refine ⟨_,rfl,p3,_,rfl,SqL.of g3,by rw [List.length_map,List.length_cons];lia,fun M hM hmin=>?_⟩
   obtain ⟨n0,hn0,rfl⟩:=List.mem_map.mp hM
   obtain ⟨n,hn,hle⟩:=ng hn0
   obtain ⟨hn1,hn2⟩:=gK hn
   have e0:n=n0:=by
    have:=hmin ((n:Nat):Int) (List.mem_map.mpr ⟨n,hn1,rfl⟩)
    lia
   subst e0
   have hnone:aL (RtS bk m (bk.sorts.take i)) sr.name=none:=by
    cases hg:aL (RtS bk m (bk.sorts.take i)) sr.name with
    | none=>rfl
    | some k=>
     exfalso
     have hmem:=xC (show (aL (RtS bk m (bk.sorts.take i)) sr.name).isSome=true by rw [hg];rfl)
     rw [List.map_take]at hmem
     obtain ⟨j,hj⟩:=List.getElem?_of_mem hmem
     have hjl:=(List.getElem?_eq_some_iff.mp hj).1
     rw [List.length_take]at hjl
     rw [List.getElem?_take_of_lt (by lia)]at hj
     have h2:(bk.sorts.map Srt.name)[i]? =some sr.name:=by rw [List.getElem?_map,hsr];rfl
     have:=fj hok.so.2.2.1 hj h2
     lia
   have hlk:(kvS (RtS bk m (bk.sorts.take i))).length<=1000:=by
    unfold kvS RtS
    rw [List.length_map]
    refine Nat.le_trans (List.length_filterMap_le _ _) ?_
    rw [List.length_take]
    lia
   refine ⟨_,rfl,_,rfl,td,_,rfl,DPut.k (k:=.inr sr.name) g13 (aG hlk),?_⟩
   rw [xh hnone]
   refine ⟨hil,_,_,_,_,rfl,fun b o h=>?_,fun b zs e=>?_,?_⟩
   ·rw [am (aj h htd)];exact S3 _ _ h
   ·rw [am (fun z=>by rw [z,g0]at e;cases e)];exact T3 _ _ e
   ·rw [ab,enx,hc]
    have hn':ie (c0::cr)=some n:=hn
    rw [hn']
 ·rintro Z H1 ⟨_,o3,o4,o5,o6,rfl,S1,T1,g1⟩
  rw [<- lS,List.take_length]at g1
  exact ⟨_,rfl,q td H1 htd S1 g1⟩
abbrev xE:List Str:=["book","sizes","before"]
theorem scLeastS:aB xE ["book"] (ag fY):=fsc
theorem sU (F:Fun K "least_sizes" "least_sizes" fY f fd)
  (GO:FnOk P w K mg base CX0 3 f2 fd2 ["book","before"] jK) (bO:Binds K fd2 ["book","before"] []) (kO:W.keepIn K (.ref f2)=true) (mO:mg "sizes_one_round_on"=some (.ref f2)):
  FnOk P w K mg base CX0 4 f fd ["book"] nR:=by
 refine F.ok scLeastS (fun vs H Q E h=>?_) (fun cdv A outer s H vs Q E hr h=>?_)
 ·obtain ⟨bv,bk,rfl,_⟩:=h
  rfl
 obtain ⟨bv,bk,rfl,hB,hok,q⟩:=h
 have hu:=cF hr
 refine ⟨_,ae (aq (i:=1) scLeastS.nd rfl (Or.inl rfl) ee)
  (ae (aq (i:=2) scLeastS.nd rfl (Or.inl rfl) uQ)
  (ae (jW PassesOwn.never (aw (yA (Nat.lt_of_le_of_lt (Nat.add_le_add_left (by decide:1<=16) _) hu)) (pv 1) (pv 2) (ay _))
   (ae (aq (i:=2) scLeastS.nd rfl (Or.inl rfl) (pv 1))
   (ai (aq (i:=1) scLeastS.nd rfl (Or.inl rfl) (ak GO hr rfl mO kO bO .nil av (aa (pv 0) (aa (pv 2) ac)))))))
  (ai (ax (pv 1))))),?_⟩
 refine fun td htd=>?_
 have s0:=af htd (.dK [])
 have g0:(upd H td (.dK [])) td=some (.dK (kvS [])):=ab
 generalize upd H td (.dK [])=H0 at s0 g0 ⊢
 have hkR: ∀ m x,(aL (RdS bk m) x).isSome=true-> ∃ s∈bk.sorts,s.name=x:=fun m x hx=>by
  obtain ⟨n,hn⟩:=Option.isSome_iff_exists.mp hx
  exact (((cO bk m hok.so.2.2.1).2 x n).mp hn).1
 refine ⟨fun k Z H'=>(∃ sp,Z=[some bv,some (.ref sp),some .non]/\H sp=none/\Same H H'/\H' sp=some (.dK (kvS []))/\k=300)\/
   (∃ sp bp m,Z=[some bv,some (.ref sp),some (.ref bp)]/\H sp=none/\Same H H'/\H' sp=some (.dK (kvS (RdS bk m)))/\H' bp=some (.dK (kvS m))/\(m.map (·.1)).Nodup/\(∀ x,(aL m x).isSome=true-> ∃ s∈bk.sorts,s.name=x)/\LeS m (RdS bk m)/\BdS bk m/\k=muS bk m),
  ⟨300,.inl ⟨td,rfl,htd,s0,g0,rfl⟩⟩,?_⟩
 rintro k Z H1 (⟨sp,rfl,hsp,S1,g1,rfl⟩ | ⟨sp,bp,m,rfl,hsp,S1,g1,gb,nd,hk,hle,hbd,rfl⟩)
 ·refine ⟨_,rfl,_,rfl,sp,_,rfl,g1,j7 _,.inl ⟨rfl,_,rfl,?_⟩⟩
  refine bt ⟨fun Z' H'=> ∃ k',k'<300/\((∃ sp,Z'=[some bv,some (.ref sp),some .non]/\H sp=none/\Same H H'/\H' sp=some (.dK (kvS []))/\k'=300)\/
   (∃ sp bp m,Z'=[some bv,some (.ref sp),some (.ref bp)]/\H sp=none/\Same H H'/\H' sp=some (.dK (kvS (RdS bk m)))/\H' bp=some (.dK (kvS m))/\(m.map (·.1)).Nodup/\(∀ x,(aL m x).isSome=true-> ∃ s∈bk.sorts,s.name=x)/\LeS m (RdS bk m)/\BdS bk m/\k'=muS bk m)),fun _ _ h=>h,?_⟩
  refine ⟨_,rfl,?_⟩
  refine ⟨_,rfl,_,rfl,bv,bk,sp,[],rfl,hB.mono (au S1),hok,g1,(fun x n h=>by cases h),fun p H2 hp s2 g2=>?_⟩
  exact ⟨muS bk [],Nat.lt_of_le_of_lt (zW hok [] (fun x n h=>by cases h)) (by decide),.inr ⟨p,sp,[],rfl,S1.free hp,S1.trans s2,g2,s2 _ _ g1,List.nodup_nil,fun x h=>(by cases h),fun x n h=>(by cases h),fun x n h=>(by cases h),rfl⟩⟩
 ·have ndR:=(cO bk m hok.so.2.2.1).1
  have hb2:=nA hok hle hbd
  refine ⟨_,rfl,_,rfl,sp,_,rfl,g1,j7 _,.inr ⟨bp,_,rfl,gb,j7 _,_,rfl,?_⟩⟩
  by_cases c: ∀ x,aL (RdS bk m) x=aL m x
  ·rw [(rG ndR nd).mpr c]
   refine bh ?_
   exact ⟨_,rfl,q sp (RdS bk m) H1 hsp S1 g1 (qo hok c) ndR fun x n e=>qA hok hb2 e⟩
  ·have e:eqD (kvS (RdS bk m)) (kvS m)=false:=by
    cases h:eqD (kvS (RdS bk m)) (kvS m)with
    | false=>rfl
    | true=>exact absurd ((rG ndR nd).mp h) c
   rw [e]
   refine bt ⟨fun Z' H'=> ∃ k',k'<muS bk m/\((∃ sp,Z'=[some bv,some (.ref sp),some .non]/\H sp=none/\Same H H'/\H' sp=some (.dK (kvS []))/\k'=300)\/
    (∃ sp bp m,Z'=[some bv,some (.ref sp),some (.ref bp)]/\H sp=none/\Same H H'/\H' sp=some (.dK (kvS (RdS bk m)))/\H' bp=some (.dK (kvS m))/\(m.map (·.1)).Nodup/\(∀ x,(aL m x).isSome=true-> ∃ s∈bk.sorts,s.name=x)/\LeS m (RdS bk m)/\BdS bk m/\k'=muS bk m)),fun _ _ h=>h,?_⟩
   refine ⟨_,rfl,?_⟩
   refine ⟨_,rfl,_,rfl,bv,bk,sp,RdS bk m,rfl,hB.mono (au S1),hok,g1,(fun x n e=>qA hok hb2 e),fun p H2 hp s2 g2=>?_⟩
   exact ⟨muS bk (RdS bk m),vx hok hle hk (hkR m) (fun x n e=>qA hok hb2 e) c,.inr ⟨p,sp,RdS bk m,rfl,S1.free hp,S1.trans s2,g2,s2 _ _ g1,ndR,hkR m,oY hok hle,hb2,rfl⟩⟩
theorem pH:aB ["book"] ["book"] (ag iY):=fsc
theorem ow (F:Fun K "forms_that_live" "forms_that_live" iY f fd)
  (GG:FnOk P w K mg base CX0 2 f3 fd3 ["book","sizes"] jM) (bG:Binds K fd3 ["book","sizes"] []) (kG:W.keepIn K (.ref f3)=true) (mG:mg "grown_forms"=some (.ref f3))
  (GO:FnOk P w K mg base CX0 4 f2 fd2 ["book"] nR) (bO:Binds K fd2 ["book"] []) (kO:W.keepIn K (.ref f2)=true) (mO:mg "least_sizes"=some (.ref f2)):
  FnOk P w K mg base CX0 5 f fd ["book"] jI:=by
 refine F.ok pH (fun vs H Q E h=>?_) (fun cdv A outer s H vs Q E hr h=>?_)
 ·obtain ⟨bv,bk,rfl,_⟩:=h
  rfl
 obtain ⟨bv,bk,rfl,hB,hok,q⟩:=h
 refine ⟨_,ai (ax (ak GG (hr.mono (by decide)) rfl mG kG bG .nil av (aa (pv 0) (aa (ak GO hr rfl mO kO bO .nil av (aa (pv 0) ac)) ac)))),?_⟩
 refine ⟨_,rfl,_,rfl,bv,bk,rfl,hB,hok,fun d m H1 hd s1 g1 hf nd h40=>?_⟩
 exact ⟨bv,bk,d,m,rfl,hB.mono (au s1),hok,g1,fun p zs H2 hp s2 g2 hz=>q p zs m H2 hf (s1.free hp) (s1.trans s2) g2 hz⟩
theorem lL {J:It} {xs:List V} {fr:List Nat} {te:TE} {Z:St} {H1:Hp} {Q:VK} (hn:xs.length<=1000)
  (hgo: ∀ i H,Same H1 H->i<xs.length->J.go i H) (hst: ∀ H,Same H1 H->J.stop xs.length H) (hy: ∀ i H v H',Same H1 H->J.yld i H v H'->H'=H/\xs[i]? =some v)
  (h:V->V) (hte: ∀ v H (k:VK),v∈xs->Same H1 H->k (h v) H->te (some v::cS fr Z) H k)
  (hd: ∀ p H',H1 p=none->Same H1 H'->H' p=some (.lst (xs.map h))->Q (.ref p) H'):iP fr te Z J H1 Q:=by
 have hP:Paired (fun a v=>v=a) xs xs:=by
  clear hn hgo hst hy hte hd
  induction xs with
  | nil=>exact .nil
  | cons x r ih=>exact .cons rfl ih
 refine cs hn hP hgo hst hy (fun _ (a:V) v=>v=h a) (fun _ h=>h) (fun a v H k ha e s hk=>?_) fun p zs H' hp s gp hP=>?_
 ·subst e
  exact hte _ H k ha s (hk _ _ (Same.refl _) rfl)
 have:zs=xs.map h:=cj hP
 rw [this]at gp
 exact hd p H' hp s gp
def Lst (kvs:List (Key×V)) (s:Srt) (n:Nat):Prop:=aW kvs (.inr s.name)=some (.int (n:Int))
noncomputable def cT:List Nat->Nat
 | []=>0
 | n::r=>n+cT r
noncomputable def bm (kvs:List (Key×V)) (s:Srt):Bool:=(aW kvs (.inr s.name)).isSome
noncomputable def cnt (bk:Bk) (kvs:List (Key×V)):Nat:=bk.sorts.countP (bm kvs)
theorem rM (bk:Bk) (kvs:List (Key×V)):cnt bk kvs<=bk.sorts.length:=List.countP_le_length
theorem jd {α:Type} {p q:α->Bool}: ∀ {l:List α} {x:α},(∀ y,p y=true->q y=true)->x∈l->p x=false->q x=true->l.countP p+1<=l.countP q
 | y::r,x,hpq,hx,h1,h2=>by
  rw [List.countP_cons,List.countP_cons]
  rcases List.mem_cons.mp hx with rfl | hx
  ·rw [h1,h2]
   have:r.countP p<=r.countP q:=List.countP_mono_left fun z _=>hpq z
   simp only [Bool.false_eq_true,if_false,if_true]
   lia
  ·have ih:=jd hpq hx h1 h2
   by_cases c:p y=true
   ·rw [if_pos c,if_pos (hpq y c)];lia
   ·rw [if_neg c];lia
structure LI (bk:Bk) (kvs:List (Key×V)):Prop where
 vl: ∀ k v,aW kvs k=some v-> ∃ s,s∈bk.sorts/\k=.inr (Srt.name s)/\ ∃ n:Nat,v=.int (n:Int)/\1<=n/\n<=gB (cnt bk kvs)
 cl: ∀ s n,s∈bk.sorts->Lst kvs s n-> ∃ fr,fr∈bk.forms/\Frm.own fr=s/\ ∃ ms,Paired (Lst kvs) fr.parts ms/\1+cT ms<=n
theorem LI.nil (bk:Bk):LI bk []:=⟨fun k v h=>(by cases h),fun s n _ h=>(by cases h)⟩
theorem rn {kvs:List (Key×V)} {s:Srt} {n m:Nat} (a:Lst kvs s n) (b:Lst kvs s m):n=m:=by
 unfold Lst at a b
 rw [a]at b
 have:=V.int.inj (Option.some.inj b)
 lia
theorem LI.val {bk:Bk} {kvs:List (Key×V)} (h:LI bk kvs) {s:Srt} {v:V} (e:aW kvs (.inr s.name)=some v): ∃ n:Nat,v=.int (n:Int)/\1<=n/\n<=gB (cnt bk kvs):=by
 obtain ⟨_,_,_,n,h⟩:=h.vl _ _ e
 exact ⟨n,h⟩
theorem LI.sum {bk:Bk} {kvs:List (Key×V)} (h:LI bk kvs): ∀ {ps:List Srt} {ms:List Nat},Paired (Lst kvs) ps ms->cT ms<=ps.length*gB (cnt bk kvs)
 | _,_,.nil=>Nat.zero_le _
 | _,_,@Paired.cons _ _ _ a b l m x t=>by
  obtain ⟨n,e,_,h2⟩:=h.val x
  have e:(b:Int)=n:=V.int.inj e
  have ih:=LI.sum h t
  show b+cT m<=(l.length+1) *gB (cnt bk kvs)
  rw [Nat.succ_mul]
  lia
theorem eP {kvs kvs':List (Key×V)} (h: ∀ s n,Lst kvs s n-> ∃ n',Lst kvs' s n'/\n'<=n): ∀ {ps:List Srt} {ms:List Nat},Paired (Lst kvs) ps ms-> ∃ ms',Paired (Lst kvs') ps ms'/\cT ms'<=cT ms
 | _,_,.nil=>⟨[],.nil,Nat.le_refl _⟩
 | _,_,@Paired.cons _ _ _ a b l m x t=>by
  obtain ⟨n',h1,h2⟩:=h _ _ x
  obtain ⟨ms',h3,h4⟩:=eP h t
  exact ⟨n'::ms',.cons h1 h3,by show n'+cT ms'<=b+cT m;lia⟩
theorem LI.put {bk:Bk} {kvs:List (Key×V)} (h:LI bk kvs) (nd:(bk.sorts.map Srt.name).Nodup) {fr:Frm} (hf:fr∈bk.forms) (ho:fr.own∈bk.sorts) (hp:fr.parts.length<=3) {ms:List Nat} (hm:Paired (Lst kvs) fr.parts ms)
  {n:Nat} (hn:(aW kvs (.inr fr.own.name)=none/\n=1+cT ms)\/ ∃ m:Nat,Lst kvs fr.own m/\n=min (1+cT ms) m):LI bk (cz kvs (.inr fr.own.name) (.int (n:Int))):=by
 have hsum:=h.sum hm
 have hle:fr.parts.length*gB (cnt bk kvs)<=3*gB (cnt bk kvs):=Nat.mul_le_mul_right _ hp
 have hput: ∀ j,aW (cz kvs (.inr fr.own.name) (.int (n:Int))) j=if j=.inr fr.own.name then some (.int (n:Int))else aW kvs j:=fun j=>df _ _ _ _
 have hmon: ∀ y,bm kvs y=true->bm (cz kvs (.inr fr.own.name) (.int (n:Int))) y=true:=by
  intro y hy
  unfold bm at hy ⊢
  rw [hput]
  by_cases c:(Sum.inr y.name:Key)=.inr fr.own.name
  ·rw [if_pos c];rfl
  ·rw [if_neg c];exact hy
 have hcnt:cnt bk kvs<=cnt bk (cz kvs (.inr fr.own.name) (.int (n:Int))):=List.countP_mono_left fun z _=>hmon z
 have hg:=gP hcnt
 have hfall: ∀ s m,Lst kvs s m-> ∃ n',Lst (cz kvs (.inr fr.own.name) (.int (n:Int))) s n'/\n'<=m:=by
  intro s m hs
  by_cases c:s.name=fr.own.name
  ·refine ⟨n,by unfold Lst;rw [hput,if_pos (by rw [c])],?_⟩
   rcases hn with ⟨e,_⟩ | ⟨m',e,rfl⟩
   ·unfold Lst at hs;rw [c,e]at hs;cases hs
   ·have:Lst kvs fr.own m:=by unfold Lst at hs ⊢;rw [<- c];exact hs
    have:=rn e this
    lia
  ·exact ⟨m,by unfold Lst;rw [hput,if_neg (fun z=>c (Sum.inr.inj z))];exact hs,Nat.le_refl _⟩
 refine ⟨fun k v hv=>?_,fun s m hs hl=>?_⟩
 ·rw [hput]at hv
  by_cases c:k=.inr fr.own.name
  ·rw [if_pos c]at hv
   refine ⟨fr.own,ho,c,n,(Option.some.inj hv).symm,?_,?_⟩
   ·rcases hn with ⟨_,rfl⟩ | ⟨m,e,rfl⟩
    ·lia
    ·obtain ⟨m',e',h1,_⟩:=h.val e
     have e':(m:Int)=m':=V.int.inj e'
     lia
   ·rcases hn with ⟨e,rfl⟩ | ⟨m,e,rfl⟩
    ·have:=jd (p:=bm kvs) (q:=bm (cz kvs (.inr fr.own.name) (.int ((1+cT ms:Nat):Int)))) hmon ho (by unfold bm;rw [e];rfl) (by unfold bm;rw [hput,if_pos rfl];rfl)
     have:=gP this
     have e3:gB (bk.sorts.countP (bm kvs) +1)=1+3*gB (cnt bk kvs):=rfl
     show 1+cT ms<=gB (bk.sorts.countP _)
     lia
    ·obtain ⟨m',e',_,h2⟩:=h.val e
     have e':(m:Int)=m':=V.int.inj e'
     lia
  ·rw [if_neg c]at hv
   obtain ⟨s,h1,h2,m,h3,h4,h5⟩:=h.vl k v hv
   exact ⟨s,h1,h2,m,h3,h4,by lia⟩
 ·by_cases c:s.name=fr.own.name
  ·have es:=js nd hs ho c
   subst es
   have hl':n=m:=by
    unfold Lst at hl
    rw [hput,if_pos rfl]at hl
    have:=V.int.inj (Option.some.inj hl)
    lia
   subst hl'
   obtain ⟨ms',h1,h2⟩:=eP hfall hm
   rcases hn with ⟨_,e⟩ | ⟨m',e,e2⟩
   ·exact ⟨fr,hf,rfl,ms',h1,by lia⟩
   ·by_cases c2:1+cT ms<=m'
    ·exact ⟨fr,hf,rfl,ms',h1,by lia⟩
    ·obtain ⟨fr2,g1,g2,ms2,g3,g4⟩:=h.cl _ _ ho e
     obtain ⟨ms3,g5,g6⟩:=eP hfall g3
     exact ⟨fr2,g1,g2,ms3,g5,by lia⟩
  ·have hl':Lst kvs s m:=by
    unfold Lst at hl ⊢
    rw [hput,if_neg (fun z=>c (Sum.inr.inj z))]at hl
    exact hl
   obtain ⟨fr2,g1,g2,ms2,g3,g4⟩:=h.cl _ _ hs hl'
   obtain ⟨ms3,g5,g6⟩:=eP hfall g3
   exact ⟨fr2,g1,g2,ms3,g5,by lia⟩
noncomputable def hIn (kvs:List (Key×V)):V->V
 | .str x=>.bl (aW kvs (.inr x)).isSome
 | _=>.non
noncomputable def xn (kvs:List (Key×V)):V->V
 | .str x=>(aW kvs (.inr x)).getD .non
 | _=>.non
theorem tQ (kvs:List (Key×V)) (ps:List Srt):(be ps).map (hIn kvs)=(ps.map (bm kvs)).map V.bl:=by
 unfold be
 rw [List.map_map,List.map_map]
 rfl
theorem oq {bk:Bk} {kvs:List (Key×V)} (h:LI bk kvs): ∀ (ps:List Srt),(ps.map (bm kvs)).all id=true-> ∃ ms,Paired (Lst kvs) ps ms
 | [],_=>⟨[],.nil⟩
 | p::r,e=>by
  rw [List.map_cons,List.all_cons,Bool.and_eq_true]at e
  obtain ⟨ms,hm⟩:=oq h r e.2
  obtain ⟨v,hv⟩:=Option.isSome_iff_exists.mp (show (aW kvs (.inr p.name)).isSome=true from e.1)
  obtain ⟨n,rfl,_⟩:=h.val hv
  exact ⟨n::ms,.cons hv hm⟩
theorem kd {kvs:List (Key×V)}: ∀ {ps:List Srt} {ms:List Nat},Paired (Lst kvs) ps ms->(be ps).map (xn kvs)=(ms.map fun m=>((m:Nat):Int)).map V.int
 | _,_,.nil=>rfl
 | _,_,@Paired.cons _ _ _ a b l m x t=>by
  have ih:=kd t
  show (aW kvs (.inr a.name)).getD .non::(be l).map (xn kvs)=V.int (b:Int)::_
  rw [ih,show aW kvs (.inr a.name)=some (.int (b:Int))from x]
  rfl
theorem nL: ∀ ms:List Nat,iu (ms.map fun m=>((m:Nat):Int))=(cT ms:Int)
 | []=>rfl
 | m::r=>by
  show (m:Int) +iu (r.map fun m=>((m:Nat):Int))=((m+cT r:Nat):Int)
  rw [nL r]
  lia
theorem jZ (ps:List Srt):(be ps).length=ps.length:=List.length_map _
theorem j5 {ps:List Srt} {v:V} (h:v∈be ps): ∃ s,s∈ps/\v=.str (Srt.name s):=by
 obtain ⟨s,hs,e⟩:=List.mem_map.mp h
 exact ⟨s,hs,e.symm⟩
theorem LI.small {bk:Bk} {kvs:List (Key×V)} (h:LI bk kvs) (hk:BkG bk) {s:Srt} {n:Nat} (hn:Lst kvs s n):1<=n/\n<=40:=by
 obtain ⟨m,e,h1,h2⟩:=h.val hn
 have e:(n:Int)=m:=V.int.inj e
 have h3:=rM bk kvs
 have h4:=hk.so.2.1
 have h5:=gP (show cnt bk kvs<=4 by lia)
 have h6:gB 4=40:=rfl
 lia
theorem fB {bk:Bk} {kvs:List (Key×V)} (h:LI bk kvs) (hk:BkG bk): ∀ {ps:List Srt} {ms:List Nat},Paired (Lst kvs) ps ms-> ∀ m∈ms,1<=m/\m<=40
 | _,_,.nil,m,hm=>by cases hm
 | _,_,@Paired.cons _ _ _ a b l r x t,m,hm=>by
  rcases List.mem_cons.mp hm with rfl | hm
  ·exact h.small hk x
  ·exact fB h hk t m hm
noncomputable def yI:Option V->Nat
 | some (.int i)=>i.toNat
 | _=>0
noncomputable def szF (kvs:List (Key×V)) (fr:Frm):Nat:=1+cT (fr.parts.map fun p=>yI (aW kvs (.inr p.name)))
noncomputable def qh (kvs:List (Key×V)) (fr:Frm):Nat:=match aW kvs (.inr fr.own.name)with
 | none=>szF kvs fr
 | some v=>min (szF kvs fr) (yI (some v))
noncomputable def dh (kvs:List (Key×V)) (fr:Frm):List (Key×V):=if (fr.parts.map (bm kvs)).all id=true then cz kvs (.inr fr.own.name) (.int ((qh kvs fr:Nat):Int))else kvs
noncomputable def bX (bk:Bk):Nat->List (Key×V)
 | 0=>[]
 | i+1=>bk.forms.foldl dh (bX bk i)
noncomputable def ce (bk:Bk):List (Key×V):=bX bk bk.sorts.length
theorem j4 {kvs:List (Key×V)}: ∀ {ps:List Srt} {ms:List Nat},Paired (Lst kvs) ps ms->ps.map (fun p=>yI (aW kvs (.inr p.name)))=ms
 | _,_,.nil=>rfl
 | _,_,@Paired.cons _ _ _ a b l m x t=>by
  rw [List.map_cons,j4 t,show aW kvs (.inr a.name)=some (.int (b:Int))from x]
  show (b:Int).toNat::m=b::m
  rw [Int.toNat_natCast]
theorem rq {bk:Bk} {kvs:List (Key×V)} (h:LI bk kvs) {fr:Frm} {ms:List Nat} (hm:Paired (Lst kvs) fr.parts ms):
  (aW kvs (.inr fr.own.name)=none/\qh kvs fr=1+cT ms)\/ ∃ m:Nat,Lst kvs fr.own m/\qh kvs fr=min (1+cT ms) m:=by
 have e:szF kvs fr=1+cT ms:=by unfold szF;rw [j4 hm]
 cases hv:aW kvs (.inr fr.own.name)with
 | none=>exact .inl ⟨rfl,by unfold qh;rw [hv];exact e⟩
 | some v=>
  obtain ⟨m,rfl,_⟩:=h.val hv
  refine .inr ⟨m,hv,?_⟩
  unfold qh
  rw [hv]
  show min (szF kvs fr) (m:Int).toNat=_
  rw [e,Int.toNat_natCast]
inductive l7  (vs:List V) (H:Hp) (Q:VK) (E_:XK):Prop
 | mk: ∀ bv bk,(vs=[bv])->(RepB H bk bv)->(BkG bk)->(∀ d H',H d=none->Same H H'->H' d=some (.dK (ce bk))->LI bk (ce bk)->Q (.ref d) H')->l7 vs H Q E_
abbrev qF:List Str:=["book","found","turn","name","sort","parts","rules","size"]
theorem scLeast:aB qF ["book"] (ag jR):=fsc
theorem vg (F:Fun K "_law_least" "_law_least" jR f fd) (G:Gb mg) (hsum:mg "sum"=none):FnOk P w K mg base CX0 1 f fd ["book"] l7:=by
 refine F.ok scLeast (fun vs H Q E h=>?_) (fun cdv A outer s H vs Q E hr h=>?_)
 ·obtain ⟨bv,bk,rfl,_⟩:=h
  rfl
 obtain ⟨bv,bk,rfl,⟨a,sa,fa,fv,rfl,ha,⟨sx,hsa,hS⟩,hfa,hF⟩,hok,q⟩:=h
 have hu:=cF hr
 refine ⟨_,ae (aq (i:=1) scLeast.nd rfl (Or.inr rfl) ee)
  (ae (bg PassesOwn.never rfl (br rfl G.range (aa (aF (r:=de K) aA rfl G.len PySem.boot_len (aa (ao (r:=aC K) al (pv 0) ad (fun _ _=>rfl)) ac)) ac)) (aH (i:=2) scLeast.nd rfl (Or.inl rfl))
   (ai (bg PassesOwn.never rfl (cf (ao (r:=aC K) al (pv 0) ad (fun _ _=>rfl)))
    (eU rfl (aT (aH (i:=3) scLeast.nd rfl (Or.inl rfl)) (aT (aH (i:=4) scLeast.nd rfl (Or.inl rfl)) (aT (aH (i:=5) scLeast.nd rfl (Or.inl rfl)) (aT (aH (i:=6) scLeast.nd rfl (Or.inl rfl)) dv)))))
    (ai (aY (dE (aF (eC rfl) rfl G.all (by decide +kernel) (aa (cy (sc0:=ag jR) (N0:=qF) (ys:=["found"]) (fr:=[1]) rfl (cf (pv 5)) rfl rfl
       cok (fun C s H ex=>jX (jY hu (pv 0) (pv 1)))) ac)))
     (ae (aq (i:=7) scLeast.nd rfl (Or.inl rfl) (aE bf ad (aF (oW rfl) rfl hsum (by decide +kernel) (aa (cy (sc0:=ag jR) (N0:=qF) (ys:=["found"]) (fr:=[1]) rfl (cf (pv 5)) rfl rfl
       cok (fun C s H ex=>cx hu (pv 1) (pv 0) (fun _ _=>rfl))) ac))))
     (ai (dL hu (pv 1) (pv 4) (aF (je rfl) rfl G.min (by decide +kernel) (aa (pv 7) (aa (uS hu (pv 1) (pv 4) (pv 7) ⟨rfl,rfl,rfl,rfl⟩) ac))) rfl)))
     aK)))))
  (ai (ax (pv 1)))),?_⟩
 have lS:=hS.len
 have lF:=hF.len
 refine fun td htd=>?_
 have s0:=af htd (.dK [])
 have g0:(upd H td (.dK [])) td=some (.dK []):=ab
 generalize upd H td (.dK [])=H0 at s0 g0 ⊢
 have h4:=hok.so.2.1
 have h10:=hok.few
 refine ⟨_,rfl,a,_,1,.ref sa,rfl,rfl,SqT.of (s0 _ _ ha),ar (j:=1) rfl,sa,sx,rfl,.inr (SqT.of (s0 _ _ hsa)),_,rfl,by lia,by lia,?_⟩
 refine cB (fun i Z H'=> ∃ o2 o3 o4 o5 o6 o7 kvs,Z=[some (.ref a),some (.ref td),o2,o3,o4,o5,o6,o7]/\Same H H'/\H' td=some (.dK kvs)/\LI bk kvs/\kvs.length<=10*i/\kvs=bX bk i)
  ⟨none,none,none,none,none,none,[],rfl,s0,g0,LI.nil bk,Nat.le_refl _,rfl⟩ ?_ ?_
 ·rintro i Z H1 hi ⟨o2,o3,o4,o5,o6,o7,kvs,rfl,S1,gd1,hI1,hl1,hk1⟩
  refine ⟨_,rfl,a,_,2,.ref fa,rfl,rfl,SqT.of (S1 _ _ ha),ar (j:=2) rfl,fa,rfl,⟨fv,SqT.of (S1 _ _ hfa)⟩,?_⟩
  refine eR (xs:=fv) (fun j Z H'=>j<=fv.length/\ ∃ o3 o4 o5 o6 o7 kvs,Z=[some (.ref a),some (.ref td),some (.int (0+ (i:Int))),o3,o4,o5,o6,o7]/\Same H H'/\H' td=some (.dK kvs)/\LI bk kvs/\kvs.length<=10*i+j/\kvs=(bk.forms.take j).foldl dh (bX bk i))
   ⟨Nat.zero_le _,o3,o4,o5,o6,o7,kvs,rfl,S1,gd1,hI1,hl1,hk1⟩ (fun j Z H' _ h=>by obtain ⟨_,_,_,_,_,_,_,_,sm,_⟩:=h;exact SqT.of (sm _ _ hfa)) ?_ ?_
  ·rintro j x Z H2 hx ⟨hj,o3,o4,o5,o6,o7,kvs,rfl,S2,gd2,hI2,hl2,hk2⟩
   have hjl:j<fv.length:=(List.getElem?_eq_some_iff.mp hx).1
   obtain ⟨fr,hfr,b,pa,ra,rv,rfl,hb,hpa,hra,hR⟩:=aJ hF hx
   have hfm:=List.mem_of_getElem? hfr
   have hk1000:kvs.length<=1000:=by lia
   obtain ⟨hown,hparts,hp3⟩:=hok.ok fr hfm
   have ek:(bk.forms.take (j+1)).foldl dh (bX bk i)=dh kvs fr:=by
    rw [List.take_add_one,hfr,List.foldl_append,<- hk2]
    rfl
   refine ⟨b,_,rfl,SqT.of (S2 _ _ hb),rfl,_,_,rfl,_,_,rfl,_,_,rfl,_,_,rfl,rfl,?_⟩
   refine ⟨_,rfl,pa,rfl,⟨_,SqT.of (S2 _ _ hpa)⟩,?_⟩
   refine lL (by rw [jZ];lia) (dz (S2 _ _ hpa)) (dy (S2 _ _ hpa)) (eW (S2 _ _ hpa)) (hIn kvs) ?_ ?_
   ·intro v H' k hv s' hk
    obtain ⟨sr,_,rfl⟩:=j5 hv
    exact ⟨_,rfl,_,rfl,td,_,rfl,DGet.k (k:=.inr sr.name) (s' _ _ gd2),hk⟩
   intro p3 H3 hp3' s3 gp3
   rw [tQ]at gp3
   have S3:Same H H3:=S2.trans s3
   have gd3:=s3 _ _ gd2
   refine ⟨p3,_,rfl,SqL.of gp3,_,rfl,?_⟩
   refine cU (fun c=>?_) (fun c=>?_)
   ·obtain ⟨ms,hms⟩:=oq hI2 _ c
    have hsm:=fB hI2 hok hms
    have lms:fr.parts.length=ms.length:=Paired.length hms
    refine ⟨_,rfl,pa,rfl,⟨_,SqT.of (S3 _ _ hpa)⟩,?_⟩
    refine lL (by rw [jZ];lia) (dz (S3 _ _ hpa)) (dy (S3 _ _ hpa)) (eW (S3 _ _ hpa)) (xn kvs) ?_ ?_
    ·intro v H' k hv s' hk
     obtain ⟨sr,hsr,rfl⟩:=j5 hv
     obtain ⟨i',hi'⟩:=List.getElem?_of_mem hsr
     obtain ⟨m,_,hm⟩:=cD hms hi'
     refine ⟨_,rfl,_,rfl,td,.int (m:Int),rfl,(by rw [<- show aW kvs (.inr sr.name)=some (.int (m:Int))from hm];exact DGet.k (k:=.inr sr.name) (s' _ _ gd3)),?_⟩
     have:xn kvs (.str sr.name)=.int (m:Int):=by
      show (aW kvs (.inr sr.name)).getD .non=_
      rw [show aW kvs (.inr sr.name)=some (.int (m:Int))from hm]
      rfl
     rw [this]at hk
     exact hk
    intro p4 H4 hp4 s4 gp4
    rw [kd hms]at gp4
    have S4:Same H H4:=S3.trans s4
    have gd4:=s4 _ _ gd3
    refine ⟨p4,_,rfl,SqL.of gp4,by rw [List.length_map];lia,?_,?_⟩
    ·intro n hn
     obtain ⟨m,hm,rfl⟩:=List.mem_map.mp hn
     have:=hsm m hm
     lia
    rw [nL]
    refine ⟨_,_,rfl,rfl,?_⟩
    rw [show ((V.int (1+ (cT ms:Int))))=V.int ((1+cT ms:Nat):Int)from congrArg V.int (show (1:Int) + (cT ms:Int)=((1+cT ms:Nat):Int) by lia)]
    refine ⟨_,rfl,_,rfl,td,rfl,.inl ⟨kvs,.inl gd4⟩,_,rfl,_,rfl,_,DGet.k (k:=.inr fr.own.name) gd4,?_⟩
    have fin: ∀ n:Nat,n=qh kvs fr->
      j+1<=fv.length/\ ∃ o3 o4 o5 o6 o7 kvs',[some (V.ref a),some (.ref td),some (.int (0+ (i:Int))),some (.str fr.name),some (.str fr.own.name),some (.ref pa),some (.ref ra),some (.int ((1+cT ms:Nat):Int))]=[some (V.ref a),some (.ref td),some (.int (0+ (i:Int))),o3,o4,o5,o6,o7]/\
       Same H (upd H4 td (.dK (cz kvs (.inr fr.own.name) (.int (n:Int)))))/\(upd H4 td (.dK (cz kvs (.inr fr.own.name) (.int (n:Int))))) td=some (.dK kvs')/\LI bk kvs'/\kvs'.length<=10*i+ (j+1)/\kvs'=(bk.forms.take (j+1)).foldl dh (bX bk i):=by
     intro n hn
     subst hn
     refine ⟨hjl,_,_,_,_,_,_,rfl,?_,ab,hI2.put hok.so.2.2.1 hfm hown hp3 hms (rq hI2 hms),?_,by rw [ek];exact (if_pos c).symm⟩
     ·intro y oo h
      rw [am (aj h htd)]
      exact S4 _ _ h
     ·have:=cN kvs (.inr fr.own.name) (.int ((qh kvs fr:Nat):Int))
      lia
    have hmn:=rq hI2 hms
    cases hold:aW kvs (.inr fr.own.name)with
    | none=>
     refine ⟨_,_,rfl,?_⟩
     rw [if_neg (by lia)]
     refine ⟨_,rfl,_,rfl,td,_,rfl,DPut.k (k:=.inr fr.own.name) gd4 (aG hk1000),?_⟩
     exact fin (1+cT ms) (by rcases hmn with ⟨_,e⟩ | ⟨m',e,_⟩;exact e.symm;unfold Lst at e;rw [hold]at e;cases e)
    | some v=>
     obtain ⟨m,rfl,_⟩:=hI2.val hold
     refine ⟨_,_,rfl,?_⟩
     have e5:(if (m:Int) < ((1+cT ms:Nat):Int)then (m:Int)else ((1+cT ms:Nat):Int))=((min (1+cT ms) m:Nat):Int):=by
      by_cases c5:(m:Int) < ((1+cT ms:Nat):Int)
      ·rw [if_pos c5];lia
      ·rw [if_neg c5];lia
     rw [e5]
     refine ⟨_,rfl,_,rfl,td,_,rfl,DPut.k (k:=.inr fr.own.name) gd4 (aG hk1000),?_⟩
     exact fin _ (by rcases hmn with ⟨e,_⟩ | ⟨m',e,e2⟩;rw [hold]at e;cases e;rw [e2,rn e hold])
   ·exact ⟨hjl,_,_,_,_,_,kvs,rfl,S3,gd3,hI2,by lia,by rw [ek];exact (if_neg c).symm⟩
  ·rintro Z H2 ⟨_,o3,o4,o5,o6,o7,kvs,rfl,S2,gd2,hI2,hl2,hk2⟩
   rw [<- lF,List.take_length]at hk2
   exact ⟨_,_,_,_,_,_,kvs,rfl,S2,gd2,hI2,by lia,hk2⟩
 ·rintro Z H1 ⟨o2,o3,o4,o5,o6,o7,kvs,rfl,S1,gd1,hI1,hl1,hk1⟩
  have:=hok.so.1
  rw [Int.toNat_natCast,<- lS]at hk1
  subst hk1
  exact ⟨_,rfl,q td H1 htd S1 gd1 hI1⟩
def ClL (bk:Bk) (kvs:List (Key×V)):Prop:= ∀ fr∈bk.forms,(fr.parts.map (bm kvs)).all id=true->bm kvs fr.own=true
theorem tF {kvs:List (Key×V)} {fr:Frm} {s:Srt} (h:bm kvs s=true):bm (dh kvs fr) s=true:=by
 unfold dh
 by_cases c:(fr.parts.map (bm kvs)).all id=true
 ·rw [if_pos c]
  unfold bm at h ⊢
  rw [df]
  by_cases e:(Sum.inr s.name:Key)=.inr fr.own.name
  ·rw [if_pos e];rfl
  ·rw [if_neg e];exact h
 ·rw [if_neg c];exact h
theorem fk {s:Srt}: ∀ {l:List Frm} {kvs:List (Key×V)},bm kvs s=true->bm (l.foldl dh kvs) s=true
 | [],_,h=>h
 | fr::r,kvs,h=>fk (l:=r) (tF (fr:=fr) h)
theorem tE {kvs:List (Key×V)} {fr:Frm} (c:(fr.parts.map (bm kvs)).all id=true):bm (dh kvs fr) fr.own=true:=by
 unfold dh
 rw [if_pos c]
 unfold bm
 rw [df,if_pos rfl]
 rfl
theorem zX {bk:Bk} (ho: ∀ fr∈bk.forms,fr.own∈bk.sorts): ∀ {l:List Frm} {kvs:List (Key×V)},(∀ fr∈l,fr∈bk.forms)->
  ((∀ s∈bk.sorts,bm (l.foldl dh kvs) s=bm kvs s)/\ ∀ fr∈l,(fr.parts.map (bm kvs)).all id=true->bm kvs fr.own=true)\/cnt bk kvs+1<=cnt bk (l.foldl dh kvs):=by
 intro l kvs hl
 by_cases c: ∃ s∈bk.sorts,bm kvs s=false/\bm (l.foldl dh kvs) s=true
 ·obtain ⟨s,hs,h1,h2⟩:=c
  exact .inr (jd (fun y hy=>fk hy) hs h1 h2)
 ·have same: ∀ s∈bk.sorts,bm (l.foldl dh kvs) s=bm kvs s:=fun s hs=>by
   cases h1:bm kvs s with
   | true=>exact fk h1
   | false=>
    cases h2:bm (l.foldl dh kvs) s with
    | false=>rfl
    | true=>exact absurd ⟨s,hs,h1,h2⟩ c
  refine .inl ⟨same,fun fr hf hp=>?_⟩
  obtain ⟨a,b,e⟩:=List.append_of_mem hf
  rw [<- same _ (ho fr (hl fr hf)),e,List.foldl_append,List.foldl_cons]
  refine fk (tE ?_)
  rw [List.all_eq_true]at hp ⊢
  intro x hx
  obtain ⟨p,hp',rfl⟩:=List.mem_map.mp hx
  exact fk (hp _ (List.mem_map.mpr ⟨p,hp',rfl⟩))
theorem lC {bk:Bk} (hb:BkG bk): ∀ i,ClL bk (bX bk i)\/i<=cnt bk (bX bk i)
 | 0=>.inr (Nat.zero_le _)
 | i+1=>by
  rcases zX (bk:=bk) (fun fr hf=>(hb.ok fr hf).1) (l:=bk.forms) (kvs:=bX bk i) (fun _ h=>h)with ⟨h1,h2⟩ | h
  ·refine .inl fun fr hf hp=>?_
   show bm (bk.forms.foldl dh (bX bk i)) fr.own=true
   rw [h1 _ (hb.ok fr hf).1]
   refine h2 fr hf ?_
   rw [List.all_eq_true]at hp ⊢
   intro x hx
   obtain ⟨p,hp',rfl⟩:=List.mem_map.mp hx
   have:=hp _ (List.mem_map.mpr ⟨p,hp',rfl⟩)
   have this:bm (bk.forms.foldl dh (bX bk i)) p=true:=this
   rw [h1 p ((hb.ok fr hf).2.1 p hp')]at this
   exact this
  ·rcases lC hb i with hc | hi
   ·by_cases c: ∃ s∈bk.sorts,bm (bX bk i) s=false/\bm (bX bk (i+1)) s=true
    ·exfalso
     obtain ⟨s,hs,h1,h2⟩:=c
     have keep: ∀ (l:List Frm),(∀ fr∈l,fr∈bk.forms)-> ∀ kvs,(∀ t∈bk.sorts,bm kvs t=bm (bX bk i) t)-> ∀ t∈bk.sorts,bm (l.foldl dh kvs) t=bm (bX bk i) t:=by
      intro l
      induction l with
      | nil=>intro _ kvs hk t ht;exact hk t ht
      | cons fr r ih=>
       intro hl kvs hk t ht
       have hfm:=hl fr List.mem_cons_self
       refine ih (fun x hx=>hl x (List.mem_cons_of_mem _ hx)) _ (fun t ht=>?_) t ht
       unfold dh
       by_cases c:(fr.parts.map (bm kvs)).all id=true
       ·rw [if_pos c]
        unfold bm
        rw [df]
        by_cases e:(Sum.inr t.name:Key)=.inr fr.own.name
        ·rw [if_pos e]
         have et:=js hb.so.2.2.1 ht (hb.ok fr hfm).1 (Sum.inr.inj e)
         subst et
         have:=hc fr hfm (by
          rw [List.all_eq_true]at c ⊢
          intro x hx
          obtain ⟨p,hp',rfl⟩:=List.mem_map.mp hx
          have:=c _ (List.mem_map.mpr ⟨p,hp',rfl⟩)
          have this:bm kvs p=true:=this
          rw [hk p ((hb.ok fr hfm).2.1 p hp')]at this
          exact this)
         unfold bm at this
         rw [this]
         rfl
        ·rw [if_neg e];exact hk t ht
       ·rw [if_neg c];exact hk t ht
     have:=keep bk.forms (fun _ h=>h) (bX bk i) (fun _ _=>rfl) s hs
     have this:bm (bX bk (i+1)) s=bm (bX bk i) s:=this
     rw [h1,h2]at this
     cases this
    ·have hle:cnt bk (bX bk (i+1))<=cnt bk (bX bk i):=List.countP_mono_left fun s hs h2=>by
      cases h1:bm (bX bk i) s with
      | true=>rfl
      | false=>exact absurd ⟨s,hs,h1,h2⟩ c
     have h:cnt bk (bX bk i) +1<=cnt bk (bX bk (i+1)):=h
     lia
   ·have h:cnt bk (bX bk i) +1<=cnt bk (bX bk (i+1)):=h
    exact .inr (by lia)
theorem vB {bk:Bk} (hb:BkG bk):ClL bk (ce bk):=by
 rcases lC hb bk.sorts.length with h | h
 ·exact h
 ·intro fr hf _
  have hall: ∀ s∈bk.sorts,bm (ce bk) s=true:=by
   have h1:cnt bk (ce bk)=bk.sorts.length:=Nat.le_antisymm (rM bk _) h
   unfold cnt at h1
   exact List.countP_eq_length.mp h1
  exact hall _ (hb.ok fr hf).1
theorem tI {bk:Bk} (hb:BkG bk) (hI:LI bk (ce bk)) {m:Sz} (hm:FixS bk m): ∀ s∈bk.sorts,bm (ce bk) s=(aL m s.name).isSome:=by
 have one: ∀ n s,s∈bk.sorts->Lst (ce bk) s n->(aL m s.name).isSome=true:=by
  intro n
  induction n using Nat.strongRecOn with
  | _ n ih=>
   intro s hs hl
   obtain ⟨fr,hf,ho,ms,hms,hle⟩:=hI.cl s n hs hl
   have hsm:=fB hI hb hms
   have hg:aM m fr=true:=by
    unfold aM
    rw [List.all_eq_true]
    intro p hp
    obtain ⟨i,hi⟩:=List.getElem?_of_mem hp
    obtain ⟨k,hk,hkl⟩:=cD hms hi
    have hk1:k<=cT ms:=by
     have go: ∀ (l:List Nat) k,k∈l->k<=cT l:=by
      intro l
      induction l with
      | nil=>intro k h;cases h
      | cons x r ih=>
       intro k h
       show k<=x+cT r
       rcases List.mem_cons.mp h with rfl | h
       ·lia
       ·have:=ih k h;lia
     exact go ms k (List.mem_of_getElem? hk)
    exact ih k (by lia) p ((hb.ok fr hf).2.1 p hp) hkl
   obtain ⟨n',h1,_⟩:=hm.low hb hf hg
   rw [ho]at h1
   rw [h1]
   rfl
 have two: ∀ n s,s∈bk.sorts->aL m s.name=some n->bm (ce bk) s=true:=by
  intro n
  induction n using Nat.strongRecOn with
  | _ n ih=>
   intro s hs hn
   obtain ⟨fr,hf,hg,ho,hz⟩:=hm.wit hn
   have es:=js hb.so.2.2.1 (hb.ok fr hf).1 hs ho
   rw [<- es]
   refine vB hb fr hf ?_
   rw [List.all_eq_true]
   intro x hx
   obtain ⟨p,hp,rfl⟩:=List.mem_map.mp hx
   obtain ⟨k,h1,h2⟩:=gO hg hp
   exact ih k (by lia) p ((hb.ok fr hf).2.1 p hp) h1
 intro s hs
 cases h1:bm (ce bk) s with
 | true=>
  obtain ⟨v,hv⟩:=Option.isSome_iff_exists.mp (show (aW (ce bk) (.inr s.name)).isSome=true from h1)
  obtain ⟨n,rfl,_⟩:=hI.val hv
  exact (one n s hs hv).symm
 | false=>
  cases h2:aL m s.name with
  | none=>rfl
  | some n=>rw [two n s hs h2]at h1;cases h1
theorem qi {bk:Bk} (hb:BkG bk) (hI:LI bk (ce bk)) {m:Sz} (hm:FixS bk m):bk.forms.filter (fun fr=>(fr.parts.map (bm (ce bk))).all id)=bk.forms.filter (aM m):=by
 refine List.filter_congr fun fr hf=>?_
 unfold aM
 rw [List.all_map]
 have go: ∀ l:List Srt,(∀ p∈l,p∈bk.sorts)->l.all (id∘bm (ce bk))=l.all fun p=>(aL m p.name).isSome:=by
  intro l
  induction l with
  | nil=>intro _;rfl
  | cons p r ih=>
   intro h
   rw [List.all_cons,List.all_cons,ih fun x hx=>h x (List.mem_cons_of_mem _ hx)]
   show (bm (ce bk) p&&_)=_
   rw [tI hb hI hm p (h p List.mem_cons_self)]
 exact go fr.parts (hb.ok fr hf).2.1
theorem dg: ∀ f:Fm,f.rdk.length<=f.size
 | .num _=>Nat.zero_le _
 | .own _=>Nat.le_refl _
 | .part _ _=>Nat.le_refl _
 | .bin _ a b=>by
  have h1:=dg a
  have h2:=dg b
  show (a.rdk++b.rdk).length<=a.size+b.size+1
  rw [List.length_append];lia
 | .whn a b c=>by
  have h1:=dg a
  have h2:=dg b
  have h3:=dg c
  show (a.rdk++(b.rdk++c.rdk)).length<=a.size+b.size+c.size+1
  rw [List.length_append,List.length_append];lia
def RdT (fr:Frm) (ks:List Key):Prop:=(∃ x:Str,ks=[.inr "own",.inr x]/\x∈fr.own.downs++fr.own.ups)\/ ∃ (k:Nat) (q:Srt) (x:Str),ks=[.inr "part",.inl (k:Int),.inr x]/\fr.parts[k]? =some q/\x∈q.downs++q.ups
structure FrT (fr:Frm):Prop where
 tg:fr.rules.map (fun r=>(r.pl,r.word))=cP fr.own fr.parts
 fm: ∀ r∈fr.rules,r.fm.wf/\r.fm.size<=15
 rd: ∀ r∈fr.rules,∀ ks∈r.fm.rdk,RdT fr ks
structure BkT (b:Bk):Prop where
 g:BkG b
 fr: ∀ fr∈b.forms,FrT fr
theorem kZ {k:Int}: ∀ {qs:List Srt} {i:Int} {x:Str},(i,x)∈cL k qs-> ∃ (j:Nat) (q:Srt),i=k+ (j:Int)/\qs[j]? =some q/\x∈q.downs
 | [],_,_,h=>by cases h
 | q::r,i,x,h=>by
  have h:(i,x)∈q.downs.map (fun x=>(k,x))++cL (k+1) r:=h
  rcases List.mem_append.mp h with h | h
  ·obtain ⟨y,hy,e⟩:=List.mem_map.mp h
   cases e
   exact ⟨0,q,by lia,rfl,hy⟩
  ·obtain ⟨j,q',e,h1,h2⟩:=kZ (k:=k+1) h
   exact ⟨j+1,q',by lia,h1,h2⟩
theorem kY {k:Int}: ∀ {qs:List Srt} {j:Nat} {q:Srt} {x:Str},qs[j]? =some q->x∈q.downs->(k+ (j:Int),x)∈cL k qs
 | q'::r,0,q,x,h,hx=>by
  cases h
  refine List.mem_append_left _ (List.mem_map.mpr ⟨x,hx,?_⟩)
  show (k,x)=(k+ ((0:Nat):Int),x)
  rw [show k+ ((0:Nat):Int)=k by lia]
 | q'::r,j+1,q,x,h,hx=>by
  have:=kY (k:=k+1) (qs:=r) (j:=j) (q:=q) (x:=x) h hx
  rw [show k+1+ (j:Int)=k+ ((j+1:Nat):Int) by lia]at this
  exact List.mem_append_right _ this
theorem tgts_iff {o:Srt} {qs:List Srt} {i:Int} {x:Str}:(i,x)∈cP o qs↔(i= -1/\x∈o.ups)\/ ∃ (j:Nat) (q:Srt),i=(j:Int)/\qs[j]? =some q/\x∈q.downs:=by
 unfold cP
 rw [List.mem_append]
 constructor
 ·rintro (h | h)
  ·obtain ⟨y,hy,e⟩:=List.mem_map.mp h
   cases e
   exact .inl ⟨rfl,hy⟩
  ·obtain ⟨j,q,e,h1,h2⟩:=kZ h
   exact .inr ⟨j,q,by lia,h1,h2⟩
 ·rintro (⟨rfl,h⟩ | ⟨j,q,rfl,h1,h2⟩)
  ·exact .inl (List.mem_map.mpr ⟨x,h,rfl⟩)
  ·refine .inr ?_
   have:=kY (k:=0) h1 h2
   rw [show (0:Int) + (j:Int)=(j:Int) by lia]at this
   exact this
theorem lh {k:Int}: ∀ {qs:List Srt} {f:Fm},f∈cR k qs-> ∃ (j:Nat) (q:Srt) (x:Str),f=.part (k+ (j:Int)) x/\qs[j]? =some q/\x∈q.ups
 | [],_,h=>by cases h
 | q::r,f,h=>by
  have h:f∈q.ups.map (fun x=>Fm.part k x)++cR (k+1) r:=h
  rcases List.mem_append.mp h with h | h
  ·obtain ⟨y,hy,e⟩:=List.mem_map.mp h
   subst e
   exact ⟨0,q,y,by rw [show k+ ((0:Nat):Int)=k by lia],rfl,hy⟩
  ·obtain ⟨j,q',x,e,h1,h2⟩:=lh (k:=k+1) h
   exact ⟨j+1,q',x,by rw [e,show k+1+ (j:Int)=k+ ((j+1:Nat):Int) by lia],h1,h2⟩
theorem gu {ρ:Fm->Prop} {π:List Key->Prop} (ho: ∀ x,ρ (.own x)->π [.inr "own",.inr x]) (hp: ∀ k x,ρ (.part k x)->π [.inr "part",.inl k,.inr x]): ∀ {f:Fm},f.wfp ρ-> ∀ ks∈f.rdk,π ks
 | .num _,_,_,h=>by cases h
 | .own x,w,ks,h=>by rw [List.mem_singleton.mp h];exact ho x w.2
 | .part k x,w,ks,h=>by rw [List.mem_singleton.mp h];exact hp k x w.2
 | .bin _ a b,w,ks,h=>(List.mem_append.mp h).elim (gu ho hp w.2.1 ks) (gu ho hp w.2.2 ks)
 | .whn a b c,w,ks,h=>(List.mem_append.mp h).elim (gu ho hp w.1 ks) fun h=>(List.mem_append.mp h).elim (gu ho hp w.2.1 ks) (gu ho hp w.2.2 ks)
theorem q9 {fr:Frm} {mode:Int} {j:Int} {f:Fm} (h:f∈rds fr.own fr.parts mode j):(∃ x,f=.own x/\RdT fr [.inr "own",.inr x])\/ ∃ k x,f=.part k x/\RdT fr [.inr "part",.inl k,.inr x]:=by
 have tgc: ∀ t∈cP fr.own fr.parts,(∃ x,tgF t=.own x/\RdT fr [.inr "own",.inr x])\/ ∃ k x,tgF t=.part k x/\RdT fr [.inr "part",.inl k,.inr x]:=by
  rintro ⟨i,x⟩ ht
  rcases tgts_iff.mp ht with ⟨rfl,hx⟩ | ⟨k,q,rfl,h1,h2⟩
  ·exact .inl ⟨x,rfl,.inl ⟨x,rfl,List.mem_append_right _ hx⟩⟩
  ·refine .inr ⟨k,x,?_,.inr ⟨k,q,x,rfl,h1,List.mem_append_left _ h2⟩⟩
   unfold tgF
   rw [if_neg (by show ¬ ((k:Int) <0);lia)]
 unfold rds at h
 rcases List.mem_append.mp h with h | h
 ·rcases List.mem_append.mp h with h | h
  ·obtain ⟨x,hx,rfl⟩:=List.mem_map.mp h
   exact .inl ⟨x,rfl,.inl ⟨x,rfl,List.mem_append_left _ hx⟩⟩
  ·obtain ⟨k,q,x,rfl,h1,h2⟩:=lh h
   rw [show (0:Int) + (k:Int)=(k:Int) by lia]
   exact .inr ⟨k,x,rfl,.inr ⟨k,q,x,rfl,h1,List.mem_append_right _ h2⟩⟩
 ·by_cases c:mode>0
  ·rw [if_pos c]at h
   obtain ⟨t,ht,rfl⟩:=List.mem_map.mp h
   refine tgc t ?_
   unfold fc at ht
   by_cases c2:mode=2
   ·rw [if_pos c2]at ht;exact List.mem_of_mem_take ht
   ·rw [if_neg c2]at ht;exact ht
  ·rw [if_neg c]at h;cases h
theorem wg {b:Bk} (h:qG b):BkT b:=by
 obtain ⟨mode,_,hfo⟩:=h.fo
 refine ⟨⟨wB h.so,h.few,h.nd,h.wd,fun fr hf=>?_⟩,fun fr hf=>?_⟩
 ·obtain ⟨a1,a2,a3,_⟩:=hfo fr hf
  exact ⟨a1,a2,a3⟩
 ·obtain ⟨_,_,_,h4,h5⟩:=hfo fr hf
  have go: ∀ r∈fr.rules,∃ j:Nat,r.fm.wfp (fun f=>f∈rds fr.own fr.parts mode j)/\r.fm.size<=15:=fun r hr=>by
   obtain ⟨j,hj⟩:=List.getElem?_of_mem hr
   exact ⟨j,h5 j r hj⟩
  refine ⟨h4,fun r hr=>?_,fun r hr=>?_⟩
  ·obtain ⟨j,h1,h2⟩:=go r hr
   exact ⟨h1.wf,h2⟩
  ·obtain ⟨j,h1,_⟩:=go r hr
   refine gu (π:=RdT fr) (fun x hx=>?_) (fun k x hx=>?_) h1
   ·rcases q9 hx with ⟨y,e,hr⟩ | ⟨k,y,e,_⟩
    ·cases e;exact hr
    ·cases e
   ·rcases q9 hx with ⟨y,e,_⟩ | ⟨k,y,e,hr⟩
    ·cases e
    ·cases e;exact hr
structure Lk where
 fr:Frm
 r:Rul
 n:Nat
 ks:List Key
abbrev Stp:=List Key×(Key×Key)
noncomputable def Lk.stp (l:Lk):Stp:=(l.ks,(.inr l.fr.name,.inl (l.n:Int)))
noncomputable def fM (fr:Frm) (n:Nat) (r:Rul) (kss:List (List Key)):List Lk:=kss.map fun ks=>⟨fr,r,n,ks⟩
noncomputable def eI (fr:Frm):Nat->List Rul->List Lk
 | _,[]=>[]
 | n,r::rs=>fM fr n r (dd [] r.fm.rdk)++eI fr (n+1) rs
theorem i6 (fr:Frm) (r:Rul): ∀ (n:Nat) (rs:List Rul),eI fr n (rs++[r])=eI fr n rs++fM fr (n+rs.length) r (dd [] r.fm.rdk)
 | n,[]=>by show fM fr n r _++[]=[]++fM fr (n+0) r _;rw [List.append_nil];rfl
 | n,q::rs=>by
  show fM fr n q _++eI fr (n+1) (rs++[r])=(fM fr n q _++eI fr (n+1) rs)++fM fr (n+ (rs.length+1)) r _
  rw [i6 fr r (n+1) rs,List.append_assoc,show n+1+rs.length=n+ (rs.length+1) by lia]
noncomputable def dq:List Frm->List Lk
 | []=>[]
 | fr::r=>eI fr 0 fr.rules++dq r
theorem i7 (fr:Frm): ∀ fs:List Frm,dq (fs++[fr])=dq fs++eI fr 0 fr.rules
 | []=>by show eI fr 0 fr.rules++[]=[]++_;rw [List.append_nil];rfl
 | q::r=>by
  show eI q 0 q.rules++dq (r++[fr])=(eI q 0 q.rules++dq r)++_
  rw [i7 fr r,List.append_assoc]
theorem gh {fr:Frm}: ∀ {n:Nat} {rs:List Rul} {l:Lk},l∈eI fr n rs->l.fr=fr/\n<=l.n/\l.n<n+rs.length/\rs[l.n-n]? =some l.r/\l.ks∈l.r.fm.rdk
 | n,[],l,h=>by cases h
 | n,r::rs,l,h=>by
  rcases List.mem_append.mp h with h | h
  ·obtain ⟨ks,hks,rfl⟩:=List.mem_map.mp h
   refine ⟨rfl,Nat.le_refl _,by rw [List.length_cons];show n<_;lia,?_,?_⟩
   ·show (r::rs)[n-n]? =some r
    rw [Nat.sub_self];rfl
   ·rcases dd_iff.mp hks with h | h
    ·cases h
    ·exact h
  ·obtain ⟨h1,h2,h3,h4,h5⟩:=gh h
   refine ⟨h1,by lia,by rw [List.length_cons];lia,?_,h5⟩
   rw [show l.n-n=(l.n- (n+1)) +1 by lia]
   exact h4
theorem iD: ∀ {fs:List Frm} {l:Lk},l∈dq fs->l.fr∈fs/\l.r∈l.fr.rules/\l.ks∈l.r.fm.rdk
 | [],l,h=>by cases h
 | fr::r,l,h=>by
  rcases List.mem_append.mp h with h | h
  ·obtain ⟨h1,_,_,h4,h5⟩:=gh h
   rw [h1]
   exact ⟨List.mem_cons_self,List.mem_of_getElem? h4,h5⟩
  ·obtain ⟨h1,h2,h3⟩:=iD h
   exact ⟨List.mem_cons_of_mem _ h1,h2,h3⟩
theorem vX: ∀ {rs acc:List (List Key)},acc.Nodup->(dd acc rs).Nodup
 | [],_,h=>h
 | x::r,acc,h=>by
  refine vX (rs:=r) ?_
  by_cases e:x∈acc
  ·rw [if_pos e];exact h
  ·rw [if_neg e,List.nodup_append]
   exact ⟨h,List.pairwise_singleton _ _,fun a ha b hb z=>e (by rw [List.mem_singleton]at hb;rw [<- hb,<- z];exact ha)⟩
theorem rA {fr:Frm}: ∀ (n:Nat) (rs:List Rul),((eI fr n rs).map Lk.stp).Nodup
 | n,[]=>List.nodup_nil
 | n,r::rs=>by
  show ((fM fr n r _++eI fr (n+1) rs).map Lk.stp).Nodup
  rw [List.map_append,List.nodup_append]
  refine ⟨?_,rA (n+1) rs,fun a ha b hb e=>?_⟩
  ·unfold fM
   rw [List.map_map]
   exact List.Pairwise.map _ (fun a b (hab:a≠b) e=>hab (congrArg Prod.fst e)) (vX (rs:=r.fm.rdk) (acc:=[]) List.nodup_nil)
  ·obtain ⟨l,hl,rfl⟩:=List.mem_map.mp ha
   obtain ⟨l',hl',rfl⟩:=List.mem_map.mp hb
   obtain ⟨ks,_,rfl⟩:=List.mem_map.mp hl
   obtain ⟨_,h2,_⟩:=gh hl'
   have:=Sum.inl.inj (congrArg (fun z:Stp=>z.2.2) e)
   have:(n:Int)=(l'.n:Int):=this
   lia
theorem rB: ∀ {fs:List Frm},(fs.map Frm.name).Nodup->((dq fs).map Lk.stp).Nodup
 | [],_=>List.nodup_nil
 | fr::r,h=>by
  obtain ⟨h1,h2⟩:=List.nodup_cons.mp h
  show ((eI fr 0 fr.rules++dq r).map Lk.stp).Nodup
  rw [List.map_append,List.nodup_append]
  refine ⟨rA 0 _,rB h2,fun a ha b hb e=>?_⟩
  obtain ⟨l,hl,rfl⟩:=List.mem_map.mp ha
  obtain ⟨l',hl',rfl⟩:=List.mem_map.mp hb
  have e1:=(gh hl).1
  have e2:=(iD hl').1
  have:=Sum.inr.inj (congrArg (fun z:Stp=>z.2.1) e)
  refine h1 ?_
  have this:l.fr.name=l'.fr.name:=this
  rw [<- e1,this]
  exact List.mem_map.mpr ⟨_,e2,rfl⟩
theorem iC {fr:Frm} (h: ∀ r∈fr.rules,r.fm.size<=15): ∀ (n:Nat) (rs:List Rul),(∀ r∈rs,r∈fr.rules)->(eI fr n rs).length<=15*rs.length
 | n,[],_=>Nat.zero_le _
 | n,r::rs,hs=>by
  have ih:=iC h (n+1) rs fun x hx=>hs x (List.mem_cons_of_mem _ hx)
  have h1:=gk (rs:=r.fm.rdk) (acc:=[])
  have h2:=dg r.fm
  have h3:=h r (hs r List.mem_cons_self)
  show (fM fr n r _++eI fr (n+1) rs).length<=15* (rs.length+1)
  unfold fM
  rw [List.length_append,List.length_map]
  rw [List.length_nil]at h1
  lia
theorem iE: ∀ {fs:List Frm},(∀ fr∈fs,(∀ r∈fr.rules,r.fm.size<=15)/\fr.rules.length<=12)->(dq fs).length<=180*fs.length
 | [],_=>Nat.zero_le _
 | fr::r,h=>by
  obtain ⟨h1,h2⟩:=h fr List.mem_cons_self
  have:=iC h1 0 fr.rules fun _ h=>h
  have ih:=iE fun x hx=>h x (List.mem_cons_of_mem _ hx)
  show (eI fr 0 fr.rules++dq r).length<=180* (r.length+1)
  rw [List.length_append]
  lia
noncomputable def kyL:List Key->Int×Str
 | [_,.inr x]=>(-1,x)
 | [_,.inl i,.inr x]=>(i,x)
 | _=>(0,Str.empty)
noncomputable def fI (fr:Frm) (i:Int):Str:=if i<0 then fr.own.name else ((fr.parts[i.toNat]?).map Srt.name).getD Str.empty
noncomputable def iI (fr:Frm) (i:Int):List Str:=((fr.parts[i.toNat]?).map Srt.downs).getD []
noncomputable def Lk.tw (l:Lk):Str×Str:=(fI l.fr l.r.pl,l.r.word)
noncomputable def Lk.rw_ (l:Lk):Str×Str:=(fI l.fr (kyL l.ks).1,(kyL l.ks).2)
noncomputable def gi (l:Lk):Bool:=
 if decide (kyL l.ks=(l.r.pl,l.r.word))then true
 else if decide (l.r.pl= -1)||(decide (-1< (kyL l.ks).1)&&decide ((kyL l.ks).1<l.r.pl))then false
 else if decide ((kyL l.ks).1= -1)then decide (kyL l.ks∈cP l.fr.own l.fr.parts)
 else decide ((kyL l.ks).1>l.r.pl)|| !decide (kyL l.ks∈cP l.fr.own l.fr.parts)
noncomputable def cA (l:Lk):Bool:=
 if l.r.pl<0 then decide (l.ks=[.inr "own",.inr l.r.word])
 else match l.ks with
  | [_,.inr x]=> !decide (x∈l.fr.own.downs)
  | [_,.inl i,.inr x]=>if i=l.r.pl then decide (x=l.r.word)|| !decide (x∈iI l.fr l.r.pl)else decide (i>l.r.pl)
  | _=>false
noncomputable def ik (l:Lk):Bool:=
 if l.r.pl<0 then (match l.ks with
  | [_,.inr x]=> !decide (x∈l.fr.own.downs)
  | _=>false)
 else match l.ks with
  | [_,.inl i,.inr x]=>decide (i=l.r.pl)&&decide (x∈iI l.fr l.r.pl)
  | _=>false
noncomputable def eS (l l':Lk):Bool:=decide (l.fr.name=l'.fr.name)&&(decide (l.r.pl=l'.r.pl)&&decide (kyL l.ks=(l'.r.pl,l'.r.word)))
noncomputable def fL (l l':Lk):Bool:=ik l&&(decide (l'.fr.name=l.fr.name)&&decide (l'.r.pl=l.r.pl))
structure LkOk (bk:Bk) (l:Lk):Prop where
 fr:l.fr∈bk.forms
 r:l.r∈l.fr.rules
 ks:RdT l.fr l.ks
theorem vA {bk:Bk} (hb:BkT bk) {m:Sz} {l:Lk} (h:l∈dq (bk.forms.filter (aM m))):LkOk bk l:=by
 obtain ⟨h1,h2,h3⟩:=iD h
 have hf:=(List.mem_filter.mp h1).1
 exact ⟨hf,h2,(hb.fr _ hf).rd _ h2 _ h3⟩
theorem LkOk.tg {bk:Bk} (hb:BkT bk) {l:Lk} (h:LkOk bk l):(l.r.pl= -1/\l.r.word∈l.fr.own.ups)\/ ∃ (j:Nat) (q:Srt),l.r.pl=(j:Int)/\l.fr.parts[j]? =some q/\l.r.word∈q.downs:=by
 refine tgts_iff.mp ?_
 rw [<- (hb.fr _ h.fr).tg]
 exact List.mem_map.mpr ⟨l.r,h.r,rfl⟩
theorem qQ {s:Srt} (h:zo s) {x:Str} (hx:x∈s.downs++s.ups):x∈s.ups↔x∉s.downs:=by
 have nd:=List.nodup_append.mp h.1
 constructor
 ·exact fun h1 h2=>nd.2.2 x h2 x h1 rfl
 ·exact fun h1=>(List.mem_append.mp hx).resolve_left h1
theorem xg {bk:Bk} (hb:BkT bk) {l:Lk} (h:LkOk bk l):gi l=cA l:=by
 obtain ⟨fr,r,n,ks⟩:=l
 have ho:=hb.g.so.2.2.2.2 _ (hb.g.ok _ h.fr).1
 have ht:=h.tg hb
 have hk:=h.ks
 simp only at ho ht hk
 unfold gi cA
 simp only
 rcases ht with ⟨e1,hw⟩ | ⟨j,q,e1,hq,hw⟩
 ·rw [e1,if_pos (show (-1:Int) <0 by decide)]
  rcases hk with ⟨x,rfl,hx⟩ | ⟨k,q,x,rfl,hq,hx⟩
  ·show (if decide (((-1:Int),x)=(-1,r.word))=true then true else if (decide ((-1:Int)= -1)||_)=true then false else _)=decide (([.inr "own",.inr x]:List Key)=[.inr "own",.inr r.word])
   by_cases c:x=r.word
   ·subst c;rw [if_pos (decide_eq_true rfl),decide_eq_true rfl]
   ·rw [if_neg (by rw [decide_eq_false (fun z=>c (congrArg Prod.snd z))];decide),show decide ((-1:Int)= -1)=true from rfl,Bool.true_or,if_pos rfl,decide_eq_false]
    intro z
    exact c (Sum.inr.inj (List.cons.inj (List.cons.inj z).2).1)
  ·show (if decide (((k:Int),x)=(-1,r.word))=true then true else if (decide ((-1:Int)= -1)||_)=true then false else _)=decide (([.inr "part",.inl (k:Int),.inr x]:List Key)=[.inr "own",.inr r.word])
   have hne:((k:Int),x)≠(-1,r.word):=fun z=>by have:=congrArg Prod.fst z;have this:(k:Int)= -1:=this;lia
   rw [if_neg (by rw [decide_eq_false hne];decide),show decide ((-1:Int)= -1)=true from rfl,Bool.true_or,if_pos rfl,decide_eq_false]
   intro z
   have:=congrArg List.length z
   cases this
 ·rw [if_neg (show ¬ (r.pl<0) by lia)]
  rcases hk with ⟨x,rfl,hx⟩ | ⟨k,q',x,rfl,hq',hx⟩
  ·show (if decide (((-1:Int),x)=(r.pl,r.word))=true then true else if (decide (r.pl= -1)||(decide ((-1:Int) < -1)&&decide ((-1:Int) <r.pl)))=true then false else if decide ((-1:Int)= -1)=true then decide (((-1:Int),x)∈cP fr.own fr.parts)else _)= !decide (x∈fr.own.downs)
   have hne:((-1:Int),x)≠(r.pl,r.word):=fun z=>by have:=congrArg Prod.fst z;have this:(-1:Int)=r.pl:=this;lia
   rw [if_neg (by rw [decide_eq_false hne];decide),if_neg (by rw [decide_eq_false (show ¬ r.pl= -1 by lia)];simp),if_pos (show decide ((-1:Int)= -1)=true from rfl)]
   have:(((-1:Int),x)∈cP fr.own fr.parts)↔ ¬ x∈fr.own.downs:=by
    rw [tgts_iff,<- qQ ho hx]
    constructor
    ·rintro (⟨_,h⟩ | ⟨j,_,e,_⟩)
     ·exact h
     ·lia
    ·exact fun h=>.inl ⟨rfl,h⟩
   rw [decide_eq_decide.mpr this,decide_not]
  ·show (if decide (((k:Int),x)=(r.pl,r.word))=true then true else if (decide (r.pl= -1)||(decide ((-1:Int) < (k:Int))&&decide ((k:Int) <r.pl)))=true then false else if decide ((k:Int)= -1)=true then _ else decide ((k:Int) >r.pl)|| !decide (((k:Int),x)∈cP fr.own fr.parts))=if (k:Int)=r.pl then decide (x=r.word)|| !decide (x∈iI fr r.pl)else decide ((k:Int) >r.pl)
   rw [decide_eq_false (show ¬ r.pl= -1 by lia),Bool.false_or,decide_eq_true (show (-1:Int) < (k:Int) by lia),Bool.true_and,decide_eq_false (show ¬ (k:Int)= -1 by lia)]
   by_cases c1:(k:Int)=r.pl
   ·have ekj:k=j:=by lia
    subst ekj
    rw [hq]at hq'
    cases hq'
    rw [if_pos c1]
    by_cases c2:x=r.word
    ·rw [decide_eq_true c2,decide_eq_true (show ((k:Int),x)=(r.pl,r.word) by rw [c1,c2]),if_pos rfl,Bool.true_or]
    ·rw [decide_eq_false c2,decide_eq_false (fun z=>c2 (congrArg Prod.snd z)),if_neg (by decide),decide_eq_false (show ¬ (k:Int) <r.pl by lia),if_neg (by decide),if_neg (by decide),decide_eq_false (show ¬ (k:Int) >r.pl by lia),Bool.false_or,Bool.false_or]
     have e:iI fr r.pl=q.downs:=by
      unfold iI
      rw [<- c1,Int.toNat_natCast,hq]
      rfl
     rw [e]
     have:(((k:Int),x)∈cP fr.own fr.parts)↔x∈q.downs:=by
      rw [tgts_iff]
      constructor
      ·rintro (⟨h,_⟩ | ⟨j',q2,e,h1,h2⟩)
       ·lia
       ·have:k=j':=by lia
        subst this
        rw [hq]at h1
        cases h1
        exact h2
      ·exact fun h=>.inr ⟨k,q,rfl,hq,h⟩
     rw [decide_eq_decide.mpr this]
   ·rw [if_neg c1,decide_eq_false (fun z=>c1 (congrArg Prod.fst z)),if_neg (by decide)]
    by_cases c3:(k:Int) <r.pl
    ·rw [decide_eq_true c3,if_pos rfl,decide_eq_false (show ¬ (k:Int) >r.pl by lia)]
    ·rw [decide_eq_false c3,if_neg (by decide),if_neg (by decide),decide_eq_true (show (k:Int) >r.pl by lia),Bool.true_or]
theorem wZ {bk:Bk} (hb:BkT bk) {l l':Lk} (h:LkOk bk l) (h':LkOk bk l') (hw:l.rw_=l'.tw):eS l l'=fL l l':=by
 obtain ⟨fr,r,n,ks⟩:=l
 obtain ⟨fr',r',n',ks'⟩:=l'
 have ho:=hb.g.so.2.2.2.2 _ (hb.g.ok _ h.fr).1
 have ht:=h.tg hb
 have ht':=h'.tg hb
 have hk:=h.ks
 have hx2:(kyL ks).2=r'.word:=congrArg Prod.snd hw
 have h1:=h.fr
 have h1':=h'.fr
 simp only at ho ht ht' hk h1 h1'
 unfold eS fL
 simp only
 by_cases cn:fr.name=fr'.name
 case neg=>rw [decide_eq_false cn,decide_eq_false (show ¬ fr'.name=fr.name from fun z=>cn z.symm),Bool.false_and,Bool.false_and,Bool.and_false]
 by_cases cp:r.pl=r'.pl
 case neg=>rw [decide_eq_false cp,decide_eq_false (show ¬ r'.pl=r.pl from fun z=>cp z.symm),Bool.false_and,Bool.and_false,Bool.and_false,Bool.and_false]
 have ef:fr=fr':=xt hb.g.nd h1 h1' cn
 subst ef
 rw [decide_eq_true (rfl:fr.name=fr.name),decide_eq_true cp,decide_eq_true cp.symm,Bool.true_and,Bool.true_and,Bool.true_and,Bool.and_true]
 unfold ik
 simp only
 rcases ht with ⟨e1,hw1⟩ | ⟨j,q,e1,hq,hw1⟩
 ·rw [if_pos (show r.pl<0 by lia)]
  have hup:r'.word∈fr.own.ups:=by
   rcases ht' with ⟨_,z⟩ | ⟨j,_,z,_⟩
   ·exact z
   ·lia
  rcases hk with ⟨x,rfl,hx⟩ | ⟨k,q,x,rfl,hq,hx⟩
  ·show decide (((-1:Int),x)=(r'.pl,r'.word))= !decide (x∈fr.own.downs)
   have hx2:x=r'.word:=hx2
   rw [decide_eq_true (show ((-1:Int),x)=(r'.pl,r'.word) by rw [<- cp,e1,hx2]),decide_eq_false ((qQ ho hx).mp (by rw [hx2];exact hup))]
   rfl
  ·show decide (((k:Int),x)=(r'.pl,r'.word))=false
   refine decide_eq_false fun z=>?_
   have:(k:Int)=r'.pl:=congrArg Prod.fst z
   lia
 ·rw [if_neg (show ¬ r.pl<0 by lia)]
  have hdn:r'.word∈q.downs:=by
   rcases ht' with ⟨z,_⟩ | ⟨j',q',z,z1,z2⟩
   ·lia
   ·have:j=j':=by lia
    subst this
    rw [hq]at z1
    cases z1
    exact z2
  have e:iI fr r.pl=q.downs:=by
   unfold iI
   rw [e1,Int.toNat_natCast,hq]
   rfl
  rcases hk with ⟨x,rfl,hx⟩ | ⟨k,q',x,rfl,hq',hx⟩
  ·show decide (((-1:Int),x)=(r'.pl,r'.word))=false
   refine decide_eq_false fun z=>?_
   have:(-1:Int)=r'.pl:=congrArg Prod.fst z
   lia
  ·show decide (((k:Int),x)=(r'.pl,r'.word))=(decide ((k:Int)=r.pl)&&decide (x∈iI fr r.pl))
   have hx2:x=r'.word:=hx2
   rw [e,hx2,decide_eq_true hdn,Bool.and_true,cp]
   refine decide_eq_decide.mpr ⟨fun z=>congrArg Prod.fst z,fun z=>by rw [z]⟩
noncomputable def bz {α:Type} (row:List α):List α:=row.drop 1++row.take 1
noncomputable def pz (row:List Lk):Bool:=((row.zip (bz row)).all fun p=>decide (p.1.rw_=p.2.tw))&&(row.any gi||(row.zip (bz row)).all fun p=>eS p.1 p.2)
noncomputable def cC (lks:List Lk) (s:Stp):Option Lk:=lks.find? fun l=>decide (l.stp=s)
noncomputable def qP (lks:List Lk) (ss:List Stp):Bool:=(!ss.isEmpty&&ss.all fun s=>(cC lks s).isSome)&&pz (ss.filterMap (cC lks))
theorem lE {lks:List Lk} {s:Stp} {l:Lk} (h:cC lks s=some l):l∈lks/\l.stp=s:=⟨List.mem_of_find?_eq_some h,by simpa using List.find?_some h⟩
theorem gJ {α:Type} {row:List α} {k:Nat} (h:k<row.length):(bz row)[k]? =row[(k+1) %row.length]? :=by
 unfold bz
 by_cases c:k+1<row.length
 ·rw [Nat.mod_eq_of_lt c,List.getElem?_append_left (by rw [List.length_drop];lia),List.getElem?_drop,Nat.add_comm]
 ·have e:k+1=row.length:=by lia
  rw [e,Nat.mod_self,List.getElem?_append_right (by rw [List.length_drop];lia),List.length_drop,show k- (row.length-1)=0 by lia,List.getElem?_take_of_lt (by decide)]
theorem oC {α:Type} (row:List α) (h:row≠[]):(bz row).length=row.length:=by
 unfold bz
 have:=List.length_pos_iff.mpr h
 rw [List.length_append,List.length_drop,List.length_take]
 lia
end My
namespace L2
open PySem PySem.Spec PyProof.Rows
theorem jg (l b:Addr) (items items2:Array Value) (n n2:Nat) (dd dd2:Option Addr) (sl sl2:Array (Option Value)) (x y:Value) (xs ys:List Value):
  Meets (Builtin.«tuple.__eq__» ⟨[.ref l,.ref b],[]⟩) (fun A R s=>s.heap.get? l=some {cls:=.type "tuple",dict:=dd,data:=.seq items n,slots:=sl}/\s.heap.get? b=some {cls:=.type "tuple",dict:=dd2,data:=.seq items2 n2,slots:=sl2}/\
   items.toList=x::xs/\items2.toList=y::ys/\SeqAt.EqAt A.in1 s x y false/\R (.ok (.ret (.bool false))) s):=
 .of_wp fun prog w A R s h=>by
  obtain ⟨hl,hb,hx,hy,he,h⟩:=h
  have hT:s.TypeIs (.ref b) "tuple":=⟨_,hb,rfl⟩
  show wpAny _ _ (isInstance (.ref b) (.type "tuple") >>= _) _ _ s
  refine wpAny_bind (wpAny_isInstance hT isSubtype_tuple_tuple ?_)
  simp only [Bool.not_true,Bool.false_eq_true,if_false]
  refine wpAny_bind (wpAny_tupleItemsOf hl rfl (wpAny_bind (wpAny_tupleItemsOf hb rfl (wpAny_bind ?_))))
  rw [hx,hy]
  show wpAny _ _ (forIn ((x,y)::xs.zip ys) (none,()) _) _ _ _
  rw [List.forIn_cons]
  refine wpAny_bind (wpAny_bind (he prog w _ _ ?_))
  simp only [Bool.not_false,if_true]
  exact wpAny_bind (wpAny_pure (wpAny_pure (wpAny_pure (wpAny_pure ⟨_,rfl,h⟩))))
section
variable {X:Cx}
theorem vH {A:Around} {s:Shared} {k l:Key} {v u:Value} (hv:RelV (kV k) v) (hu:RelV (kV l) u):SeqAt.EqAt A s v u (decide (k=l)):=
 fun prog w' E Q hq=>(bd prog w').eqBool (a:=k) (b:=l) (gj hv) (gj hu) hq
theorem eh: ∀ {ks:List Key} {us:List Value},Vals (ks.map kV) us->us.length=ks.length/\ ∀ (j:Nat) (h:j<us.length) (h2:j<ks.length),RelV (kV ks[j]) us[j]
 | [],_,.nil=>⟨rfl,fun j h _=>absurd h (Nat.not_lt_zero _)⟩
 | k::ks,_,.cons r t=>by
  obtain ⟨l,h⟩:=eh t
  refine ⟨by simp [l],fun j h1 h2=>?_⟩
  cases j with
  | zero=>exact r
  | succ j=>exact h j (Nat.lt_of_succ_lt_succ h1) (Nat.lt_of_succ_lt_succ h2)
theorem rO {p q:List Key}:((List.range (min p.length q.length)).all (fun j=>decide (p[j]? =q[j]?))&&p.length==q.length)=decide (p=q):=by
 by_cases e:p=q
 ·subst e
  rw [decide_eq_true rfl]
  simp
 ·rw [decide_eq_false e]
  cases hc:((List.range (min p.length q.length)).all (fun j=>decide (p[j]? =q[j]?))&&p.length==q.length)with
  | false=>rfl
  | true=>
   rw [Bool.and_eq_true]at hc
   have hl:p.length=q.length:=by simpa using hc.2
   refine absurd (List.ext_getElem? fun j=>?_) e
   by_cases hj:j<p.length
   ·have:=List.all_eq_true.mp hc.1 j (List.mem_range.mpr (by lia))
    simpa using this
   ·rw [List.getElem?_eq_none (by lia),List.getElem?_eq_none (by lia)]
theorem oM {A:Around} {s:Shared} {p q:List Key} {its its2:List Value} (r:Vals (p.map kV) its) (r2:Vals (q.map kV) its2) (j:Nat) (h1:j<its.toArray.size) (h2:j<its2.toArray.size):
  SeqAt.EqAt A s its.toArray[j] its2.toArray[j] (decide (p[j]? =q[j]?)):=by
 obtain ⟨l1,e1⟩:=eh r
 obtain ⟨l2,e2⟩:=eh r2
 have h1':j<its.length:=by simpa using h1
 have h2':j<its2.length:=by simpa using h2
 simp only [List.getElem_toArray]
 rw [List.getElem?_eq_getElem (by lia),List.getElem?_eq_getElem (by lia),show decide (some (p[j]'(by lia))=some (q[j]'(by lia)))=decide (p[j]'(by lia)=q[j]'(by lia))from decide_eq_decide.mpr ⟨fun e=>Option.some.inj e,fun e=>by rw [e]⟩]
 exact vH (e1 j h1' (by lia)) (e2 j h2' (by lia))
def zR (b:Bool):R2:=fun x y H Q=> ∃ (a c:Addr) (p q:List Key),x=.ref a/\y=.ref c/\H a=some (.tup (p.map kV))/\H c=some (.tup (q.map kV))/\Q (.bl (if b then decide (p=q)else !decide (p=q))) H
theorem j2 (hu:X.A.units<cLine):OpR X (compareOp .Eq) (zR true):=by
 intro pins s Z H x y v u Q I rx ry h
 obtain ⟨a,b,p,q,rfl,rfl,ha,hb,hq⟩:=h
 cases rx
 cases ry
 obtain ⟨its,r,pl,_⟩:=I.seqS (c:=true) ha
 obtain ⟨its2,r2,pl2,_⟩:=I.seqS (c:=true) hb
 have l1:=(eh r).1
 have l2:=(eh r2).1
 refine SeqAt.RcAt.tuples (e:=fun j=>decide (p[j]? =q[j]?)) pl pl2 hu (fun j h1 h2=>oM r r2 j h1 h2) X.prog X.w X.xe _ ⟨.bl (decide (p=q)),H,I,?_,hq⟩
 show Value.bool _=Value.bool _
 rw [<- rO,<- l1,<- l2]
 simp
theorem yz (hu:X.A.units<cLine):OpR X (compareOp .NotEq) (zR false):=by
 intro pins s Z H x y v u Q I rx ry h
 obtain ⟨a,b,p,q,rfl,rfl,ha,hb,hq⟩:=h
 cases rx
 cases ry
 obtain ⟨its,r,pl,_⟩:=I.seqS (c:=true) ha
 obtain ⟨its2,r2,pl2,_⟩:=I.seqS (c:=true) hb
 have l1:=(eh r).1
 have l2:=(eh r2).1
 refine SeqAt.RcNeAt.tuples (e:=fun j=>decide (p[j]? =q[j]?)) pl pl2 hu (fun j h1 h2=>oM r r2 j h1 h2) X.prog X.w X.xe _ ⟨.bl (!decide (p=q)),H,I,?_,hq⟩
 show Value.bool _=Value.bool _
 rw [<- rO,<- l1,<- l2]
 simp
def AF:R2:=fun x y H Q=> ∃ (a b:Addr) (n m:Str) (r t:List V),x=.ref a/\y=.ref b/\H a=some (.tup (.str n::r))/\H b=some (.tup (.str m::t))/\(n=m->a=b)/\(∀ v∈r,(∃ z,v=.str z)\/ ∃ c,v=.ref c)/\Q (.bl (decide (n=m))) H
theorem yC (hu:X.A.units<cLine):OpR X (compareOp .Eq) AF:=by
 intro pins s Z H x y v u Q I rx ry h
 obtain ⟨a,b,n,m,r,t,rfl,rfl,ha,hb,hab,hr,hq⟩:=h
 cases rx
 cases ry
 obtain ⟨its,rv,pl,_⟩:=I.seqS (c:=true) ha
 obtain ⟨its2,rv2,pl2,_⟩:=I.seqS (c:=true) hb
 by_cases e:n=m
 ·have eab:=hab e
  subst eab
  rw [ha]at hb
  cases hb
  rw [decide_eq_true e]at hq
  refine SeqAt.RcAt.tuples (e:=fun _=>true) pl pl hu (fun j h1 h2=>?_) X.prog X.w X.xe _ ⟨.bl true,H,I,?_,hq⟩
  ·exact SeqAt.EqAt.same _
  ·show Value.bool _=Value.bool _
   simp
 ·rw [decide_eq_false e]at hq
  cases rv with
  | @cons _ u1 _ us r1 rs=>
  cases rv2 with
  | @cons _ u2 _ us2 r2 rs2=>
  obtain ⟨t1,rfl⟩:=(show ∃ t,u1=Value.str n t from r1)
  obtain ⟨t2,rfl⟩:=(show ∃ t,u2=Value.str m t from r2)
  obtain ⟨⟨cls,dd,data,sl⟩,ho,hc,k1,hd⟩:=id pl
  obtain ⟨⟨cls2,dd2,data2,sl2⟩,ho2,hc2,k2,hd2⟩:=id pl2
  simp only at hc hd hc2 hd2
  subst hc hd hc2 hd2
  have h0:SeqAt.EqAt X.A.in1 s (Value.str n t1) (Value.str m t2) false:=by
   have:=SeqAt.EqAt.str_str (A:=X.A.in1) (s:=s) n t1 m t2
   rw [show (n==m)=false from beq_eq_false_iff_ne.mpr e]at this
   exact this
  exact richCompare_meets_room (op:=.Eq) ⟨_,ho,rfl⟩ ⟨_,ho2,rfl⟩ F.slot_tuple_eq F.entry_tuple_eq (F.args_tuple_eq_2 _ _) (jg a b _ _ _ _ dd dd2 sl sl2 _ _ us us2)
   ⟨ho,ho2,by simp,by simp,h0,(show Value.bool false≠Value.notImplemented/\_ from ⟨(fun x=>nomatch x),⟨.bl false,H,I,rfl,hq⟩⟩)⟩ hu
end
end L2
namespace My
open PySem L2
def RepK3 (H:Hp) (k:Stp) (v:V):Prop:= ∃ b c,v=.ref b/\H b=some (.tup [kV k.2.1,kV k.2.2,.ref c])/\H c=some (.tup (k.1.map kV))
theorem RepK3.mono {H H':Hp} (t:TK H H') {k:Stp} {v:V}:RepK3 H k v->RepK3 H' k v:=fun ⟨b,c,e,h1,h2⟩=>⟨b,c,e,t _ _ h1,t _ _ h2⟩
structure RepLk (H:Hp) (F:Str->V) (l:Lk) (v:V):Prop where
 ex: ∃ a p q,v=.ref a/\H a=some (.tup [F l.fr.name,.ref p,.ref q])/\H p=some (.tup [.int l.r.pl,.str l.r.word])/\H q=some (.tup [.int (kyL l.ks).1,.str (kyL l.ks).2])
 fr:RepF H l.fr (F l.fr.name)
theorem RepLk.mono {H H':Hp} {F:Str->V} (t:TK H H') {l:Lk} {v:V} (h:RepLk H F l v):RepLk H' F l v:=⟨let ⟨a,p,q,e,h1,h2,h3⟩:=h.ex;⟨a,p,q,e,t _ _ h1,t _ _ h2,t _ _ h3⟩,h.fr.mono t⟩
def ur:Sp:=fun vs H Q _=> ∃ (v:V) (q:Addr) (fr:Frm) (i:Int) (x:Str),vs=[v,.ref q]/\RepF H fr v/\H q=some (.tup [.int i,.str x])/\(i= -1\/ ∃ (j:Nat) (s:Srt),i=(j:Int)/\fr.parts[j]? =some s)/\ ∀ p H',Same H H'->H' p=some (.tup [.str (fI fr i),.str x])->Q (.ref p) H'
def qR (bk:Bk):Sp:=fun vs H Q _=> ∃ (v:V) (F:Str->V) (l:Lk),vs=[v]/\RepLk H F l v/\BkT bk/\LkOk bk l/\ ∀ p H',Same H H'->H' p=some (.tup [.str l.tw.1,.str l.tw.2])->Q (.ref p) H'
def qS (bk:Bk):Sp:=fun vs H Q _=> ∃ (v:V) (F:Str->V) (l:Lk),vs=[v]/\RepLk H F l v/\BkT bk/\LkOk bk l/\ ∀ p H',Same H H'->H' p=some (.tup [.str l.rw_.1,.str l.rw_.2])->Q (.ref p) H'
def nU (bk:Bk):Sp:=fun vs H Q _=> ∃ (v:V) (F:Str->V) (l:Lk),vs=[v]/\RepLk H F l v/\BkT bk/\LkOk bk l/\ ∀ H',Same H H'->Q (.bl (gi l)) H'
def qT (bk:Bk):Sp:=fun vs H Q _=> ∃ (v v':V) (F:Str->V) (l l':Lk),vs=[v,v']/\RepLk H F l v/\RepLk H F l' v'/\BkT bk/\LkOk bk l/\LkOk bk l'/\ ∀ H',Same H H'->Q (.bl (eS l l')) H'
theorem Aa {fr:Frm} {ks:List Key} (h:RdT fr ks):(kyL ks).1= -1\/ ∃ (j:Nat) (s:Srt),(kyL ks).1=(j:Int)/\fr.parts[j]? =some s:=by
 rcases h with ⟨x,rfl,_⟩ | ⟨k,q,x,rfl,hq,_⟩
 ·exact .inl rfl
 ·exact .inr ⟨k,q,rfl,hq⟩
theorem zz {bk:Bk} (hb:BkT bk) {l:Lk} (h:LkOk bk l):l.r.pl= -1\/ ∃ (j:Nat) (s:Srt),l.r.pl=(j:Int)/\l.fr.parts[j]? =some s:=by
 rcases h.tg hb with ⟨e,_⟩ | ⟨j,q,e,h1,_⟩
 ·exact .inl e
 ·exact .inr ⟨j,q,e,h1⟩
theorem jh: ∀ (k:Int) (qs:List Srt),(∀ s∈qs,zo s)->(cL k qs).length<=3*qs.length
 | _,[],_=>Nat.le_refl _
 | k,q::r,h=>by
  show (q.downs.map (fun x=>(k,x))++cL (k+1) r).length<=3* (r.length+1)
  have h1:=jh (k+1) r fun s hs=>h s (List.mem_cons_of_mem _ hs)
  have h2:=(h q List.mem_cons_self).2.2.1
  rw [List.length_append,List.length_map]
  lia
theorem eM {bk:Bk} (hb:BkT bk) {fr:Frm} (h:fr∈bk.forms):fr.rules.length<=12:=by
 have hl:fr.rules.length=(cP fr.own fr.parts).length:=by rw [<- (hb.fr fr h).tg,List.length_map]
 obtain ⟨h1,h2,h3⟩:=hb.g.ok fr h
 rw [hl]
 have e1:=jh 0 fr.parts fun s hs=>hb.g.so.2.2.2.2 s (h2 s hs)
 have e2:=(hb.g.so.2.2.2.2 _ h1).2.2.2
 unfold cP
 rw [List.length_append,List.length_map]
 lia
theorem xQ (i j:Int) (x y:Str):decide (([.inl i,.inr x]:List Key)=[.inl j,.inr y])=decide ((i,x)=(j,y)):=decide_eq_decide.mpr ⟨fun e=>by
  have h1:=Sum.inl.inj (List.cons.inj e).1
  have h2:=Sum.inr.inj (List.cons.inj (List.cons.inj e).2).1
  rw [h1,h2],fun e=>by rw [show i=j from congrArg Prod.fst e,show x=y from congrArg Prod.snd e]⟩
theorem yM {o:Srt} {qs:List Srt} (i:Int) (x:Str):decide (([.inl i,.inr x]:List Key)∈(cP o qs).map nJ)=decide ((i,x)∈cP o qs):=by
 refine decide_eq_decide.mpr ⟨fun h=>?_,fun h=>List.mem_map.mpr ⟨(i,x),h,rfl⟩⟩
 obtain ⟨⟨j,y⟩,ht,e⟩:=List.mem_map.mp h
 have h1:=Sum.inl.inj (List.cons.inj e).1
 have h2:=Sum.inr.inj (List.cons.inj (List.cons.inj e).2).1
 have h1:j=i:=h1
 have h2:y=x:=h2
 rw [<- h1,<- h2]
 exact ht
section
variable {P:Program} {w:World} {K:W.Frag} {mg:Str->Option Value} {base:Heap} {f f2 f3 f4 f5 f6:Addr} {fd fd2 fd3 fd4 fd5 fd6:FuncData} {bk:Bk}
theorem zH:aB ["form","key"] ["form","key"] (ag mi):=fsc
theorem yF (F:Fun K "worth_at_key" "worth_at_key" mi f fd)
  (GS:FnOk P w K mg base CX0 2 f2 fd2 ["form","at"] nO) (bS:Binds K fd2 ["form","at"] []) (kS:W.keepIn K (.ref f2)=true) (mS:mg "sort_at"=some (.ref f2)):FnOk P w K mg base CX0 3 f fd ["form","key"] ur:=by
 refine F.ok zH (fun vs H Q E h=>?_) (fun cdv A outer s H vs Q E hr h=>?_)
 ·obtain ⟨v,q,fr,i,x,rfl,_⟩:=h
  rfl
 obtain ⟨v,qa,fr,i,x,rfl,hF,hq,hi,q⟩:=h
 refine ⟨_,ai (ax (aP (aa (ak GS hr rfl mS kS bS .nil av (aa (pv 0) (aa (ao (r:=aC K) al (pv 1) ad (fun _ _=>rfl)) ac))) (aa (ao (r:=aC K) al (pv 1) ad (fun _ _=>rfl)) ac)))),?_⟩
 have go: ∀ s:Srt,((i= -1/\s=fr.own)\/(0<=i/\fr.parts[i.toNat]? =some s))->s.name=fI fr i:=by
  rintro s (⟨rfl,rfl⟩ | ⟨h0,hs⟩)
  ·rfl
  ·unfold fI
   rw [if_neg (by lia),hs]
   rfl
 obtain ⟨sr,hsr⟩: ∃ s:Srt,(i= -1/\s=fr.own)\/(0<=i/\fr.parts[i.toNat]? =some s):=by
  rcases hi with e | ⟨j,s,e,hs⟩
  ·exact ⟨fr.own,.inl ⟨e,rfl⟩⟩
  ·exact ⟨s,.inr ⟨by lia,by rw [e,Int.toNat_natCast];exact hs⟩⟩
 refine ⟨_,rfl,_,rfl,qa,_,0,.int i,rfl,rfl,SqT.of hq,bi,v,fr,i,sr,rfl,hF,hsr,?_⟩
 refine ⟨_,rfl,qa,_,1,.str x,rfl,rfl,SqT.of hq,ar (j:=1) rfl,(by show 2<=sizeLine;decide),fun p hp=>?_⟩
 rw [go sr hsr]
 exact q p _ (af hp _) ab
theorem wD:aB ["link"] ["link"] (ag pI):=fsc
theorem uZ (F:Fun K "worth_told" "worth_told" pI f fd)
  (GW:FnOk P w K mg base CX0 3 f2 fd2 ["form","key"] ur) (bW:Binds K fd2 ["form","key"] []) (kW:W.keepIn K (.ref f2)=true) (mW:mg "worth_at_key"=some (.ref f2)):FnOk P w K mg base CX0 4 f fd ["link"] (qR bk):=by
 refine F.ok wD (fun vs H Q E h=>?_) (fun cdv A outer s H vs Q E hr h=>?_)
 ·obtain ⟨v,F',l,rfl,_⟩:=h
  rfl
 obtain ⟨v,F',l,rfl,⟨⟨a,p,q',rfl,ha,hp,hq⟩,hF⟩,hb,hl,q⟩:=h
 refine ⟨_,ai (ax (ak GW hr rfl mW kW bW .nil av (aa (ao (r:=aC K) al (pv 0) ad (fun _ _=>rfl)) (aa (ao (r:=aC K) al (pv 0) ad (fun _ _=>rfl)) ac)))),?_⟩
 exact ⟨_,rfl,a,_,0,_,rfl,rfl,SqT.of ha,bi,_,rfl,a,_,1,.ref p,rfl,rfl,SqT.of ha,ar (j:=1) rfl,_,p,l.fr,l.r.pl,l.r.word,rfl,hF,hp,zz hb hl,q⟩
theorem wE:aB ["link"] ["link"] (ag pJ):=fsc
theorem u0 (F:Fun K "worth_read" "worth_read" pJ f fd)
  (GW:FnOk P w K mg base CX0 3 f2 fd2 ["form","key"] ur) (bW:Binds K fd2 ["form","key"] []) (kW:W.keepIn K (.ref f2)=true) (mW:mg "worth_at_key"=some (.ref f2)):FnOk P w K mg base CX0 4 f fd ["link"] (qS bk):=by
 refine F.ok wE (fun vs H Q E h=>?_) (fun cdv A outer s H vs Q E hr h=>?_)
 ·obtain ⟨v,F',l,rfl,_⟩:=h
  rfl
 obtain ⟨v,F',l,rfl,⟨⟨a,p,q',rfl,ha,hp,hq⟩,hF⟩,hb,hl,q⟩:=h
 refine ⟨_,ai (ax (ak GW hr rfl mW kW bW .nil av (aa (ao (r:=aC K) al (pv 0) ad (fun _ _=>rfl)) (aa (ao (r:=aC K) al (pv 0) ad (fun _ _=>rfl)) ac)))),?_⟩
 exact ⟨_,rfl,a,_,0,_,rfl,rfl,SqT.of ha,bi,_,rfl,a,_,2,.ref q',rfl,rfl,SqT.of ha,ar (j:=2) rfl,_,q',l.fr,(kyL l.ks).1,(kyL l.ks).2,rfl,hF,hq,Aa hl.ks,q⟩
theorem wF:aB ["one","other"] ["one","other"] (ag gY):=fsc
theorem u7 (F:Fun K "is_read_there" "is_read_there" gY f fd):FnOk P w K mg base CX0 1 f fd ["one","other"] (qT bk):=by
 refine F.ok wF (fun vs H Q E h=>?_) (fun cdv A outer s H vs Q E hr h=>?_)
 ·obtain ⟨v,v',F',l,l',rfl,_⟩:=h
  rfl
 obtain ⟨v,v',F',l,l',rfl,⟨⟨a,p,q1,rfl,ha,hp,hq⟩,hF⟩,⟨⟨a',p',q1',rfl,ha',hp',hq'⟩,hF'⟩,hb,hl,hl',q⟩:=h
 have hu0:=hr.units0
 refine ⟨_,ai (ax (eV (a7 (yC hu0) (ao (r:=aC K) al (pv 0) ad (fun _ _=>rfl)) (ao (r:=aC K) al (pv 1) ad (fun _ _=>rfl)) (ay _))
  (eV (a7 bq (ao (r:=aC K) al (ao (r:=aC K) al (pv 0) ad (fun _ _=>rfl)) ad (fun _ _=>rfl)) (ao (r:=aC K) al (ao (r:=aC K) al (pv 1) ad (fun _ _=>rfl)) ad (fun _ _=>rfl)) (ay _))
  (dZ (a7 (j2 hu0) (ao (r:=aC K) al (pv 0) ad (fun _ _=>rfl)) (ao (r:=aC K) al (pv 1) ad (fun _ _=>rfl)) (ay _)))))),?_⟩
 have q:=q H (Same.refl H)
 unfold eS at q
 obtain ⟨b,pa,ra,rv,e,hbb,_⟩:=hF
 obtain ⟨b',pa',ra',rv',e',hbb',_⟩:=hF'
 refine ⟨_,rfl,a,_,0,_,rfl,rfl,SqT.of ha,bi,_,rfl,a',_,0,_,rfl,rfl,SqT.of ha',bi,?_⟩
 refine ⟨b,b',l.fr.name,l'.fr.name,_,_,e,e',hbb,hbb',fun z=>by rw [z,e']at e;cases e;rfl,?_,_,rfl,?_⟩
 ·intro v hv
  simp only [List.mem_cons,List.not_mem_nil,or_false]at hv
  rcases hv with rfl | rfl | rfl
  ·exact .inl ⟨_,rfl⟩
  ·exact .inr ⟨_,rfl⟩
  ·exact .inr ⟨_,rfl⟩
 by_cases c1:l.fr.name=l'.fr.name
 case neg=>
  rw [decide_eq_false c1]at q ⊢
  exact bh q
 rw [decide_eq_true c1]at q ⊢
 refine bt ⟨_,rfl,a,_,1,_,rfl,rfl,SqT.of ha,ar (j:=1) rfl,p,_,0,_,rfl,rfl,SqT.of hp,bi,_,rfl,a',_,1,_,rfl,rfl,SqT.of ha',ar (j:=1) rfl,p',_,0,_,rfl,rfl,SqT.of hp',bi,rfl,_,rfl,?_⟩
 have ed:decide (V.int l.r.pl=V.int l'.r.pl)=decide (l.r.pl=l'.r.pl):=decide_eq_decide.mpr ⟨fun z=>V.int.inj z,fun z=>by rw [z]⟩
 rw [ed]
 by_cases c2:l.r.pl=l'.r.pl
 case neg=>
  rw [decide_eq_false c2]at q ⊢
  exact bh q
 rw [decide_eq_true c2]at q ⊢
 refine bt ⟨_,rfl,a,_,2,_,rfl,rfl,SqT.of ha,ar (j:=2) rfl,_,rfl,a',_,1,_,rfl,rfl,SqT.of ha',ar (j:=1) rfl,q1,p',[.inl (kyL l.ks).1,.inr (kyL l.ks).2],[.inl l'.r.pl,.inr l'.r.word],rfl,rfl,hq,hp',?_⟩
 rw [if_pos rfl,xQ]
 exact q
theorem scIsLate:aB ["link","at","read"] ["link"] (ag mv):=fsc
theorem sX (F:Fun K "is_late" "is_late" mv f fd)
  (GK:FnOk P w K mg base CX0 2 f2 fd2 ["form"] nT) (bK:Binds K fd2 ["form"] []) (kK:W.keepIn K (.ref f2)=true) (mK:mg "keys_of"=some (.ref f2)):FnOk P w K mg base CX0 3 f fd ["link"] (nU bk):=by
 refine F.ok scIsLate (fun vs H Q E h=>?_) (fun cdv A outer s H vs Q E hr h=>?_)
 ·obtain ⟨v,F',l,rfl,_⟩:=h
  rfl
 obtain ⟨v,F',l,rfl,⟨⟨a,p,q1,rfl,ha,hp,hq⟩,hF⟩,hb,hl,q⟩:=h
 have hu:=cF hr
 have hu0:=hr.units0
 have hu1: ∀ {n:Nat},n+16<cLine->n+1<cLine:=fun h=>Nat.lt_of_le_of_lt (Nat.add_le_add_left (by decide:1<=16) _) h
 refine ⟨_,ae (aq (i:=1) scIsLate.nd rfl (Or.inl rfl) (ao (r:=aC K) al (ao (r:=aC K) al (pv 0) ad (fun _ _=>rfl)) ad (fun _ _=>rfl)))
  (ae (aq (i:=2) scIsLate.nd rfl (Or.inl rfl) (ao (r:=aC K) al (pv 0) ad (fun _ _=>rfl)))
  (ae (aY (aw (j2 hu0) (pv 2) (ao (r:=aC K) al (pv 0) ad (fun _ _=>rfl)) (ay _)) (ai (ax eg)) aK)
  (ae (aY (PW.pt (jU (aw bq (pv 1) (dY c7 ad) (ay _)) (hU (uN fK fK (dY c7 ad) (ao (r:=aC K) al (pv 2) ad (fun _ _=>rfl)) (pv 1))))) (ai (ax eg)) aK)
  (ae (aY (aw bq (ao (r:=aC K) al (pv 2) ad (fun _ _=>rfl)) (dY c7 ad) (ay _))
   (ai (ax (a7 (j1 (hu1 hu)) (pv 2) (ak GK hr rfl mK kK bK .nil av (aa (ao (r:=aC K) al (pv 0) ad (fun _ _=>rfl)) ac)) (by with_unfolding_all rfl)))) aK)
  (ai (ax (rh (a7 iB (ao (r:=aC K) al (pv 2) ad (fun _ _=>rfl)) (pv 1) (ay _)) (dZ (a7 (jl (hu1 hu)) (pv 2) (ak GK hr rfl mK kK bK .nil av (aa (ao (r:=aC K) al (pv 0) ad (fun _ _=>rfl)) ac)) (by with_unfolding_all rfl)))))))))),?_⟩
 have ed: ∀ i j:Int,decide (V.int i=V.int j)=decide (i=j):=fun i j=>decide_eq_decide.mpr ⟨fun z=>V.int.inj z,fun z=>by rw [z]⟩
 have h12:=eM hb hl.fr
 have htg:=(hb.fr _ hl.fr).tg
 unfold gi at q
 refine ⟨_,rfl,a,_,1,.ref p,rfl,rfl,SqT.of ha,ar (j:=1) rfl,p,_,0,.int l.r.pl,rfl,rfl,SqT.of hp,bi,?_⟩
 refine ⟨_,rfl,a,_,2,.ref q1,rfl,rfl,SqT.of ha,ar (j:=2) rfl,?_⟩
 refine ⟨_,rfl,_,rfl,a,_,1,.ref p,rfl,rfl,SqT.of ha,ar (j:=1) rfl,q1,p,[.inl (kyL l.ks).1,.inr (kyL l.ks).2],[.inl l.r.pl,.inr l.r.word],rfl,rfl,hq,hp,_,rfl,?_⟩
 rw [if_pos rfl,xQ]
 by_cases c1:kyL l.ks=(l.r.pl,l.r.word)
 ·have e:decide (((kyL l.ks).1,(kyL l.ks).2)=(l.r.pl,l.r.word))=true:=decide_eq_true c1
  rw [e]
  rw [decide_eq_true c1,if_pos rfl]at q
  exact bt (q H (Same.refl H))
 have e:decide (((kyL l.ks).1,(kyL l.ks).2)=(l.r.pl,l.r.word))=false:=decide_eq_false c1
 rw [e]
 rw [decide_eq_false c1,if_neg Bool.false_ne_true]at q
 refine bh ⟨_,rfl,1,rfl,rfl,_,rfl,?_⟩
 rw [ed]
 by_cases c2:l.r.pl= -1
 ·rw [decide_eq_true c2]
  rw [decide_eq_true c2,Bool.true_or,if_pos rfl]at q
  exact bt (bt (q H (Same.refl H)))
 rw [decide_eq_false c2]
 rw [decide_eq_false c2,Bool.false_or]at q
 refine bh ⟨1,rfl,_,rfl,q1,_,0,.int (kyL l.ks).1,rfl,rfl,SqT.of hq,bi,-1,_,rfl,rfl,_,rfl,?_⟩
 have fin: ∀ (b:Bool) (zs:List V) (H1:Hp),Same H H1->KsOf H1 zs ((l.fr.rules.map fun r=>(r.pl,r.word)).map nJ)->(if b=true then !decide (([.inl (kyL l.ks).1,.inr (kyL l.ks).2]:List Key)∈(l.fr.rules.map fun r=>(r.pl,r.word)).map nJ)else decide (([.inl (kyL l.ks).1,.inr (kyL l.ks).2]:List Key)∈(l.fr.rules.map fun r=>(r.pl,r.word)).map nJ))=if b=true then !decide (kyL l.ks∈cP l.fr.own l.fr.parts)else decide (kyL l.ks∈cP l.fr.own l.fr.parts):=fun b zs H1 _ _=>by
  rw [htg,yM]
 by_cases c3: -1< (kyL l.ks).1
 rw [decide_eq_true c3]
 rw [decide_eq_true c3,Bool.true_and]at q
 refine bt ⟨_,rfl,_,_,rfl,rfl,_,rfl,?_⟩
 by_cases c4:(kyL l.ks).1<l.r.pl
 ·rw [decide_eq_true c4]
  rw [decide_eq_true c4,if_pos rfl]at q
  exact bt (q H (Same.refl H))
 rw [decide_eq_false c4]
 rw [decide_eq_false c4,if_neg Bool.false_ne_true]at q
 refine bh ?_
 rotate_left
 rw [decide_eq_false c3]
 rw [decide_eq_false c3,Bool.false_and,if_neg Bool.false_ne_true]at q
 refine bh ⟨_,rfl,bh ?_⟩
 all_goals
  refine ⟨_,rfl,q1,_,0,.int (kyL l.ks).1,rfl,rfl,SqT.of hq,bi,1,rfl,rfl,_,rfl,?_⟩
  rw [ed]
  by_cases c5:(kyL l.ks).1= -1
  ·rw [decide_eq_true c5]
   rw [decide_eq_true c5,if_pos rfl]at q
   refine bt ⟨_,rfl,_,rfl,a,_,0,_,rfl,rfl,SqT.of ha,bi,_,l.fr,rfl,hF,h12,fun pk zs H1 hpk s1 gpk hks=>?_⟩
   refine ⟨q1,pk,[.inl (kyL l.ks).1,.inr (kyL l.ks).2],zs,_,rfl,rfl,s1 _ _ hq,SqL.of gpk,hks,?_⟩
   have e6:=fin false zs H1 s1 hks
   rw [if_neg Bool.false_ne_true,if_neg Bool.false_ne_true]at e6
   have q':=q H1 s1
   rw [<- e6]at q'
   exact q'
  ·rw [decide_eq_false c5]
   rw [decide_eq_false c5,if_neg Bool.false_ne_true]at q
   refine bh ⟨_,rfl,q1,_,0,.int (kyL l.ks).1,rfl,rfl,SqT.of hq,bi,_,rfl,_,_,rfl,rfl,_,rfl,?_⟩
   by_cases c6:(kyL l.ks).1>l.r.pl
   ·rw [decide_eq_true c6]
    rw [decide_eq_true c6,Bool.true_or]at q
    exact bt (q H (Same.refl H))
   ·rw [decide_eq_false c6]
    rw [decide_eq_false c6,Bool.false_or]at q
    refine bh ⟨_,rfl,_,rfl,a,_,0,_,rfl,rfl,SqT.of ha,bi,_,l.fr,rfl,hF,h12,fun pk zs H1 hpk s1 gpk hks=>?_⟩
    refine ⟨q1,pk,[.inl (kyL l.ks).1,.inr (kyL l.ks).2],zs,_,rfl,rfl,s1 _ _ hq,SqL.of gpk,hks,?_⟩
    have e6:=fin true zs H1 s1 hks
    rw [if_pos rfl,if_pos rfl]at e6
    have q':=q H1 s1
    rw [<- e6]at q'
    exact q'
end
theorem lj {κ:Type} [DecidableEq κ] {kvs:List (κ×V)} {k:κ} {v:V} (h:k∉kvs.map (·.1)):cz kvs k v=kvs++[(k,v)]:=by
 unfold cz
 rw [if_neg fun z=>by
  obtain ⟨kv,h1,h2⟩:=List.any_eq_true.mp z
  exact h (List.mem_map.mpr ⟨kv,h1,of_decide_eq_true h2⟩)]
theorem yT {α:Type} {l:List α} (nd:l.Nodup) {i j:Nat} {a:α} (h1:l[i]? =some a) (h2:l[j]? =some a):i=j:=
 (List.getElem?_inj (List.getElem?_eq_some_iff.mp h1).1 nd).mp (h1.trans h2.symm)
theorem jE {α:Type} {l:List α} (nd:l.Nodup) {i:Nat} {a:α} (h:l[i]? =some a):a∉l.take i:=fun hm=>by
 obtain ⟨j,hj⟩:=List.getElem?_of_mem hm
 have hlt:j<i:=by
  have:=(List.getElem?_eq_some_iff.mp hj).1
  rw [List.length_take]at this
  lia
 rw [List.getElem?_take,if_pos hlt]at hj
 have:=yT nd hj h
 lia
theorem cg {α:Type} {l:List α} {n:Nat} {x:α} (h:l[n]? =some x):l.take (n+1)=l.take n++[x]:=by rw [List.take_add_one,h];rfl
theorem iV {n:Nat} (h:n<=4000):n<sizeLine:=Nat.lt_of_le_of_lt h (by decide)
theorem i3: ∀ {f:Fm},f.wf-> ∀ ks∈f.rdk,RK ks
 | .num _,_,_,h=>by cases h
 | .own x,wf,ks,h=>.inl ⟨x,List.mem_singleton.mp h,fu wf⟩
 | .part k x,wf,ks,h=>.inr ⟨k,x,List.mem_singleton.mp h,fu wf.2⟩
 | .bin _ a b,wf,ks,h=>(List.mem_append.mp h).elim (i3 wf.2.1 ks) (i3 wf.2.2 ks)
 | .whn a b c,wf,ks,h=>(List.mem_append.mp h).elim (i3 wf.1 ks) fun h=>(List.mem_append.mp h).elim (i3 wf.2.1 ks) (i3 wf.2.2 ks)
def LkE (H:Hp) (F:Str->V) (l:Lk) (kv:Stp×V):Prop:=kv.1=l.stp/\RepLk H F l kv.2
theorem LkE.mono {H H':Hp} {F:Str->V} (t:TK H H') {l:Lk} {kv:Stp×V} (h:LkE H F l kv):LkE H' F l kv:=⟨h.1,h.2.mono t⟩
theorem oG {H:Hp} {F:Str->V}: ∀ {ls:List Lk} {kvs:List (Stp×V)},Paired (LkE H F) ls kvs->kvs.map (·.1)=ls.map Lk.stp
 | _,_,.nil=>rfl
 | l::ls,kv::kvs,.cons h t=>by
  show kv.1::kvs.map (·.1)=l.stp::ls.map Lk.stp
  rw [h.1,oG t]
def qW:Sp:=fun vs H Q _=> ∃ bv bk,vs=[bv]/\RepB H bk bv/\BkT bk/\ ∀ d kvs m F H',FixS bk m->H d=none->Same H H'->H' d=some (.dP kvs)->Paired (LkE H' F) (dq (bk.forms.filter (aM m))) kvs->Q (.ref d) H'
noncomputable def lX (fs:List Frm) (vs:List V) (n:Str):V:=(((fs.zip vs).find? fun p=>decide (p.1.name=n)).map (·.2)).getD .non
theorem qJ: ∀ {fs:List Frm} {vs:List V} {i:Nat} {fr:Frm} {v:V},(fs.map Frm.name).Nodup->fs[i]? =some fr->vs[i]? =some v->lX fs vs fr.name=v
 | [],_,i,_,_,_,h,_=>by cases i <;> cases h
 | _::_,[],i,_,_,_,_,h=>by cases i <;> cases h
 | f0::fs,v0::vs,0,fr,v,_,h1,h2=>by
  cases h1
  cases h2
  unfold lX
  rw [List.zip_cons_cons,List.find?_cons_of_pos (by simp)]
  rfl
 | f0::fs,v0::vs,i+1,fr,v,nd,h1,h2=>by
  have h1:fs[i]? =some fr:=h1
  have h2:vs[i]? =some v:=h2
  obtain ⟨n1,n2⟩:=List.nodup_cons.mp nd
  have ih:=qJ n2 h1 h2
  unfold lX at ih ⊢
  rw [List.zip_cons_cons,List.find?_cons_of_neg (by simpa using fun e=>n1 (by rw [e];exact List.mem_map.mpr ⟨fr,List.mem_of_getElem? h1,rfl⟩))]
  exact ih
theorem yK {fs:List Frm} (nd:(fs.map Frm.name).Nodup) {i j k:Nat} {fr:Frm} {r:Rul} {ks:List Key} (hi:fs[i]? =some fr) (hj:j<fr.rules.length) (hk:(dd [] r.fm.rdk)[k]? =some ks):
  (Lk.mk fr r j ks).stp∉(dq (fs.take i)++eI fr 0 (fr.rules.take j)++fM fr j r ((dd [] r.fm.rdk).take k)).map Lk.stp:=by
 intro h
 obtain ⟨l,hl,e⟩:=List.mem_map.mp h
 have en:l.fr.name=fr.name:=Sum.inr.inj (congrArg (fun z:Stp=>z.2.1) e)
 have ej:(l.n:Int)=(j:Int):=Sum.inl.inj (congrArg (fun z:Stp=>z.2.2) e)
 have ek:l.ks=ks:=congrArg (fun z:Stp=>z.1) e
 rcases List.mem_append.mp hl with hl | hl
 ·rcases List.mem_append.mp hl with hl | hl
  ·have hx:(fs.map Frm.name)[i]? =some fr.name:=by rw [List.getElem?_map,hi];rfl
   refine jE nd hx ?_
   rw [<- List.map_take,<- en]
   exact List.mem_map.mpr ⟨_,(iD hl).1,rfl⟩
  ·obtain ⟨_,_,h3,_⟩:=gh hl
   rw [List.length_take]at h3
   lia
 ·obtain ⟨ks',hks,e2⟩:=List.mem_map.mp hl
  refine jE (vX (rs:=r.fm.rdk) (acc:=[]) List.nodup_nil) hk ?_
  rw [<- ek,<- e2]
  exact hks
abbrev zq:List Str:=["book","links","form","number","rule","reading"]
theorem scLinks:aB zq ["book"] (ag pM):=fsc
theorem ve (F:Fun K "links_by_step" "links_by_step" pM f fd) (henum:mg "enumerate"=none)
  (GL:FnOk P w K mg base CX0 5 f2 fd2 ["book"] jI) (bL:Binds K fd2 ["book"] []) (kL:W.keepIn K (.ref f2)=true) (mL:mg "forms_that_live"=some (.ref f2))
  (GU:FnOk P w K mg base CX0 1 f3 fd3 ["form"] iT) (bU:Binds K fd3 ["form"] []) (kU:W.keepIn K (.ref f3)=true) (mU:mg "rules_of"=some (.ref f3))
  (GR:FnOk P w K mg base CX0 3 f4 fd4 ["formula"] qV) (bR:Binds K fd4 ["formula"] []) (kR:W.keepIn K (.ref f4)=true) (mR:mg "readings_of"=some (.ref f4))
  (GK:FnOk P w K mg base CX0 1 f5 fd5 ["reading"] qY) (bK:Binds K fd5 ["reading"] []) (kK:W.keepIn K (.ref f5)=true) (mK:mg "key_of"=some (.ref f5)):
  FnOk P w K mg base CX0 6 f fd ["book"] qW:=by
 refine F.ok scLinks (fun vs H Q E h=>?_) (fun cdv A outer s H vs Q E hr h=>?_)
 ·obtain ⟨bv,bk,rfl,_⟩:=h
  rfl
 obtain ⟨bv,bk,rfl,hB,hT,q⟩:=h
 have hu:=cF hr
 have hr1:=hr.mono (show 1<=5 by decide)
 have hr3:=hr.mono (show 3<=5 by decide)
 refine ⟨_,ae (aq (i:=1) scLinks.nd rfl (Or.inl rfl) oj)
  (ae (bg PassesOwn.never rfl (bu (ak GL hr rfl mL kL bL .nil av (aa (pv 0) ac))) (aH (i:=2) scLinks.nd rfl (Or.inl rfl))
   (ai (bg PassesOwn.never rfl (wN rfl henum (aa (ak GU hr1 rfl mU kU bU .nil av (aa (pv 2) ac)) ac)) (eU rfl (aT (aH (i:=3) scLinks.nd rfl (Or.inl rfl)) (aT (aH (i:=4) scLinks.nd rfl (Or.inl rfl)) dv)))
    (ai (bg PassesOwn.never rfl (bu (ak GR hr3 rfl mR kR bR .nil av (aa (ao (r:=aC K) al (pv 4) ad (fun _ _=>rfl)) ac))) (aH (i:=5) scLinks.nd rfl (Or.inl rfl))
     (ai (dL hu (pv 1) (aP (aa (ao (r:=aC K) al (pv 2) ad (fun _ _=>rfl)) (aa (pv 3) (aa (pv 5) ac))))
      (aP (aa (pv 2) (aa (aN iA (pv 4) aZ (aV ad)) (aa (ak GK hr1 rfl mK kK bK .nil av (aa (pv 5) ac)) ac)))) rfl)))))))
  (ai (ax (pv 1)))),?_⟩
 refine fun d hd=>?_
 have s0:=af hd (.dP [])
 have g0:(upd H d (.dP [])) d=some (.dP []):=ab
 generalize upd H d (.dP [])=H0 at s0 g0 ⊢
 refine ⟨_,rfl,bv,bk,rfl,hB.mono (au s0),hT.g,fun p zs m H1 hfix hp s1 gp hz=>⟨p,rfl,⟨_,SqL.of gp⟩,?_⟩⟩
 have ndL:((bk.forms.filter (aM m)).map Frm.name).Nodup:=List.Nodup.sublist (List.Sublist.map _ List.filter_sublist) hT.g.nd
 have hmem: ∀ fr∈bk.forms.filter (aM m),fr∈bk.forms:=fun fr h=>(List.mem_filter.mp h).1
 have q:=fun kvs F H'=>q d kvs m F H' hfix
 have lenL:(bk.forms.filter (aM m)).length<=10:=Nat.le_trans (List.length_filter_le _ _) hT.g.few
 generalize bk.forms.filter (aM m)=fs at *
 have lz:fs.length=zs.length:=Paired.length hz
 have gd1:=s1 _ _ g0
 have npd:p≠d:=fun z=>by rw [z,g0]at hp;cases hp
 have s01:=s0.trans s1
 have tkd: ∀ {H'},Kp d H1 H'->TK H1 H':=fun k b xs h=>k _ _ h fun z=>by rw [z,gd1]at h;cases h
 have hbd: ∀ fr∈fs,(∀ r∈fr.rules,r.fm.size<=15)/\fr.rules.length<=12:=fun fr hf=>⟨fun r hr'=>((hT.fr fr (hmem fr hf)).fm r hr').2,eM hT (hmem fr hf)⟩
 refine dj (xs:=zs) (fun i Z H'=>i<=zs.length/\ ∃ o2 o3 o4 o5 kvs,Z=[some bv,some (.ref d),o2,o3,o4,o5]/\Kp d H1 H'/\H' d=some (.dP kvs)/\Paired (LkE H' (lX fs zs)) (dq (fs.take i)) kvs)
  ⟨Nat.zero_le _,none,none,none,none,[],rfl,Kp.refl,gd1,.nil⟩ (fun i Z H' _ h=>by obtain ⟨_,_,_,_,_,_,_,k,_⟩:=h;exact SqL.of (k _ _ gp npd)) ?_ ?_
 ·rintro i v Z H2 hv ⟨hi,o2,o3,o4,o5,kvs,rfl,k2,gd2,hP2⟩
  have hil:i<zs.length:=(List.getElem?_eq_some_iff.mp hv).1
  obtain ⟨fr,hfr,hRF⟩:=aJ hz hv
  have hfm:=hmem fr (List.mem_of_getElem? hfr)
  have h12:=eM hT hfm
  have hFT:=hT.fr fr hfm
  have hval:=qJ ndL hfr hv
  refine ⟨_,rfl,v,fr,rfl,hRF.mono (tkd k2),fun ra rv hra hR=>⟨ra,rv,rfl,hra,?_⟩⟩
  have lR:=hR.len
  have hRF2:=hRF.mono (tkd k2)
  obtain ⟨fa,pa,ra0,rv0,rfl,hfa,_⟩:=id hRF2
  have tk2: ∀ {H'},Kp d H2 H'->TK H2 H':=fun k b xs h=>k _ _ h fun z=>by rw [z,gd2]at h;cases h
  refine vP (xs:=rv) (fun j Z H'=>j<=rv.length/\ ∃ o3 o4 o5 kvs,Z=[some bv,some (.ref d),some (.ref fa),o3,o4,o5]/\Kp d H2 H'/\H' d=some (.dP kvs)/\Paired (LkE H' (lX fs zs)) (dq (fs.take i)++eI fr 0 (fr.rules.take j)) kvs)
   ⟨Nat.zero_le _,o3,o4,o5,kvs,rfl,Kp.refl,gd2,by rw [List.take_zero];show Paired _ (_++[]) _;rw [List.append_nil];exact hP2⟩ (fun j Z H' _ h=>by obtain ⟨_,_,_,_,_,_,k,_⟩:=h;exact tk2 k _ _ hra) ?_ ?_
  ·rintro j x T Z H3 hx hTn ⟨hj,o3,o4,o5,kvs3,rfl,k3,gd3,hP3⟩
   have hjl:j<rv.length:=(List.getElem?_eq_some_iff.mp hx).1
   obtain ⟨r,hr',a,u,rfl,ha,hu'⟩:=aJ hR hx
   have hrm:=List.mem_of_getElem? hr'
   obtain ⟨hwf,hsz⟩:=hFT.fm r hrm
   have s4:=af hTn (.tup [.int (j:Int),.ref a])
   have g4:(upd H3 T (.tup [.int (j:Int),.ref a])) T=some (.tup [.int (j:Int),.ref a]):=ab
   generalize upd H3 T (.tup [.int (j:Int),.ref a])=H4 at s4 g4 ⊢
   have tk4:=(tk2 k3).trans (au s4)
   have ha4:=tk4 _ _ ha
   refine ⟨T,_,rfl,SqT.of g4,rfl,_,_,rfl,_,_,rfl,rfl,?_⟩
   obtain ⟨out,hTw,hol⟩:=Tw.of1 (hu'.mono tk4) hwf
   refine ⟨_,rfl,a,_,2,u,rfl,rfl,SqT.of ha4,ar (j:=2) rfl,u,out,r.fm.rdk,rfl,hTw,by lia,fun rl ys H5 hrl s5 grl hys=>⟨rl,rfl,⟨_,SqL.of grl⟩,?_⟩⟩
   have gd5:=s5 _ _ (s4 _ _ gd3)
   have nrd:rl≠d:=fun z=>by rw [z,s4 _ _ gd3]at hrl;cases hrl
   have tk5: ∀ {H'},Kp d H5 H'->TK H5 H':=fun k b xs h=>k _ _ h fun z=>by rw [z,gd5]at h;cases h
   have lys:ys.length=(dd [] r.fm.rdk).length:=Paired.length hys
   have ha5:=s5 _ _ ha4
   have hfa5:=s5 _ _ (tk4 _ _ hfa)
   have hRF5:=(hRF2.mono tk4).mono (au s5)
   refine dj (xs:=ys) (fun k Z H'=>k<=ys.length/\ ∃ o5 kvs,Z=[some bv,some (.ref d),some (.ref fa),some (.int (j:Int)),some (.ref a),o5]/\Kp d H5 H'/\H' d=some (.dP kvs)/\Paired (LkE H' (lX fs zs)) (dq (fs.take i)++eI fr 0 (fr.rules.take j)++fM fr j r ((dd [] r.fm.rdk).take k)) kvs)
    ⟨Nat.zero_le _,o5,kvs3,rfl,Kp.refl,gd5,by rw [List.take_zero];show Paired _ (_++[]) _;rw [List.append_nil];exact Paired.mapP hP3 fun _ _ h=>h.mono ((au s4).trans (au s5))⟩ (fun k Z H' _ h=>by obtain ⟨_,_,_,_,k',_⟩:=h;exact SqL.of (k' _ _ grl nrd)) ?_ ?_
   ·rintro k y Z H6 hy ⟨hk,o5,kvs6,rfl,k6,gd6,hP6⟩
    have hkl:k<ys.length:=(List.getElem?_eq_some_iff.mp hy).1
    obtain ⟨ks,hks,b,rfl,hb⟩: ∃ ks,(dd [] r.fm.rdk)[k]? =some ks/\ ∃ b,y=.ref b/\H5 b=some (.tup (List.map kV ks)):=by
     obtain ⟨ks,h1,b,h2,h3⟩:=cD hys hy
     exact ⟨ks,h1,b,h2,h3⟩
    have hksm:ks∈r.fm.rdk:=(dd_iff.mp (List.mem_of_getElem? hks)).elim (fun z=>by cases z) id
    have hb6:=tk5 k6 _ _ hb
    have ha6:=tk5 k6 _ _ ha5
    have hfa6:=tk5 k6 _ _ hfa5
    refine ⟨_,rfl,_,rfl,2,rfl,a,_,rfl,ha6,fun p7 H7 s7 g7=>?_⟩
    have g7:H7 p7=some (.tup [.int r.pl,.str r.word]):=g7
    have s7:Same H6 H7:=s7
    refine ⟨_,rfl,b,ks,rfl,s7 _ _ hb6,i3 hwf ks hksm,fun p8 i8 x8 hor hp8=>?_⟩
    have e8:(i8,x8)=kyL ks:=by
     rcases hor with ⟨e1,e2⟩ | e1
     ·subst e1 e2;rfl
     ·subst e1;rfl
    have s8:=af hp8 (.tup [.int i8,.str x8])
    have g8:(upd H7 p8 (.tup [.int i8,.str x8])) p8=some (.tup [.int i8,.str x8]):=ab
    generalize upd H7 p8 (.tup [.int i8,.str x8])=H8 at s8 g8 ⊢
    refine ⟨(by show 3<=sizeLine;decide),fun p9 hp9=>?_⟩
    have s9:=af hp9 (.tup [.ref fa,.ref p7,.ref p8])
    have g9:(upd H8 p9 (.tup [.ref fa,.ref p7,.ref p8])) p9=some (.tup [.ref fa,.ref p7,.ref p8]):=ab
    generalize upd H8 p9 (.tup [.ref fa,.ref p7,.ref p8])=H9 at s9 g9 ⊢
    have S69:=(s7.trans s8).trans s9
    refine ⟨_,rfl,_,rfl,fa,_,0,.str fr.name,rfl,rfl,SqT.of (S69 _ _ hfa6),bi,_,rfl,_,rfl,(by show 3<=sizeLine;decide),fun pA hpA=>?_⟩
    have sA:=af hpA (.tup [.str fr.name,.int (j:Int),.ref b])
    have gA:(upd H9 pA (.tup [.str fr.name,.int (j:Int),.ref b])) pA=some (.tup [kV (.inr fr.name),kV (.inl (j:Int)),.ref b]):=ab
    generalize upd H9 pA (.tup [.str fr.name,.int (j:Int),.ref b])=HA at sA gA ⊢
    have S6A:=S69.trans sA
    have hkl2:kvs6.length<=1800:=by
     have:=Paired.length hP6
     rw [<- this]
     have h1:=iE (fs:=fs.take i) fun fr hf=>hbd fr (List.mem_of_mem_take hf)
     have h2:=iC (hbd fr (List.mem_of_getElem? hfr)).1 0 (fr.rules.take j) fun x hx=>List.mem_of_mem_take hx
     have h3:=gk (rs:=r.fm.rdk) (acc:=[])
     have h4:=dg r.fm
     unfold fM
     rw [List.length_append,List.length_append,List.length_map,List.length_take]
     rw [List.length_take]at h1 h2
     rw [List.length_nil]at h3
     lia
    refine ⟨d,_,rfl,DPut.p (t:=ks) (k:=(.inr fr.name,.inl (j:Int))) (S6A _ _ gd6) gA (S6A _ _ hb6) (iV (by lia)),?_⟩
    have hn:=yK ndL (r:=r) hfr (show j<fr.rules.length by lia) hks
    rw [<- oG hP6]at hn
    rw [lj (k:=((ks,(.inr fr.name,.inl (j:Int))):Stp)) hn]
    have gdA:=S6A _ _ gd6
    have tkA:TK H6 (upd HA d (.dP (kvs6++[((ks,(.inr fr.name,.inl (j:Int))),.ref p9)]))):=fun c xs h=>by rw [am (fun z=>by rw [z,gd6]at h;cases h)];exact S6A _ _ h
    have tkB: ∀ {H' c xs},Same H' HA->H' c=some (.tup xs)->(upd HA d (.dP (kvs6++[((ks,(.inr fr.name,.inl (j:Int))),.ref p9)]))) c=some (.tup xs):=fun {H' c xs} sm h=>by rw [am (fun z=>by have:=sm _ _ h;rw [z,gdA]at this;cases this)];exact sm _ _ h
    refine ⟨hkl,_,_,rfl,fun c u' h n=>?_,ab,?_⟩
    ·rw [am n];exact S6A _ _ (k6 _ _ h n)
    ·unfold fM
     rw [cg hks,List.map_append,<- List.append_assoc]
     refine Paired.snoc (Paired.mapP hP6 fun _ _ h=>h.mono tkA) ⟨rfl,⟨⟨p9,p7,p8,rfl,?_,tkB ((s8.trans s9).trans sA) g7,?_⟩,?_⟩⟩
     ·show _=some (HO.tup [lX fs zs fr.name,.ref p7,.ref p8])
      rw [hval]
      exact tkB sA g9
     ·show _=some (HO.tup [.int (kyL ks).1,.str (kyL ks).2])
      rw [<- e8]
      exact tkB (s9.trans sA) g8
     ·show RepF _ fr (lX fs zs fr.name)
      rw [hval]
      exact (hRF5.mono (tk5 k6)).mono tkA
   ·rintro Z H6 ⟨_,o5,kvs6,rfl,k6,gd6,hP6⟩
    rw [lys,List.take_length]at hP6
    refine ⟨hjl,_,_,_,kvs6,rfl,fun c u' h n=>k6 _ _ (s5 _ _ (s4 _ _ (k3 _ _ h n))) n,gd6,?_⟩
    rw [cg hr',i6,List.length_take,show min j fr.rules.length=j by lia,Nat.zero_add,<- List.append_assoc]
    exact hP6
  ·rintro Z H3 ⟨_,o3,o4,o5,kvs3,rfl,k3,gd3,hP3⟩
   rw [<- lR,List.take_length]at hP3
   refine ⟨hil,_,_,_,_,kvs3,rfl,fun c u' h n=>k3 _ _ (k2 _ _ h n) n,gd3,?_⟩
   rw [cg hfr,i7]
   exact hP3
 ·rintro Z H2 ⟨_,o2,o3,o4,o5,kvs,rfl,k2,gd2,hP2⟩
  rw [<- lz,List.take_length]at hP2
  exact ⟨_,rfl,q kvs (lX fs zs) H2 hd (fun c u' h=>k2 _ _ (s01 _ _ h) (aj h hd)) gd2 hP2⟩
theorem oT {c:Bool} {l1 l2:Addr} {α:Type} {as:List α} {A:α->V->V->Prop} {xs ys:List V} {fr:List Nat} {te:TE} {Z:St} {H1:Hp} {Q:VK} (hn:xs.length<=1000) (hl:as.length=xs.length) (hl2:xs.length=ys.length)
  (h1:H1 l1=some (gX c xs)) (h2:H1 l2=some (gX c ys)) (hA: ∀ (i:Nat) a x y,as[i]? =some a->xs[i]? =some x->ys[i]? =some y->A a x y)
  (R:Hp->α->V->Prop) (mono: ∀ {H H':Hp} {a:α} {v:V},TK H H'->R H a v->R H' a v)
  (hte: ∀ a x y H (k:VK),a∈as->A a x y->Same H1 H->(∀ u H',Same H H'->R H' a u->k u H')->te (some x::some y::cS fr Z) H k)
  (hd: ∀ p zs H',H1 p=none->Same H1 H'->H' p=some (.lst zs)->Paired (R H') as zs->Q (.ref p) H'):qM fr te Z (Itz c l1 l2) H1 Q:=by
 intro p hp
 refine ⟨fun i m zs H=>i<=xs.length/\m=xs.length-i/\Same H1 H/\H p=some (.lst zs)/\zs.length=i/\Paired (R H) (as.take i) zs,⟨_,Nat.zero_le _,rfl,af hp _,ab,rfl,.nil⟩,?_⟩
 rintro i m zs H ⟨hi,hm,sm,gp,hz,hT⟩
 refine ⟨gp,?_⟩
 by_cases e:i=xs.length
 ·subst e
  rw [<- hl,List.take_length]at hT
  exact .inl ⟨⟨xs,ys,sm _ _ h1,sm _ _ h2,rfl,hl2.symm⟩,hd p zs H hp sm gp hT⟩
 ·have hlt:i<xs.length:=by lia
  refine .inr ⟨⟨xs,ys,xs[i],ys[i]'(by lia),sm _ _ h1,sm _ _ h2,List.getElem?_eq_getElem hlt,List.getElem?_eq_getElem (by lia)⟩,aG (by lia),?_⟩
  rintro _ _ ⟨T,x,y,fT,rfl,rfl,hxy⟩
  obtain ⟨ex,ey⟩:=hxy xs ys (sm _ _ h1) (sm _ _ h2)
  obtain ⟨a,ha⟩: ∃ a,as[i]? =some a:=⟨as[i]'(by lia),List.getElem?_eq_getElem (by lia)⟩
  have sT:=af fT (.tup [x,y])
  refine ⟨T,x,y,rfl,ab,hte a x y _ _ (List.mem_of_getElem? ha) (hA i a x y ha ex ey) (sm.trans sT) fun u H2 s2 r=>?_⟩
  have s02:=sT.trans s2
  have gp2:=s02 _ _ gp
  have tk:TK H2 (upd H2 p (.lst (zs++[u]))):=TK.lst gp2
  refine ⟨gp2,xs.length- (i+1),by lia,by lia,rfl,?_,ab,by rw [List.length_append,hz];rfl,?_⟩
  ·intro b o hb
   rw [am (aj hb hp)]
   exact s02 _ _ (sm _ _ hb)
  ·rw [List.take_add_one,ha]
   exact Paired.snoc (Paired.mapP hT fun _ _ r=>mono ((au s02).trans tk) r) (mono tk r)
theorem vY (xs:List V) (k:Nat):cW xs (some (k:Int)) none=xs.drop k:=by
 unfold cW
 rw [HT.sIx_nat,HT.sIx_none]
 by_cases h:k<=xs.length
 ·rw [Nat.min_eq_left h,List.take_of_length_le (by rw [List.length_drop];exact Nat.le_refl _)]
 ·rw [Nat.min_eq_right (by lia),List.drop_of_length_le (Nat.le_refl _),List.take_nil,List.drop_of_length_le (by lia)]
theorem qu (xs:List V) (k:Nat):cW xs none (some (k:Int))=xs.take k:=by
 unfold cW
 rw [HT.sIx_nat,HT.sIx_none,Nat.sub_zero,List.drop_zero]
 by_cases h:k<=xs.length
 ·rw [Nat.min_eq_left h]
 ·rw [Nat.min_eq_right (by lia),List.take_length,List.take_of_length_le (by lia)]
theorem i9 {H:Hp} {F:Str->V} {s:Stp}: ∀ {lks:List Lk} {kvs:List (Stp×V)},Paired (LkE H F) lks kvs->(cC lks s=none/\aW kvs s=none)\/ ∃ l v,cC lks s=some l/\aW kvs s=some v/\RepLk H F l v
 | _,_,.nil=>.inl ⟨rfl,rfl⟩
 | l::lks,(k,v)::kvs,.cons h t=>by
  have hk:k=l.stp:=h.1
  by_cases c:l.stp=s
  ·refine .inr ⟨l,v,?_,?_,h.2⟩
   ·unfold cC
    exact List.find?_cons_of_pos (by simp [c])
   ·exact cb (hk.trans c)
  ·have e1:cC (l::lks) s=cC lks s:=by
    unfold cC
    exact List.find?_cons_of_neg (by simp [c])
   have e2:aW ((k,v)::kvs) s=aW kvs s:=bc (fun z=>c (by rw [<- hk];exact z))
   rw [e1,e2]
   exact i9 t
theorem gZ {lks:List Lk}: ∀ {ss:List Stp},(ss.all fun s=>(cC lks s).isSome)=true->Paired (fun s l=>cC lks s=some l) ss (ss.filterMap (cC lks))
 | [],_=>.nil
 | s::r,h=>by
  rw [List.all_cons,Bool.and_eq_true]at h
  obtain ⟨l,hl⟩:=Option.isSome_iff_exists.mp h.1
  rw [List.filterMap_cons_some hl]
  exact .cons hl (gZ h.2)
theorem lW {α β:Type} {a:List α} {b:List β} {i:Nat} {p:α×β} (h:(a.zip b)[i]? =some p):a[i]? =some p.1/\b[i]? =some p.2:=by
 rw [List.getElem?_zip_eq_some]at h
 exact h
def jt:Sp:=fun vs H Q _=> ∃ bv bk sl ys ss,vs=[bv,.ref sl]/\RepB H bk bv/\BkT bk/\H sl=some (.lst ys)/\Paired (RepK3 H) ss ys/\ss.length<=1000/\ ∀ m H',FixS bk m->Same H H'->Q (.bl (qP (dq (bk.forms.filter (aM m))) ss)) H'
abbrev jf:List Str:=["book","steps","links","row","following"]
theorem scStuck:aB jf ["book","steps"] (ag dB):=fsc
theorem u8 (F:Fun K "is_stuck" "is_stuck" dB f fd) (G:Gb mg) (hany:mg "any"=none) (hzip:mg "zip"=none)
  (GL:FnOk P w K mg base CX0 6 f2 fd2 ["book"] qW) (bL:Binds K fd2 ["book"] []) (kL:W.keepIn K (.ref f2)=true) (mL:mg "links_by_step"=some (.ref f2))
  (GT: ∀ bk,FnOk P w K mg base CX0 4 f3 fd3 ["link"] (qR bk)) (bT:Binds K fd3 ["link"] []) (kT:W.keepIn K (.ref f3)=true) (mT:mg "worth_told"=some (.ref f3))
  (GR: ∀ bk,FnOk P w K mg base CX0 4 f4 fd4 ["link"] (qS bk)) (bR:Binds K fd4 ["link"] []) (kR:W.keepIn K (.ref f4)=true) (mR:mg "worth_read"=some (.ref f4))
  (GA: ∀ bk,FnOk P w K mg base CX0 3 f5 fd5 ["link"] (nU bk)) (bA:Binds K fd5 ["link"] []) (kA:W.keepIn K (.ref f5)=true) (mA:mg "is_late"=some (.ref f5))
  (GH: ∀ bk,FnOk P w K mg base CX0 1 f6 fd6 ["one","other"] (qT bk)) (bH:Binds K fd6 ["one","other"] []) (kH:W.keepIn K (.ref f6)=true) (mH:mg "is_read_there"=some (.ref f6)):
  FnOk P w K mg base CX0 7 f fd ["book","steps"] jt:=by
 refine F.ok scStuck (fun vs H Q E h=>?_) (fun cdv A outer s H vs Q E hr h=>?_)
 ·obtain ⟨bv,bk,sl,ys,ss,rfl,_⟩:=h
  rfl
 obtain ⟨bv,bk,sl,ys,ss,rfl,hB,hT,hsl,hss,hlen,q⟩:=h
 have hu:=cF hr
 have hu0:=hr.units0
 have hr1:=hr.mono (show 1<=6 by decide)
 have hr3:=hr.mono (show 3<=6 by decide)
 have hr4:=hr.mono (show 4<=6 by decide)
 refine ⟨_,ae (aq (i:=2) scStuck.nd rfl (Or.inr rfl) (ak GL hr rfl mL kL bL .nil av (aa (pv 0) ac)))
  (ae (aY (PW.pt (jU (i4 (jV (pv 1) (fun _=>rfl))) (hU (i4 (dE (aF (r:=sw K) (eC rfl) rfl G.all (by decide +kernel) (aa (cy (sc0:=ag dB) (N0:=jf) (ys:=["links"]) (fr:=[2]) rfl (bu (pv 1)) rfl rfl
    cok (fun C s H ex=>jX (jY hu (pv 0) (pv 1)))) ac))))))) (ai (ax eg)) aK)
  (ae (eN (i:=3) (sc0:=ag dB) (N0:=jf) (ys:=["links"]) (fr:=[2]) rfl scStuck.nd rfl (Or.inl rfl) (bu (pv 1)) rfl rfl
    cok (fun C s H ex=>cx hu (pv 1) (pv 0) (fun _ _=>rfl)))
  (ae (aq (i:=4) scStuck.nd rfl (Or.inl rfl) (aE dn (aN bJ (pv 3) (aV ad) aZ) (aN bJ (pv 3) aZ (aV ad))))
  (ae (aY (i4 (dE (aF (r:=sw K) (eC rfl) rfl G.all (by decide +kernel) (aa (on (sc0:=ag dB) (N0:=jf) (ys:=[]) (fr:=[]) rfl (uP rfl hzip (aa (pv 3) (aa (pv 4) ac))) rfl rfl
    ⟨rfl,by decide +kernel,by decide +kernel,by decide +kernel,by decide +kernel,by decide +kernel,by decide +kernel,rfl,by decide +kernel⟩ (fun C s H ex=>a7 (j2 hu0) (ak (GR bk) hr4 rfl mR kR bR .nil av (aa (pv 0) ac)) (ak (GT bk) hr4 rfl mT kT bT .nil av (aa (pv 1) ac)) (ay _))) ac)))) (ai (ax eg)) aK)
  (ae (aY (dE (aF (v7 rfl) rfl hany (by decide +kernel) (aa (cy (sc0:=ag dB) (N0:=jf) (ys:=[]) (fr:=[]) rfl (bu (pv 3)) rfl rfl
    cok (fun C s H ex=>ak (GA bk) hr3 rfl mA kA bA .nil av (aa (pv 0) ac))) ac))) (ai (ax eg)) aK)
  (ai (ax (aF (r:=sw K) (eC rfl) rfl G.all (by decide +kernel) (aa (on (sc0:=ag dB) (N0:=jf) (ys:=[]) (fr:=[]) rfl (uP rfl hzip (aa (pv 3) (aa (pv 4) ac))) rfl rfl
    ⟨rfl,by decide +kernel,by decide +kernel,by decide +kernel,by decide +kernel,by decide +kernel,by decide +kernel,rfl,by decide +kernel⟩ (fun C s H ex=>ak (GH bk) hr1 rfl mH kH bH .nil av (aa (pv 0) (aa (pv 1) ac)))) ac))))))))),?_⟩
 have lys:ss.length=ys.length:=Paired.length hss
 refine ⟨_,rfl,bv,bk,rfl,hB,hT,fun d kvs m F' H1 hfix hd s1 gd hP=>?_⟩
 have q:=fun H'=>q m H' hfix
 have hlk: ∀ l∈dq (bk.forms.filter (aM m)),LkOk bk l:=fun l hl=>vA hT hl
 generalize dq (bk.forms.filter (aM m))=lks at *
 have hss1:=Paired.mapP hss fun _ _ h=>h.mono (au s1)
 have hsl1:=s1 _ _ hsl
 refine ⟨_,rfl,_,.inl ⟨_,SqL.of hsl1,rfl⟩,?_⟩
 unfold qP at q
 cases ys with
 | nil=>
  have e:ss=[]:=List.eq_nil_of_length_eq_zero (by rw [lys];rfl)
  subst e
  exact bt (bt (q H1 s1))
 | cons y0 yr=>
 have hne:ss≠[]:=fun e=>by rw [e]at lys;cases lys
 have eE:ss.isEmpty=false:=by
  cases ss with
  | nil=>exact absurd rfl hne
  | cons _ _=>rfl
 rw [eE,Bool.not_false,Bool.true_and]at q
 refine bh ⟨_,rfl,sl,rfl,⟨_,SqL.of hsl1⟩,?_⟩
 refine cs (by lia) hss1 (cZ hsl1) (cY hsl1) (dG hsl1) (fun _ s v=>v=.bl (cC lks s).isSome) (fun _ h=>h) ?_ ?_
 ·rintro st v H2 k _ ⟨b,c,rfl,hb,hc⟩ s2 hk
  refine ⟨_,rfl,_,rfl,d,aW kvs st,rfl,DGet.p (t:=st.1) (k:=st.2) (s2 _ _ gd) (s2 _ _ hb) (s2 _ _ hc),hk _ H2 (Same.refl _) ?_⟩
  rcases i9 (s:=st) hP with ⟨e1,e2⟩ | ⟨l,v,e1,e2,_⟩
  ·rw [e1,e2];rfl
  ·rw [e1,e2];rfl
 intro p2 zs2 H2 hp2 s2 g2 hz2
 have ez2:zs2=(ss.map fun s=>(cC lks s).isSome).map V.bl:=by rw [cj hz2,List.map_map];rfl
 subst ez2
 refine ⟨p2,_,rfl,SqL.of g2,_,rfl,?_⟩
 rw [List.all_map,show (id∘fun s=>(cC lks s).isSome)=fun s=>(cC lks s).isSome from rfl]
 have S2:=s1.trans s2
 cases hall:ss.all fun s=>(cC lks s).isSome with
 | false=>
  rw [hall,Bool.false_and]at q
  exact bt (q H2 S2)
 | true=>
 rw [hall,Bool.true_and]at q
 have hrow:=gZ hall
 have lrow:ss.length=(ss.filterMap (cC lks)).length:=Paired.length hrow
 have hrok: ∀ l∈ss.filterMap (cC lks),LkOk bk l:=fun l hl=>by
  obtain ⟨s,_,e⟩:=List.mem_filterMap.mp hl
  exact hlk l (lE e).1
 have hsl2:=s2 _ _ hsl1
 have gd2:=s2 _ _ gd
 refine bh ⟨_,rfl,sl,rfl,⟨_,SqL.of hsl2⟩,?_⟩
 refine cs (by lia) hss1 (cZ hsl2) (cY hsl2) (dG hsl2) (fun H s v=> ∃ l,cC lks s=some l/\RepLk H F' l v) (fun t ⟨l,e,h⟩=>⟨l,e,h.mono t⟩) ?_ ?_
 ·rintro st v H3 k hst ⟨b,c,rfl,hb,hc⟩ s3 hk
  rcases i9 (s:=st) hP with ⟨e1,_⟩ | ⟨l,v,e1,e2,hR⟩
  ·have:=List.all_eq_true.mp hall st hst
   rw [e1]at this
   cases this
  ·have S13:=s2.trans s3
   exact ⟨_,rfl,_,rfl,d,v,rfl,(by rw [<- e2];exact DGet.p (t:=st.1) (k:=st.2) (S13 _ _ gd) (S13 _ _ hb) (S13 _ _ hc)),hk _ H3 (Same.refl _) ⟨l,e1,hR.mono (au S13)⟩⟩
 intro pr rv H3 hpr s3 gpr hrv
 have hrv:Paired (RepLk H3 F') (ss.filterMap (cC lks)) rv:=by
  have go: ∀ {a:List Stp} {b:List Lk} {c:List V},Paired (fun s l=>cC lks s=some l) a b->Paired (fun s v=> ∃ l,cC lks s=some l/\RepLk H3 F' l v) a c->Paired (RepLk H3 F') b c:=by
   intro a b c h1 h2
   induction h1 generalizing c with
   | nil=>cases h2;exact .nil
   | cons x _ ih=>
    cases h2 with
    | cons y t=>
     obtain ⟨l,e,h⟩:=y
     rw [x]at e
     cases e
     exact .cons h (ih t)
  exact go hrow hrv
 generalize ss.filterMap (cC lks)=row at *
 have lrv:row.length=rv.length:=Paired.length hrv
 have hrne:row≠[]:=fun e=>hne (List.eq_nil_of_length_eq_zero (by rw [lrow,e];rfl))
 have S3:=S2.trans s3
 refine ⟨_,rfl,1,rfl,pr,rv,rfl,SqL.of gpr,fun p4 hp4=>?_⟩
 rw [show cW rv (some 1) none=rv.drop 1 from vY rv 1]
 have s4:=af hp4 (.lst (rv.drop 1))
 have g4:(upd H3 p4 (.lst (rv.drop 1))) p4=some (.lst (rv.drop 1)):=ab
 generalize upd H3 p4 (.lst (rv.drop 1))=H4 at s4 g4 ⊢
 refine ⟨_,rfl,1,rfl,pr,rv,rfl,SqL.of (s4 _ _ gpr),fun p5 hp5=>?_⟩
 rw [show cW rv none (some 1)=rv.take 1 from qu rv 1]
 have s5:=af hp5 (.lst (rv.take 1))
 have g5:(upd H4 p5 (.lst (rv.take 1))) p5=some (.lst (rv.take 1)):=ab
 generalize upd H4 p5 (.lst (rv.take 1))=H5 at s5 g5 ⊢
 refine ⟨p4,p5,_,_,rfl,rfl,s5 _ _ g4,g5,Nat.le_trans (m:=1001) (by rw [List.length_drop,List.length_take];lia) (by decide),fun p6 hp6=>?_⟩
 have s6:=af hp6 (.lst (rv.drop 1++rv.take 1))
 have g6:(upd H5 p6 (.lst (rv.drop 1++rv.take 1))) p6=some (.lst (bz rv)):=ab
 generalize upd H5 p6 (.lst (rv.drop 1++rv.take 1))=H6 at s6 g6 ⊢
 have S36:=(s4.trans s5).trans s6
 have gpr6:=S36 _ _ gpr
 have lnx:(bz rv).length=rv.length:=oC rv fun e=>hrne (List.eq_nil_of_length_eq_zero (by rw [lrv,e];rfl))
 have lnl:=oC row hrne
 have hrv6:=Paired.mapP hrv fun _ _ h=>h.mono (au S36)
 have lzp:(row.zip (bz row)).length=rv.length:=by rw [List.length_zip,lnl,Nat.min_self,lrv]
 have hA: ∀ (i:Nat) (a:Lk×Lk) x y,(row.zip (bz row))[i]? =some a->rv[i]? =some x->(bz rv)[i]? =some y->(LkOk bk a.1/\LkOk bk a.2)/\RepLk H6 F' a.1 x/\RepLk H6 F' a.2 y:=by
  intro i a x y h1 h2 h3
  obtain ⟨z1,z2⟩:=lW h1
  have hil:i<row.length:=(List.getElem?_eq_some_iff.mp z1).1
  rw [gJ hil]at z2
  rw [gJ (by lia),<- lrv]at h3
  obtain ⟨l1,e1,r1⟩:=aJ hrv6 h2
  obtain ⟨l2,e2,r2⟩:=aJ hrv6 h3
  rw [z1]at e1
  cases e1
  rw [z2]at e2
  cases e2
  exact ⟨⟨hrok _ (List.mem_of_getElem? z1),hrok _ (List.mem_of_getElem? z2)⟩,r1,r2⟩
 unfold pz at q
 refine ⟨_,rfl,_,rfl,false,pr,p6,rv,bz rv,rfl,gpr6,g6,?_⟩
 refine oT (c:=false) (as:=row.zip (bz row)) (by lia) lzp lnx.symm gpr6 g6 hA (fun _ a v=>v=.bl (decide (a.1.rw_=a.2.tw))) (fun _ h=>h) ?_ ?_
 ·rintro a x y H7 k _ ⟨⟨o1,o2⟩,r1,r2⟩ s7 hk
  refine ⟨_,rfl,x,F',a.1,rfl,r1.mono (au s7),hT,o1,fun pa H8 s8 g8=>?_⟩
  refine ⟨_,rfl,y,F',a.2,rfl,(r2.mono (au s7)).mono (au s8),hT,o2,fun pb H9 s9 g9=>?_⟩
  refine ⟨pa,pb,[.inr a.1.rw_.1,.inr a.1.rw_.2],[.inr a.2.tw.1,.inr a.2.tw.2],rfl,rfl,s9 _ _ g8,g9,?_⟩
  rw [if_pos rfl]
  refine hk _ H9 (s8.trans s9) ?_
  refine congrArg V.bl (decide_eq_decide.mpr ⟨fun e=>?_,fun e=>by rw [e]⟩)
  exact Prod.ext (Sum.inr.inj (List.cons.inj e).1) (Sum.inr.inj (List.cons.inj (List.cons.inj e).2).1)
 intro p7 zs7 H7 hp7 s7 g7 hz7
 have ez7:zs7=((row.zip (bz row)).map fun a=>decide (a.1.rw_=a.2.tw)).map V.bl:=by rw [cj hz7,List.map_map];rfl
 subst ez7
 refine ⟨p7,_,rfl,SqL.of g7,_,rfl,?_⟩
 rw [List.all_map,show (id∘fun a:Lk×Lk=>decide (a.1.rw_=a.2.tw))=fun a=>decide (a.1.rw_=a.2.tw)from rfl]
 have S7:=(S3.trans S36).trans s7
 cases hw:(row.zip (bz row)).all fun a=>decide (a.1.rw_=a.2.tw)with
 | false=>
  rw [hw,Bool.false_and]at q
  exact bt (q H7 S7)
 | true=>
 rw [hw,Bool.true_and]at q
 have gpr7:=s7 _ _ gpr6
 have hrv7:=Paired.mapP hrv6 fun _ _ h=>h.mono (au s7)
 refine bh ⟨_,rfl,pr,rfl,⟨_,SqL.of gpr7⟩,?_⟩
 refine cs (by lia) hrv7 (cZ gpr7) (cY gpr7) (dG gpr7) (fun _ l v=>v=.bl (gi l)) (fun _ h=>h) ?_ ?_
 ·rintro l v H8 k hl hR s8 hk
  exact ⟨_,rfl,v,F',l,rfl,hR.mono (au s8),hT,hrok l hl,fun H9 s9=>hk _ H9 s9 rfl⟩
 intro p8 zs8 H8 hp8 s8 g8 hz8
 have ez8:zs8=(row.map gi).map V.bl:=by rw [cj hz8,List.map_map];rfl
 subst ez8
 refine ⟨p8,_,rfl,SqL.of g8,_,rfl,?_⟩
 rw [List.any_map,show (id∘gi)=gi from rfl]
 have S8:=S7.trans s8
 cases hlt:row.any gi with
 | true=>
  rw [hlt,Bool.true_or]at q
  exact bt (q H8 S8)
 | false=>
 rw [hlt,Bool.false_or]at q
 have s68:=s7.trans s8
 refine bh ⟨_,rfl,_,rfl,false,pr,p6,rv,bz rv,rfl,s68 _ _ gpr6,s68 _ _ g6,?_⟩
 refine oT (c:=false) (as:=row.zip (bz row)) (by lia) lzp lnx.symm (s68 _ _ gpr6) (s68 _ _ g6) hA (fun _ a v=>v=.bl (eS a.1 a.2)) (fun _ h=>h) ?_ ?_
 ·rintro a x y H9 k _ ⟨⟨o1,o2⟩,r1,r2⟩ s9 hk
  have t9:=(au s68).trans (au s9)
  exact ⟨_,rfl,_,rfl,x,y,F',a.1,a.2,rfl,r1.mono t9,r2.mono t9,hT,o1,o2,fun HA sA=>hk _ HA sA rfl⟩
 intro p9 zs9 H9 hp9 s9 g9 hz9
 have ez9:zs9=((row.zip (bz row)).map fun a=>eS a.1 a.2).map V.bl:=by rw [cj hz9,List.map_map];rfl
 subst ez9
 refine ⟨p9,_,rfl,SqL.of g9,?_⟩
 rw [List.all_map,show (id∘fun a:Lk×Lk=>eS a.1 a.2)=fun a=>eS a.1 a.2 from rfl]
 exact q H9 (S8.trans s9)
theorem db (ds:List Str):(ds.map V.str).all iH=true:=by
 rw [List.all_map]
 exact List.all_eq_true.mpr fun _ _=>rfl
theorem di (x:Str): ∀ ds:List Str,inV (.str x) (ds.map V.str)=decide (x∈ds)
 | []=>(decide_eq_false (by simp)).symm
 | d::r=>by
  have ih:=di x r
  unfold inV at ih ⊢
  rw [List.map_cons,List.any_cons,ih]
  by_cases c:d=x
  ·subst c
   rw [decide_eq_true (show d∈d::r from List.mem_cons_self)]
   have:eqV (.str d) (.str d)=true:=by simp [eqV]
   rw [this];rfl
  ·have:eqV (.str d) (.str x)=false:=by simp [eqV,c]
   rw [this,Bool.false_or]
   refine decide_eq_decide.mpr ⟨List.mem_cons_of_mem _,fun h=>(List.mem_cons.mp h).resolve_left fun z=>c z.symm⟩
def DnAt (H:Hp) (d:Addr) (bk:Bk):Prop:= ∃ kvs,H d=some (.dK kvs)/\ ∀ s∈bk.sorts,∃ b,aW kvs (.inr (Srt.name s))=some (.ref b)/\H b=some (.tup (s.downs.map V.str))
theorem DnAt.same {H H':Hp} {d:Addr} {bk:Bk} (s:Same H H'):DnAt H d bk->DnAt H' d bk:=fun ⟨kvs,h1,h2⟩=>⟨kvs,s _ _ h1,fun x hx=>let ⟨b,e,h⟩:=h2 x hx;⟨b,e,s _ _ h⟩⟩
theorem DnAt.kp {H H':Hp} {c d:Addr} {bk:Bk} (k:Kp c H H') (n:d≠c) (t:TK H H'):DnAt H d bk->DnAt H' d bk:=fun ⟨kvs,h1,h2⟩=>⟨kvs,k _ _ h1 n,fun x hx=>let ⟨b,e,h⟩:=h2 x hx;⟨b,e,t _ _ h⟩⟩
def jL:Sp:=fun vs H Q _=> ∃ bv bk,vs=[bv]/\RepB H bk bv/\BkG bk/\ ∀ d H',H d=none->Same H H'->DnAt H' d bk->Q (.ref d) H'
def iz (bk:Bk):Sp:=fun vs H Q _=> ∃ (d oa:Addr) (v:V) (l:Lk),vs=[.ref d,v,.int l.r.pl,.str l.r.word,.ref oa]/\DnAt H d bk/\RepF H l.fr v/\H oa=some (.tup (l.ks.map kV))/\BkT bk/\LkOk bk l/\ ∀ H',Same H H'->Q (.bl (cA l)) H'
def fR (bk:Bk):Sp:=fun vs H Q _=> ∃ (d oa:Addr) (v:V) (l:Lk),vs=[.ref d,v,.int l.r.pl,.ref oa]/\DnAt H d bk/\RepF H l.fr v/\H oa=some (.tup (l.ks.map kV))/\BkT bk/\LkOk bk l/\ ∀ H',Same H H'->Q (.bl (ik l)) H'
def qX:Sp:=fun vs H Q _=> ∃ bv bk,vs=[bv]/\RepB H bk bv/\BkG bk/\ ∀ p zs m H',FixS bk m->H p=none->Same H H'->H' p=some (.lst zs)->Paired (RepF H') (bk.forms.filter (aM m)) zs->Q (.ref p) H'
section
variable {P:Program} {w:World} {K:W.Frag} {mg:Str->Option Value} {base:Heap} {f f2 f3 f4 f5 f6:Addr} {fd fd2 fd3 fd4 fd5 fd6:FuncData} {bk:Bk}
theorem scLLive:aB ["book","least"] ["book"] (ag iZ):=fsc
theorem vj (F:Fun K "_law_live" "_law_live" iZ f fd) (G:Gb mg)
  (GL:FnOk P w K mg base CX0 1 f2 fd2 ["book"] l7) (bL:Binds K fd2 ["book"] []) (kL:W.keepIn K (.ref f2)=true) (mL:mg "_law_least"=some (.ref f2)):FnOk P w K mg base CX0 2 f fd ["book"] qX:=by
 refine F.ok scLLive (fun vs H Q E h=>?_) (fun cdv A outer s H vs Q E hr h=>?_)
 ·obtain ⟨bv,bk,rfl,_⟩:=h
  rfl
 obtain ⟨bv,bk,rfl,hB,hok,q⟩:=h
 have hu:=cF hr
 have hfew:=hok.few
 refine ⟨_,ae (aq (i:=1) scLLive.nd rfl (Or.inr rfl) (ak GL hr rfl mL kL bL .nil av (aa (pv 0) ac)))
  (ai (ax (om (sc0:=ag iZ) (N0:=["book","least"]) (ys:=["least"]) (fr:=[1]) rfl (cf (ao (r:=aC K) al (pv 0) ad (fun _ _=>rfl))) rfl rfl
   cok
   (fun C s H ex=>dE (aF (r:=sw K) (eC rfl) rfl G.all (by decide +kernel) (aa (cy (sc0:=zI (ag iZ) (zZ (zL ((bV iZ).drop 1)))) (N0:=["form","least"]) (wi:=yW K (tOp (aC K) (jF 0) (tC (V.int 2)))) (ys:=["least"]) (fr:=[1]) rfl (cf (ao (r:=aC K) al (pv 0) ad (fun _ _=>rfl))) rfl rfl
    cok (fun C s H ex=>jX (jY hu (pv 0) (pv 1)))) ac)))
   (fun C s H ex=>pv 0)))),?_⟩
 refine ⟨_,rfl,bv,bk,rfl,hB,hok,fun d H1 hd s1 gd hI=>?_⟩
 have hB1:=hB.mono (au s1)
 obtain ⟨a,sa,fa,fv,rfl,ha,_,hfa,hF⟩:=hB1
 have lF:=hF.len
 refine ⟨_,rfl,a,_,2,.ref fa,rfl,rfl,SqT.of ha,ar (j:=2) rfl,fa,rfl,⟨_,SqT.of hfa⟩,?_⟩
 obtain ⟨m,hm,_⟩:=yZ hok
 refine fG (by lia) hF (dz hfa) (dy hfa) (eW hfa) (fun fr=>(fr.parts.map (bm (ce bk))).all id) RepF (fun t h=>h.mono t) ?_ ?_ (fun p zs H' hp s' gp hz=>q p zs m H' hm (s1.free hp) (s1.trans s') gp (by rw [<- qi hok hI hm];exact hz))
 ·intro fr v H2 k hfr hR s2 hk
  have hp3:=(hok.ok fr hfr).2.2
  obtain ⟨b,pa,ra,rv,rfl,hb,hpa,_⟩:=hR.mono (au s2)
  refine ⟨_,rfl,b,_,2,.ref pa,rfl,rfl,SqT.of hb,ar (j:=2) rfl,pa,rfl,⟨_,SqT.of hpa⟩,?_⟩
  have hpl:(be fr.parts).length=fr.parts.length:=List.length_map _
  refine cs (by lia) (dw fr.parts) (dz hpa) (dy hpa) (eW hpa) (fun _ p v=>v=.bl (bm (ce bk) p)) (fun _ h=>h) ?_ ?_
  ·rintro p v H' k' hp rfl s' hk'
   exact ⟨_,rfl,_,rfl,d,_,rfl,DGet.k (k:=.inr p.name) (s' _ _ (s2 _ _ gd)),hk' _ H' (Same.refl H') rfl⟩
  intro p zs H3 hp s3 g3 hz
  have ez:zs=(fr.parts.map (bm (ce bk))).map V.bl:=by rw [cj hz,List.map_map];rfl
  subst ez
  exact ⟨p,_,rfl,SqL.of g3,_,rfl,hk H3 s3⟩
 ·intro fr v H2 k hfr hR _ s2 hk
  exact ⟨_,rfl,hk v H2 (Same.refl H2) (hR.mono (au s2))⟩
abbrev xF:List Str:=["book","found","sort"]
theorem scLDowns:aB xF ["book"] (ag mr):=fsc
theorem sV (F:Fun K "_law_downs" "_law_downs" mr f fd):FnOk P w K mg base CX0 1 f fd ["book"] jL:=by
 refine F.ok scLDowns (fun vs H Q E h=>?_) (fun cdv A outer s H vs Q E hr h=>?_)
 ·obtain ⟨bv,bk,rfl,_⟩:=h
  rfl
 obtain ⟨bv,bk,rfl,hB,hok,q⟩:=h
 have hu:=cF hr
 refine ⟨_,ae (aq (i:=1) scLDowns.nd rfl (Or.inl rfl) ee)
  (ae (bg PassesOwn.never rfl (cf (ao (r:=aC K) al (pv 0) ad (fun _ _=>rfl))) (aH (i:=2) scLDowns.nd rfl (Or.inl rfl))
   (ai (dL hu (pv 1) (ao (r:=aC K) al (pv 2) ad (fun _ _=>rfl)) (ao (r:=aC K) al (pv 2) ad (fun _ _=>rfl)) rfl)))
  (ai (ax (pv 1)))),?_⟩
 obtain ⟨a,sa,fa,fv,rfl,ha,⟨sx,hsa,hS⟩,_⟩:=hB
 have lS:=hS.len
 have h4:=hok.so.2.1
 refine fun d hd=>?_
 have s0:=af hd (.dK [])
 have g0:(upd H d (.dK [])) d=some (.dK []):=ab
 generalize upd H d (.dK [])=H0 at s0 g0 ⊢
 refine ⟨_,rfl,a,_,1,.ref sa,rfl,rfl,SqT.of (s0 _ _ ha),ar (j:=1) rfl,sa,rfl,⟨_,SqT.of (s0 _ _ hsa)⟩,?_⟩
 refine eR (xs:=sx) (fun i Z H'=>i<=sx.length/\ ∃ o2 kvs,Z=[some (.ref a),some (.ref d),o2]/\Same H H'/\H' d=some (.dK kvs)/\kvs.length<=i/\ ∀ s∈bk.sorts.take i,∃ b,aW kvs (.inr (Srt.name s))=some (.ref b)/\H b=some (.tup (s.downs.map V.str)))
  ⟨Nat.zero_le _,none,[],rfl,s0,g0,Nat.le_refl _,fun s h=>by rw [List.take_zero]at h;cases h⟩ (fun i Z H' _ h=>by obtain ⟨_,_,_,_,s',_⟩:=h;exact SqT.of (s' _ _ hsa)) ?_ ?_
 ·rintro i x Z H1 hx ⟨hi,o2,kvs,rfl,S1,gd1,hl,hv⟩
  have hil:i<sx.length:=(List.getElem?_eq_some_iff.mp hx).1
  obtain ⟨sr,hsr,b,dc,uc,rfl,hb,hdc,huc⟩:=aJ hS hx
  refine ⟨_,rfl,b,_,1,.ref dc,rfl,rfl,SqT.of (S1 _ _ hb),ar (j:=1) rfl,_,rfl,_,rfl,b,_,0,.str sr.name,rfl,rfl,SqT.of (S1 _ _ hb),bi,d,_,rfl,DPut.k (k:=.inr sr.name) gd1 (aG (by lia)),?_⟩
  have hlp:=cN kvs (.inr sr.name) (.ref dc)
  refine ⟨hil,_,_,rfl,fun c u h=>?_,ab,by lia,fun s hs=>?_⟩
  ·rw [am (aj h hd)];exact S1 _ _ h
  ·rw [df]
   rw [cg hsr]at hs
   by_cases c:s.name=sr.name
   ·rw [if_pos (by rw [c])]
    have e:s=sr:=js hok.so.2.2.1 (by
     rcases List.mem_append.mp hs with z | z
     ·exact List.mem_of_mem_take z
     ·rw [List.mem_singleton.mp z];exact List.mem_of_getElem? hsr) (List.mem_of_getElem? hsr) c
    subst e
    exact ⟨dc,rfl,hdc⟩
   ·rw [if_neg (fun z=>c (Sum.inr.inj z))]
    rcases List.mem_append.mp hs with z | z
    ·exact hv s z
    ·exact absurd (by rw [List.mem_singleton.mp z]) c
 ·rintro Z H1 ⟨_,o2,kvs,rfl,S1,gd1,hl,hv⟩
  rw [<- lS,List.take_length]at hv
  exact ⟨_,rfl,q d H1 hd S1 ⟨kvs,gd1,fun s hs=>let ⟨b,e,h⟩:=hv s hs;⟨b,e,S1 _ _ h⟩⟩⟩
abbrev eF:List Str:=["downs","form","at","word","one"]
theorem wH:aB eF eF (ag pN):=fsc
theorem vm (F:Fun K "_law_is_late" "_law_is_late" pN f fd):FnOk P w K mg base CX0 1 f fd eF (iz bk):=by
 refine F.ok wH (fun vs H Q E h=>?_) (fun cdv A outer s H vs Q E hr h=>?_)
 ·obtain ⟨d,oa,v,l,rfl,_⟩:=h
  rfl
 obtain ⟨d,oa,v,l,rfl,hd,hF,hoa,hT,hl,q⟩:=h
 have hu:=cF hr
 have hu0:=hr.units0
 refine ⟨_,ae (aY (aw fK (pv 2) ad (ay _)) (ai (ax (a7 (j2 hu0) (pv 4) (aP (aa aX (aa (pv 3) ac))) (ay _)))) aK)
  (ae (aY (aw bq (ao (r:=aC K) al (pv 4) ad (fun _ _=>rfl)) aX (ay _)) (ai (ax (a7 dM (ao (r:=aC K) al (pv 4) ad (fun _ _=>rfl)) (cx hu (pv 0) (ao (r:=aC K) al (pv 1) ad (fun _ _=>rfl)) (fun _ _=>rfl)) (by with_unfolding_all rfl)))) aK)
  (ae (aY (aw bq (ao (r:=aC K) al (pv 4) ad (fun _ _=>rfl)) (pv 2) (ay _))
   (ai (ax (rh (a7 bq (ao (r:=aC K) al (pv 4) ad (fun _ _=>rfl)) (pv 3) (ay _)) (dZ (a7 dM (ao (r:=aC K) al (pv 4) ad (fun _ _=>rfl)) (cx hu (pv 0) (ao (r:=aC K) al (ao (r:=aC K) al (pv 1) ad (fun _ _=>rfl)) (pv 2) (fun _ _=>rfl)) (fun _ _=>rfl)) (by with_unfolding_all rfl)))))) aK)
  (ai (ax (a7 iB (ao (r:=aC K) al (pv 4) ad (fun _ _=>rfl)) (pv 2) (ay _)))))),?_⟩
 obtain ⟨fa,pa,ra,rv,rfl,hfa,hpa,_⟩:=hF
 obtain ⟨kvs,gd,hdn⟩:=hd
 have ht:=hl.tg hT
 have hks:=hl.ks
 have hown:=(hT.g.ok _ hl.fr).1
 have hprt:=(hT.g.ok _ hl.fr).2.1
 obtain ⟨fr,r,n,ks⟩:=l
 simp only at ht hks hown hprt hoa hfa hpa ⊢
 refine ⟨_,rfl,_,_,rfl,rfl,_,rfl,?_⟩
 rcases ht with ⟨e1,_⟩ | ⟨j,qs,e1,hq,_⟩
 ·rw [decide_eq_true (show r.pl<0 by lia)]
  have e:cA ⟨fr,r,n,ks⟩=decide (ks=[.inr "own",.inr r.word]):=if_pos (show r.pl<0 by lia)
  rw [e]at q
  refine bt ⟨_,rfl,_,rfl,(by show 2<=sizeLine;decide),fun p hp=>?_⟩
  have s1:=af hp (.tup [.str "own",.str r.word])
  have g1:(upd H p (.tup [.str "own",.str r.word])) p=some (.tup (([.inr "own",.inr r.word]:List Key).map kV)):=ab
  generalize upd H p (.tup [.str "own",.str r.word])=H1 at s1 g1 ⊢
  refine ⟨oa,p,ks,[.inr "own",.inr r.word],rfl,rfl,s1 _ _ hoa,g1,?_⟩
  rw [if_pos rfl]
  exact q H1 s1
 ·rw [decide_eq_false (show ¬ r.pl<0 by lia)]
  have hq2:(be fr.parts)[j]? =some (.str qs.name):=by unfold be;rw [List.getElem?_map,hq];rfl
  refine bh ?_
  rcases hks with ⟨x,rfl,hx⟩ | ⟨k,q',x,rfl,hq',hx⟩
  ·obtain ⟨b,eb,hb⟩:=hdn fr.own hown
   refine ⟨_,rfl,oa,_,0,.str "own",rfl,rfl,SqT.of hoa,bi,rfl,_,rfl,?_⟩
   rw [decide_eq_true rfl]
   refine bt ⟨_,rfl,oa,_,1,.str x,rfl,rfl,SqT.of hoa,ar (j:=1) rfl,_,rfl,_,rfl,fa,_,1,.str fr.own.name,rfl,rfl,SqT.of hfa,ar (j:=1) rfl,d,.ref b,rfl,(by rw [<- eb];exact DGet.k (k:=.inr fr.own.name) gd),b,_,rfl,.inr (SqT.of hb),rfl,db _,?_⟩
   rw [if_pos rfl,di]
   have e:cA ⟨fr,r,n,[.inr "own",.inr x]⟩= !decide (x∈fr.own.downs):=if_neg (show ¬ r.pl<0 by lia)
   rw [e]at q
   exact q H (Same.refl H)
  ·obtain ⟨b,eb,hb⟩:=hdn qs (hprt qs (List.mem_of_getElem? hq))
   have edn:iI fr r.pl=qs.downs:=by
    unfold iI
    rw [e1,Int.toNat_natCast,hq]
    rfl
   refine ⟨_,rfl,oa,_,0,.str "part",rfl,rfl,SqT.of hoa,bi,rfl,_,rfl,?_⟩
   rw [decide_eq_false (by decide +kernel)]
   refine bh ⟨_,rfl,oa,_,1,.int (k:Int),rfl,rfl,SqT.of hoa,ar (j:=1) rfl,_,rfl,rfl,_,rfl,?_⟩
   have ed:decide (V.int (k:Int)=V.int r.pl)=decide ((k:Int)=r.pl):=decide_eq_decide.mpr ⟨fun z=>V.int.inj z,fun z=>by rw [z]⟩
   rw [ed]
   by_cases c:(k:Int)=r.pl
   ·rw [decide_eq_true c]
    have e:cA ⟨fr,r,n,[.inr "part",.inl (k:Int),.inr x]⟩=(decide (x=r.word)|| !decide (x∈iI fr r.pl)):=(if_neg (show ¬ r.pl<0 by lia)).trans (if_pos c)
    rw [e]at q
    refine bt ⟨_,rfl,oa,_,2,.str x,rfl,rfl,SqT.of hoa,ar (j:=2) rfl,_,rfl,rfl,_,rfl,?_⟩
    have ed2:decide (V.str x=V.str r.word)=decide (x=r.word):=decide_eq_decide.mpr ⟨fun z=>V.str.inj z,fun z=>by rw [z]⟩
    rw [ed2]
    by_cases c2:x=r.word
    ·rw [decide_eq_true c2]
     simp only [decide_eq_true c2,Bool.true_or]at q
     exact bt (q H (Same.refl H))
    ·rw [decide_eq_false c2]
     simp only [decide_eq_false c2,Bool.false_or]at q
     refine bh ⟨_,rfl,oa,_,2,.str x,rfl,rfl,SqT.of hoa,ar (j:=2) rfl,_,rfl,_,rfl,fa,_,2,.ref pa,rfl,rfl,SqT.of hfa,ar (j:=2) rfl,_,rfl,pa,_,r.pl,.str qs.name,rfl,rfl,SqT.of hpa,(by rw [e1];exact ar hq2),d,.ref b,rfl,(by rw [<- eb];exact DGet.k (k:=.inr qs.name) gd),b,_,rfl,.inr (SqT.of hb),rfl,db _,?_⟩
     rw [if_pos rfl,di,<- edn]
     exact q H (Same.refl H)
   ·rw [decide_eq_false c]
    refine bh ⟨_,rfl,oa,_,1,.int (k:Int),rfl,rfl,SqT.of hoa,ar (j:=1) rfl,_,rfl,_,_,rfl,rfl,?_⟩
    have e:cA ⟨fr,r,n,[.inr "part",.inl (k:Int),.inr x]⟩=decide ((k:Int) >r.pl):=(if_neg (show ¬ r.pl<0 by lia)).trans (if_neg c)
    rw [e]at q
    exact q H (Same.refl H)
end
theorem nv: ∀ {a acc b:List (List Key)},dd acc (a++b)=dd (dd acc a) b
 | [],_,_=>rfl
 | x::a,acc,b=>nv (a:=a)
theorem vy: ∀ {rs acc:List (List Key)} {x:List Key},x∈acc\/x∈rs->x∈dd acc rs
 | [],acc,x,h=>h.elim id (fun z=>by cases z)
 | y::r,acc,x,h=>by
  refine vy (rs:=r) ?_
  by_cases e:y∈acc
  ·rw [if_pos e]
   rcases h with h | h
   ·exact .inl h
   ·rcases List.mem_cons.mp h with z | z
    ·exact .inl (by rw [z];exact e)
    ·exact .inr z
  ·rw [if_neg e]
   rcases h with h | h
   ·exact .inl (List.mem_append_left _ h)
   ·rcases List.mem_cons.mp h with z | z
    ·exact .inl (List.mem_append_right _ (List.mem_singleton.mpr z))
    ·exact .inr z
theorem xR: ∀ {rs b acc:List (List Key)},dd acc (dd b rs)=dd (dd acc b) rs
 | [],_,_=>rfl
 | x::r,b,acc=>by
  show dd acc (dd (if x∈b then b else b++[x]) r)=dd (if x∈dd acc b then dd acc b else dd acc b++[x]) r
  rw [xR (rs:=r)]
  by_cases e:x∈b
  ·rw [if_pos e,if_pos (vy (.inr e))]
  ·rw [if_neg e,nv]
   rfl
theorem xi {H:Hp} {ys:List V} {kss:List (List Key)} (h:KsOf H ys kss):Paired (fun ks y=> ∃ b,y=V.ref b/\H b=some (.tup (List.map kV ks))) kss ys:=by
 induction h with
 | nil=>exact .nil
 | cons a _ ih=>exact .cons a ih
theorem j0 {α β:Type} {F:α->β->Prop}: ∀ {a c:List α} {b d:List β},Paired F a b->Paired F c d->Paired F (a++c) (b++d)
 | _,_,_,_,.nil,h=>h
 | _,_,_,_,.cons x t,h=>.cons x (j0 t h)
theorem jT: ∀ (a b:List Fm),c8 (a++b)=c8 a++c8 b
 | [],_=>rfl
 | x::a,b=>by show x.rdk++c8 (a++b)=(x.rdk++c8 a)++c8 b;rw [jT a b,List.append_assoc]
theorem wY {H:Hp} {fm:Fm} {v:V} (rp:Rep H fm v) (wf:fm.wf):
  (∃ a k r ks,v=.ref a/\H a=some (.tup (.str k::r))/\(k="own"\/k="part")/\H a=some (.tup (ks.map kV))/\fm.rdk=[ks])\/
  (∃ a r,v=.ref a/\H a=some (.tup (.str "num"::r))/\fm.rdk=[])\/
  ∃ a k ws fs,v=.ref a/\H a=some (.tup (.str k::ws))/\k≠"own"/\k≠"part"/\k≠"num"/\Paired (fun f v=>Rep H f v/\f.wf/\f.size<fm.size) fs ws/\fm.rdk=c8 fs/\ws.length<=3:=by
 cases fm with
 | num i=>obtain ⟨a,rfl,ha⟩:=rp;exact .inr (.inl ⟨a,_,rfl,ha,rfl⟩)
 | own x=>obtain ⟨a,rfl,ha⟩:=rp;exact .inl ⟨a,"own",_,[.inr "own",.inr x],rfl,ha,.inl rfl,ha,rfl⟩
 | part k x=>obtain ⟨a,rfl,ha⟩:=rp;exact .inl ⟨a,"part",_,[.inr "part",.inl k,.inr x],rfl,ha,.inr rfl,ha,rfl⟩
 | bin op A B=>
  obtain ⟨a,u,w,rfl,ha,r1,r2⟩:=rp
  obtain ⟨ho,w1,w2⟩:op∈ops/\A.wf/\B.wf:=wf
  have hn:op≠"own"/\op≠"part"/\op≠"num":=by
   unfold ops at ho
   simp only [List.mem_cons,List.not_mem_nil,or_false]at ho
   rcases ho with rfl | rfl | rfl | rfl | rfl <;> decide +kernel
  refine .inr (.inr ⟨a,op,_,[A,B],rfl,ha,hn.1,hn.2.1,hn.2.2,.cons ⟨r1,w1,?_⟩ (.cons ⟨r2,w2,?_⟩ .nil),?_,by simp⟩)
  ·show A.size<A.size+B.size+1;lia
  ·show B.size<A.size+B.size+1;lia
  ·show A.rdk++B.rdk=A.rdk++(B.rdk++[]);rw [List.append_nil]
 | whn A B C=>
  obtain ⟨a,u,w,z,rfl,ha,r1,r2,r3⟩:=rp
  obtain ⟨w1,w2,w3⟩:A.wf/\B.wf/\C.wf:=wf
  refine .inr (.inr ⟨a,"when",_,[A,B,C],rfl,ha,by decide +kernel,by decide +kernel,by decide +kernel,.cons ⟨r1,w1,?_⟩ (.cons ⟨r2,w2,?_⟩ (.cons ⟨r3,w3,?_⟩ .nil)),?_,by simp⟩)
  ·show A.size<A.size+B.size+C.size+1;lia
  ·show B.size<A.size+B.size+C.size+1;lia
  ·show C.size<A.size+B.size+C.size+1;lia
  ·show A.rdk++(B.rdk++C.rdk)=A.rdk++(B.rdk++(C.rdk++[]));rw [List.append_nil]
theorem wA (k x:Str):decide (V.str k=V.str x)=decide (k=x):=decide_eq_decide.mpr ⟨fun e=>V.str.inj e,fun e=>by rw [e]⟩
theorem Ao (x:V) (r:List V):cW (x::r) (some 1) none=r:=by
 have e1:HT.sIx (x::r).length 0 (some 1)=1:=by
  have:HT.sIx (x::r).length 0 (some 1)=min 1 (x::r).length:=HT.sIx_nat _ _ 1
  rw [this,List.length_cons]
  lia
 unfold cW
 rw [e1,HT.sIx_none,List.length_cons,List.drop_one,List.tail_cons,Nat.add_sub_cancel,List.take_length]
theorem qj {p:Addr} {H H':Hp} {xs:List V} (k:Kp p H H') (h:H p=some (.lst xs)):TK H H':=fun b ys e=>k b _ e fun z=>by rw [z,h]at e;cases e
def dJ (n:Nat):Sp:=fun vs H Q _=> ∃ v fm,vs=[v]/\Rep H fm v/\fm.wf/\fm.size<=n/\n<=15/\ ∀ p ys H',H p=none->Same H H'->H' p=some (.lst ys)->KsOf H' ys (dd [] fm.rdk)->Q (.ref p) H'
abbrev zw:List Str:=["formula","found","part","one"]
theorem scLRead:aB zw ["formula"] (ag mq):=fsc
theorem sQ {n:Nat} (F:Fun K "_law_read" "_law_read" mq f fd) (GR:FnOk P w K mg base CX0 (n+1) f fd ["formula"] (dJ n)) (bR:Binds K fd ["formula"] []) (mR:mg "_law_read"=some (.ref f)):
  FnOk P w K mg base CX0 (n+2) f fd ["formula"] (dJ (n+1)):=by
 refine F.ok scLRead (fun vs H Q E h=>?_) (fun cdv A outer s H vs Q E hr h=>?_)
 ·obtain ⟨v,fm,rfl,_⟩:=h
  rfl
 obtain ⟨v,fm,rfl,hF,hwf,hsz,hn,q⟩:=h
 have hu:=cF hr
 refine ⟨_,ae (aY (aw fi (ao (r:=aC K) al (pv 0) ad (fun _ _=>rfl)) (aP (aa aX (aa aX ac))) (by with_unfolding_all rfl)) (ai (ax (aU (aa (pv 0) ac)))) aK)
  (ae (aq (i:=1) scLRead.nd rfl (Or.inl rfl) (aU ac))
  (ae (aY (aw zU (ao (r:=aC K) al (pv 0) ad (fun _ _=>rfl)) aX (ay _))
   (ai (bg PassesOwn.never rfl (cf (aN iA (pv 0) (aV ad) aZ)) (aH (i:=2) scLRead.nd rfl (Or.inl rfl))
    (ai (bg PassesOwn.never rfl (bu (ak GR hr rfl mR F.kp bR .nil av (aa (pv 2) ac))) (aH (i:=3) scLRead.nd rfl (Or.inl rfl))
     (ai (aY (aw (jl (Nat.lt_of_le_of_lt (Nat.add_le_add_left (by decide:1<=16) _) hu)) (pv 3) (pv 1) (by with_unfolding_all rfl))
      (ai (cJ (dH PySem.F.plainAttrs_list PySem.F.slot_list_append PySem.F.type_list_append bM (pv 1) (aa (pv 3) ac)))) aK)))))) aK)
  (ai (ax (pv 1))))),?_⟩
 rcases wY hF hwf with ⟨a,k,r,ks,rfl,ha,hk,hks,hrd⟩ | ⟨a,r,rfl,ha,hrd⟩ | ⟨a,k,ws,fs,rfl,ha,hk1,hk2,hk3,hP,hrd,hws⟩
 ·refine ⟨_,rfl,a,_,0,.str k,rfl,rfl,SqT.of ha,bi,(by show 2<=sizeLine;decide),fun T hT=>?_⟩
  have s1:=af hT (.tup [.str "own",.str "part"])
  have g1:(upd H T (.tup [.str "own",.str "part"])) T=some (.tup [.str "own",.str "part"]):=ab
  generalize upd H T (.tup [.str "own",.str "part"])=H1 at s1 g1 ⊢
  refine ⟨T,_,rfl,.inr (SqT.of g1),rfl,rfl,_,rfl,?_⟩
  refine cU (fun _=>?_) (fun c=>absurd ?_ c)
  ·refine ⟨_,rfl,(by show 1<=sizeLine;decide),fun p hp=>?_⟩
   have s2:=af hp (.lst [.ref a])
   refine q p [.ref a] _ (s1.free hp) (s1.trans s2) ab ?_
   rw [hrd]
   exact .cons ⟨a,rfl,s2 _ _ (s1 _ _ hks)⟩ .nil
  ·show inV (.str k) [.str "own",.str "part"]=true
   rw [dD]
   rcases hk with rfl | rfl <;> rfl
 ·refine ⟨_,rfl,a,_,0,.str "num",rfl,rfl,SqT.of ha,bi,(by show 2<=sizeLine;decide),fun T hT=>?_⟩
  have s1:=af hT (.tup [.str "own",.str "part"])
  have g1:(upd H T (.tup [.str "own",.str "part"])) T=some (.tup [.str "own",.str "part"]):=ab
  generalize upd H T (.tup [.str "own",.str "part"])=H1 at s1 g1 ⊢
  refine ⟨T,_,rfl,.inr (SqT.of g1),rfl,rfl,_,rfl,?_⟩
  refine cU (fun c=>absurd c (by rw [show (if false=true then !inV (V.str "num") [V.str "own",V.str "part"]else inV (V.str "num") [V.str "own",V.str "part"])=inV (V.str "num") [V.str "own",V.str "part"]from rfl,dD];decide +kernel)) (fun _=>?_)
  refine ⟨(by show 0<=sizeLine;decide),fun p hp=>?_⟩
  have s2:=af hp (.lst [])
  have g2:(upd H1 p (.lst [])) p=some (.lst []):=ab
  have hp0:=s1.free hp
  generalize upd H1 p (.lst [])=H2 at s2 g2 ⊢
  refine ⟨_,rfl,a,_,0,.str "num",rfl,rfl,SqT.of (s2 _ _ (s1 _ _ ha)),bi,rfl,_,rfl,?_⟩
  rw [decide_eq_true (show V.str "num"=V.str "num" from rfl)]
  refine bh ⟨_,rfl,?_⟩
  exact q p [] H2 hp0 (s1.trans s2) g2 (by rw [hrd];exact .nil)
 ·refine ⟨_,rfl,a,_,0,.str k,rfl,rfl,SqT.of ha,bi,(by show 2<=sizeLine;decide),fun T hT=>?_⟩
  have s1:=af hT (.tup [.str "own",.str "part"])
  have g1:(upd H T (.tup [.str "own",.str "part"])) T=some (.tup [.str "own",.str "part"]):=ab
  generalize upd H T (.tup [.str "own",.str "part"])=H1 at s1 g1 ⊢
  refine ⟨T,_,rfl,.inr (SqT.of g1),rfl,rfl,_,rfl,?_⟩
  refine cU (fun c=>absurd c (by rw [show (if false=true then !inV (V.str k) [V.str "own",V.str "part"]else inV (V.str k) [V.str "own",V.str "part"])=inV (V.str k) [V.str "own",V.str "part"]from rfl,dD,decide_eq_false hk1,decide_eq_false hk2];decide)) (fun _=>?_)
  refine ⟨(by show 0<=sizeLine;decide),fun p hp=>?_⟩
  have s2:=af hp (.lst [])
  have g2:(upd H1 p (.lst [])) p=some (.lst []):=ab
  have hp0:=s1.free hp
  generalize upd H1 p (.lst [])=H2 at s2 g2 ⊢
  have S2:=s1.trans s2
  refine ⟨_,rfl,a,_,0,.str k,rfl,rfl,SqT.of (S2 _ _ ha),bi,rfl,_,rfl,?_⟩
  rw [wA,decide_eq_false hk3]
  refine bt ⟨_,rfl,1,rfl,a,_,rfl,S2 _ _ ha,fun pt H3 s3 gpt=>?_⟩
  rw [Ao]at gpt
  refine ⟨pt,rfl,⟨_,SqT.of gpt⟩,?_⟩
  have g3:=s3 _ _ g2
  have S3:Same H H3:=S2.trans s3
  have hlen: ∀ i,(dd [] (c8 (fs.take i))).length<=15:=fun i=>by
   have h1:=gk (rs:=c8 (fs.take i)) (acc:=[])
   have h2:(c8 fs).length<=fm.size:=by rw [<- hrd];exact dg fm
   rw [<- List.take_append_drop i fs,jT,List.length_append]at h2
   rw [List.length_nil]at h1
   lia
  have lfs:fs.length=ws.length:=Paired.length hP
  refine eR (xs:=ws) (fun i Z H'=>i<=ws.length/\ ∃ o2 o3 ys,Z=[some (.ref a),some (.ref p),o2,o3]/\Kp p H3 H'/\H' p=some (.lst ys)/\KsOf H' ys (dd [] (c8 (fs.take i))))
   ⟨Nat.zero_le _,none,none,[],rfl,Kp.refl,g3,.nil⟩ (fun i Z H' _ h=>by obtain ⟨_,_,_,_,_,kp,_⟩:=h;exact SqT.of (qj kp g3 _ _ gpt)) ?_ ?_
  ·rintro i x Z H4 hx ⟨_,o2,o3,ys,rfl,k4,g4,hK4⟩
   have hil:i<ws.length:=(List.getElem?_eq_some_iff.mp hx).1
   obtain ⟨f1,hf1,r1,r2,r3⟩:=aJ hP hx
   have tk4:=qj k4 g3
   refine ⟨_,rfl,x,f1,rfl,(r1.mono (au S3)).mono tk4,r2,by lia,by lia,fun l zs H5 hl s5 gl hK5=>?_⟩
   refine ⟨l,rfl,⟨zs,SqL.of gl⟩,?_⟩
   have g5:=s5 _ _ g4
   have nlp:l≠p:=fun z=>by rw [z,g4]at hl;cases hl
   have lzs:zs.length=(dd [] f1.rdk).length:=Paired.length hK5
   have etake:fs.take (i+1)=fs.take i++[f1]:=by rw [List.take_add_one,hf1];rfl
   have eend:dd (dd [] (c8 (fs.take i))) (dd [] f1.rdk)=dd [] (c8 (fs.take (i+1))):=by
    rw [xR,etake,jT,nv]
    show _=dd _ (f1.rdk++[])
    rw [List.append_nil]
    rfl
   refine dj (xs:=zs) (fun j Z H'=>j<=zs.length/\ ∃ o3 ys',Z=[some (.ref a),some (.ref p),some x,o3]/\Kp p H5 H'/\H' p=some (.lst ys')/\KsOf H' ys' (dd (dd [] (c8 (fs.take i))) ((dd [] f1.rdk).take j)))
    ⟨Nat.zero_le _,o3,ys,rfl,Kp.refl,g5,hK4.mono fun b xs e=>s5 _ _ e⟩ (fun j Z H' _ h=>by obtain ⟨_,_,_,_,kp,_⟩:=h;exact SqL.of (kp _ _ gl nlp)) ?_ ?_
   ·rintro j y Z H6 hy ⟨_,o3',ys',rfl,k6,g6,hK6⟩
    have hjl:j<zs.length:=(List.getElem?_eq_some_iff.mp hy).1
    obtain ⟨ks,hks,b,rfl,hb⟩:=aJ (xi hK5) hy
    have hb6:=qj k6 g5 _ _ hb
    have estep:dd (dd [] (c8 (fs.take i))) ((dd [] f1.rdk).take (j+1))=if ks∈dd (dd [] (c8 (fs.take i))) ((dd [] f1.rdk).take j)then dd (dd [] (c8 (fs.take i))) ((dd [] f1.rdk).take j)else dd (dd [] (c8 (fs.take i))) ((dd [] f1.rdk).take j)++[ks]:=by
     rw [List.take_add_one,hks,nv]
     rfl
    have l6:ys'.length=(dd (dd [] (c8 (fs.take i))) ((dd [] f1.rdk).take j)).length:=Paired.length hK6
    have lb:(dd (dd [] (c8 (fs.take i))) ((dd [] f1.rdk).take j)).length<=60:=by
     have h1:=gk (rs:=(dd [] f1.rdk).take j) (acc:=dd [] (c8 (fs.take i)))
     have h2:=hlen i
     have h3:=gk (rs:=f1.rdk) (acc:=[])
     have h4:=dg f1
     rw [List.length_take]at h1
     rw [List.length_nil]at h3
     lia
    refine ⟨_,rfl,_,rfl,b,p,ks,ys',_,rfl,rfl,hb6,SqL.of g6,hK6,_,rfl,?_⟩
    by_cases hm:ks∈dd (dd [] (c8 (fs.take i))) ((dd [] f1.rdk).take j)
    ·rw [if_pos hm]at estep
     refine cU (fun c=>?_) (fun _=>⟨hjl,_,ys',rfl,k6,g6,by rw [estep];exact hK6⟩)
     rw [if_pos rfl,decide_eq_true hm]at c
     cases c
    ·rw [if_neg hm]at estep
     refine cU (fun _=>?_) (fun c=>absurd (by rw [if_pos rfl,decide_eq_false hm];rfl) c)
     refine ⟨_,rfl,.inl ⟨rfl,_,SqL.of g6⟩,_,rfl,p,_,_,rfl,rfl,g6,aG (by lia),?_⟩
     have tk:TK H6 (upd H6 p (.lst (ys'++[.ref b]))):=TK.lst g6
     refine ⟨hjl,_,_,rfl,fun b' o' e' n'=>by rw [am n'];exact k6 _ _ e' n',ab,?_⟩
     rw [estep]
     exact j0 (hK6.mono tk) (.cons ⟨b,rfl,tk _ _ hb6⟩ .nil)
   ·rintro Z H6 ⟨_,o3',ys',rfl,k6,g6,hK6⟩
    rw [lzs,List.take_length,eend]at hK6
    exact ⟨hil,_,_,ys',rfl,fun b' o' e' n'=>k6 _ _ (s5 _ _ (k4 _ _ e' n')) n',g6,hK6⟩
  ·rintro Z H4 ⟨_,o2,o3,ys,rfl,k4,g4,hK4⟩
   rw [<- lfs,List.take_length,<- hrd]at hK4
   exact ⟨_,rfl,q p ys H4 hp0 (fun b' o' e'=>k4 _ _ (S3 _ _ e') (aj e' hp0)) g4 hK4⟩
theorem sR:FnOk P w K mg base CX0 1 f fd ["formula"] (dJ 0):=by
 have no: ∀ vs H Q E,¬ dJ 0 vs H Q E:=fun vs H Q E h=>by
  obtain ⟨v,fm,_,_,_,h,_⟩:=h
  have:=fm.size_pos
  lia
 exact ⟨fun vs H Q E h=>absurd h (no vs H Q E),fun A outer s H args us vs Q E _ _ _ _ h=>absurd h (no vs H Q E)⟩
theorem oy (F:Fun K "_law_read" "_law_read" mq f fd) (bR:Binds K fd ["formula"] []) (mR:mg "_law_read"=some (.ref f)): ∀ n:Nat,FnOk P w K mg base CX0 (n+1) f fd ["formula"] (dJ n)
 | 0=>sR
 | n+1=>sQ F (oy F bR mR n) bR mR
def RepEd (H:Hp) (l:Lk) (v:V):Prop:= ∃ a pt pr st c,v=.ref a/\H a=some (.tup [.ref pt,.ref pr,.int (if cA l then 1 else 0),.bl (ik l),.ref st,.int l.r.pl])/\H pt=some (.tup [.str l.tw.1,.str l.tw.2])/\H pr=some (.tup [.str l.rw_.1,.str l.rw_.2])/\
 H st=some (.tup [.str l.fr.name,.int (l.n:Int),.ref c])/\H c=some (.tup (l.ks.map kV))
theorem RepEd.mono {H H':Hp} (t:TK H H') {l:Lk} {v:V}:RepEd H l v->RepEd H' l v:=fun ⟨a,pt,pr,st,c,e,h1,h2,h3,h4,h5⟩=>⟨a,pt,pr,st,c,e,t _ _ h1,t _ _ h2,t _ _ h3,t _ _ h4,t _ _ h5⟩
def l9:Sp:=fun vs H Q _=> ∃ bv bk,vs=[bv]/\RepB H bk bv/\BkT bk/\ ∀ p es m H',FixS bk m->H p=none->Same H H'->H' p=some (.lst es)->Paired (RepEd H') (dq (bk.forms.filter (aM m))) es->Q (.ref p) H'
theorem r0 {fr:Frm} {i:Int} (h:i<0):fI fr i=fr.own.name:=if_pos h
theorem jH {fr:Frm} {j:Nat} {q:Srt} (h:fr.parts[j]? =some q):fI fr (j:Int)=q.name:=by
 unfold fI
 rw [if_neg (by lia),Int.toNat_natCast,h]
 rfl
theorem vJ {c:Bool} {A:Prop} {D:cH} {Z:St} {H:Hp} (i:Nat) (R:V->Hp->Prop) (v:V) (e:Z.set i (some v)=Z) (hb:c=false->R v H) (h: ∀ v H',R v H'->D.nx (Z.set i (some v)) H') (ha:c=true->(∀ v H',R v H'->D.nx (Z.set i (some v)) H')->A):if c=true then A else ui D Z H:=by
 cases c with
 | false=>exact bh (e▸h _ _ (hb rfl))
 | true=>exact bt (ha rfl h)
section
variable {P:Program} {w:World} {K:W.Frag} {mg:Str->Option Value} {base:Heap} {f f2 f3 f4 f5 f6:Addr} {fd fd2 fd3 fd4 fd5 fd6:FuncData} {bk:Bk}
abbrev ko:List Str:=["downs","form","at","one"]
theorem uA:aB ko ko (ag my):=fsc
theorem tm (F:Fun K "_law_is_beside" "_law_is_beside" my f fd):FnOk P w K mg base CX0 1 f fd ko (fR bk):=by
 refine F.ok uA (fun vs H Q E h=>?_) (fun cdv A outer s H vs Q E hr h=>?_)
 ·obtain ⟨d,oa,v,l,rfl,_⟩:=h
  rfl
 obtain ⟨d,oa,v,l,rfl,hd,hF,hoa,hT,hl,q⟩:=h
 have hu:=cF hr
 refine ⟨_,ae (aY (aw fK (pv 2) ad (ay _)) (ai (ax (eV (a7 bq (ao (r:=aC K) al (pv 3) ad (fun _ _=>rfl)) aX (ay _)) (dZ (a7 dM (ao (r:=aC K) al (pv 3) ad (fun _ _=>rfl)) (cx hu (pv 0) (ao (r:=aC K) al (pv 1) ad (fun _ _=>rfl)) (fun _ _=>rfl)) (by with_unfolding_all rfl)))))) aK)
  (ai (ax (eV (a7 bq (ao (r:=aC K) al (pv 3) ad (fun _ _=>rfl)) aX (ay _)) (eV (a7 bq (ao (r:=aC K) al (pv 3) ad (fun _ _=>rfl)) (pv 2) (ay _)) (dZ (a7 fi (ao (r:=aC K) al (pv 3) ad (fun _ _=>rfl)) (cx hu (pv 0) (ao (r:=aC K) al (ao (r:=aC K) al (pv 1) ad (fun _ _=>rfl)) (pv 2) (fun _ _=>rfl)) (fun _ _=>rfl)) (by with_unfolding_all rfl))))))),?_⟩
 obtain ⟨fa,pa,ra,rv,rfl,hfa,hpa,_⟩:=hF
 obtain ⟨kvs,gd,hdn⟩:=hd
 have ht:=hl.tg hT
 have hks:=hl.ks
 have hown:=(hT.g.ok _ hl.fr).1
 have hprt:=(hT.g.ok _ hl.fr).2.1
 obtain ⟨fr,r,n,ks⟩:=l
 simp only at ht hks hown hprt hoa hfa hpa ⊢
 have q:=q H (Same.refl H)
 refine ⟨_,rfl,_,_,rfl,rfl,_,rfl,?_⟩
 rcases ht with ⟨e1,_⟩ | ⟨j,qs,e1,hq,_⟩
 ·rw [decide_eq_true (show r.pl<0 by lia)]
  rcases hks with ⟨x,rfl,hx⟩ | ⟨k,q',x,rfl,hq',hx⟩
  ·obtain ⟨b,eb,hb⟩:=hdn fr.own hown
   have e:ik ⟨fr,r,n,[.inr "own",.inr x]⟩= !decide (x∈fr.own.downs):=if_pos (show r.pl<0 by lia)
   rw [e]at q
   refine bt ⟨_,rfl,oa,_,0,.str "own",rfl,rfl,SqT.of hoa,bi,rfl,_,rfl,?_⟩
   rw [decide_eq_true rfl]
   refine bt ⟨_,rfl,oa,_,1,.str x,rfl,rfl,SqT.of hoa,ar (j:=1) rfl,_,rfl,_,rfl,fa,_,1,.str fr.own.name,rfl,rfl,SqT.of hfa,ar (j:=1) rfl,d,.ref b,rfl,(by rw [<- eb];exact DGet.k (k:=.inr fr.own.name) gd),b,_,rfl,.inr (SqT.of hb),rfl,db _,?_⟩
   rw [if_pos rfl,di]
   exact q
  ·have e:ik ⟨fr,r,n,[.inr "part",.inl (k:Int),.inr x]⟩=false:=if_pos (show r.pl<0 by lia)
   rw [e]at q
   refine bt ⟨_,rfl,oa,_,0,.str "part",rfl,rfl,SqT.of hoa,bi,rfl,_,rfl,?_⟩
   rw [decide_eq_false (by decide +kernel)]
   exact bh q
 ·rw [decide_eq_false (show ¬ r.pl<0 by lia)]
  have hq2:(be fr.parts)[j]? =some (.str qs.name):=by unfold be;rw [List.getElem?_map,hq];rfl
  refine bh ?_
  rcases hks with ⟨x,rfl,hx⟩ | ⟨k,q',x,rfl,hq',hx⟩
  ·have e:ik ⟨fr,r,n,[.inr "own",.inr x]⟩=false:=if_neg (show ¬ r.pl<0 by lia)
   rw [e]at q
   refine ⟨_,rfl,oa,_,0,.str "own",rfl,rfl,SqT.of hoa,bi,rfl,_,rfl,?_⟩
   rw [decide_eq_false (by decide +kernel)]
   exact bh q
  ·obtain ⟨b,eb,hb⟩:=hdn qs (hprt qs (List.mem_of_getElem? hq))
   have edn:iI fr r.pl=qs.downs:=by
    unfold iI
    rw [e1,Int.toNat_natCast,hq]
    rfl
   have e:ik ⟨fr,r,n,[.inr "part",.inl (k:Int),.inr x]⟩=(decide ((k:Int)=r.pl)&&decide (x∈iI fr r.pl)):=if_neg (show ¬ r.pl<0 by lia)
   rw [e]at q
   refine ⟨_,rfl,oa,_,0,.str "part",rfl,rfl,SqT.of hoa,bi,rfl,_,rfl,?_⟩
   rw [decide_eq_true rfl]
   refine bt ⟨_,rfl,oa,_,1,.int (k:Int),rfl,rfl,SqT.of hoa,ar (j:=1) rfl,_,rfl,rfl,_,rfl,?_⟩
   have ed:decide (V.int (k:Int)=V.int r.pl)=decide ((k:Int)=r.pl):=decide_eq_decide.mpr ⟨fun z=>V.int.inj z,fun z=>by rw [z]⟩
   rw [ed]
   by_cases c:(k:Int)=r.pl
   ·rw [decide_eq_true c,Bool.true_and]at q
    rw [decide_eq_true c]
    refine bt ⟨_,rfl,oa,_,2,.str x,rfl,rfl,SqT.of hoa,ar (j:=2) rfl,_,rfl,_,rfl,fa,_,2,.ref pa,rfl,rfl,SqT.of hfa,ar (j:=2) rfl,_,rfl,pa,_,r.pl,.str qs.name,rfl,rfl,SqT.of hpa,(by rw [e1];exact ar hq2),d,.ref b,rfl,(by rw [<- eb];exact DGet.k (k:=.inr qs.name) gd),b,_,rfl,.inr (SqT.of hb),rfl,db _,?_⟩
    rw [if_neg Bool.false_ne_true,di,<- edn]
    exact q
   ·rw [decide_eq_false c,Bool.false_and]at q
    rw [decide_eq_false c]
    exact bh q
abbrev AX:List Str:=["book","downs","found","form","number","at","word","formula","told","one","sort","late","near","step"]
theorem scEdges:aB AX ["book"] (ag pR):=fsc
theorem vp (F:Fun K "_law_edges" "_law_edges" pR f fd) (G:Gb mg)
  (GD:FnOk P w K mg base CX0 1 f2 fd2 ["book"] jL) (bD:Binds K fd2 ["book"] []) (kD:W.keepIn K (.ref f2)=true) (mD:mg "_law_downs"=some (.ref f2))
  (GL:FnOk P w K mg base CX0 2 f3 fd3 ["book"] qX) (bL:Binds K fd3 ["book"] []) (kL:W.keepIn K (.ref f3)=true) (mL:mg "_law_live"=some (.ref f3))
  (GR:FnOk P w K mg base CX0 16 f4 fd4 ["formula"] (dJ 15)) (bR:Binds K fd4 ["formula"] []) (kR:W.keepIn K (.ref f4)=true) (mR:mg "_law_read"=some (.ref f4))
  (GA: ∀ bk,FnOk P w K mg base CX0 1 f5 fd5 eF (iz bk)) (bA:Binds K fd5 eF []) (kA:W.keepIn K (.ref f5)=true) (mA:mg "_law_is_late"=some (.ref f5))
  (GB: ∀ bk,FnOk P w K mg base CX0 1 f6 fd6 ko (fR bk)) (bB:Binds K fd6 ko []) (kB:W.keepIn K (.ref f6)=true) (mB:mg "_law_is_beside"=some (.ref f6)):
  FnOk P w K mg base CX0 17 f fd ["book"] l9:=by
 refine F.ok scEdges (fun vs H Q E h=>?_) (fun cdv A outer s H vs Q E hr h=>?_)
 ·obtain ⟨bv,bk,rfl,_⟩:=h
  rfl
 obtain ⟨bv,bk,rfl,hB,hT,q⟩:=h
 have hu:=cF hr
 have hr1:=hr.mono (show 1<=16 by decide)
 have hr2:=hr.mono (show 2<=16 by decide)
 refine ⟨_,ae (aq (i:=1) scEdges.nd rfl (Or.inl rfl) (ak GD hr1 rfl mD kD bD .nil av (aa (pv 0) ac)))
  (ae (aq (i:=2) scEdges.nd rfl (Or.inl rfl) (aU ac))
  (ae (bg PassesOwn.never rfl (bu (ak GL hr2 rfl mL kL bL .nil av (aa (pv 0) ac))) (aH (i:=3) scEdges.nd rfl (Or.inl rfl))
   (ai (bg PassesOwn.never rfl (br rfl G.range (aa (aF (r:=de K) aA rfl G.len PySem.boot_len (aa (ao (r:=aC K) al (pv 3) ad (fun _ _=>rfl)) ac)) ac)) (aH (i:=4) scEdges.nd rfl (Or.inl rfl))
   (ae (pV (ao (r:=aC K) al (ao (r:=aC K) al (pv 3) ad (fun _ _=>rfl)) (pv 4) (fun _ _=>rfl)) (eU rfl (aT (aH (i:=5) scEdges.nd rfl (Or.inl rfl)) (aT (aH (i:=6) scEdges.nd rfl (Or.inl rfl)) (aT (aH (i:=7) scEdges.nd rfl (Or.inl rfl)) dv)))))
  (ae (aq (i:=8) scEdges.nd rfl (Or.inl rfl) (aP (aa (ao (r:=aC K) al (pv 3) ad (fun _ _=>rfl)) (aa (pv 6) ac))))
  (ae (aY (aw xO (pv 5) ad (ay _)) (ai (aq (i:=8) scEdges.nd rfl (Or.inl rfl) (aP (aa (ao (r:=aC K) al (ao (r:=aC K) al (pv 3) ad (fun _ _=>rfl)) (pv 5) (fun _ _=>rfl)) (aa (pv 6) ac))))) aK)
  (ai (bg PassesOwn.never rfl (bu (ak GR hr rfl mR kR bR .nil av (aa (pv 7) ac))) (aH (i:=9) scEdges.nd rfl (Or.inl rfl))
   (ae (aq (i:=10) scEdges.nd rfl (Or.inl rfl) (ao (r:=aC K) al (pv 3) ad (fun _ _=>rfl)))
  (ae (aY (aw bq (ao (r:=aC K) al (pv 9) ad (fun _ _=>rfl)) aX (ay _)) (ai (aq (i:=10) scEdges.nd rfl (Or.inl rfl) (ao (r:=aC K) al (ao (r:=aC K) al (pv 3) ad (fun _ _=>rfl)) (ao (r:=aC K) al (pv 9) ad (fun _ _=>rfl)) (fun _ _=>rfl)))) aK)
  (ae (aq (i:=11) scEdges.nd rfl (Or.inl rfl) (bj ft rfl G.int (by decide +kernel) (aa (ak (GA bk) hr1 rfl mA kA bA .nil av (aa (pv 1) (aa (pv 3) (aa (pv 5) (aa (pv 6) (aa (pv 9) ac)))))) ac)))
  (ae (aq (i:=12) scEdges.nd rfl (Or.inl rfl) (ak (GB bk) hr1 rfl mB kB bB .nil av (aa (pv 1) (aa (pv 3) (aa (pv 5) (aa (pv 9) ac))))))
  (ae (aq (i:=13) scEdges.nd rfl (Or.inl rfl) (aP (aa (ao (r:=aC K) al (pv 3) ad (fun _ _=>rfl)) (aa (pv 4) (aa (pv 9) ac)))))
  (ai (cJ (dH PySem.F.plainAttrs_list PySem.F.slot_list_append PySem.F.type_list_append bM (pv 2) (aa (aP (aa (pv 8) (aa (aP (aa (pv 10) (aa (ao (r:=aC K) al (pv 9) (dY c7 ad) (fun _ _=>rfl)) ac))) (aa (pv 11) (aa (pv 12) (aa (pv 13) (aa (pv 5) ac))))))) ac)))))))))))))))))
  (ai (ax (pv 2))))),?_⟩
 refine ⟨_,rfl,bv,bk,rfl,hB,hT.g,fun d H0 hd s0 hdn=>?_⟩
 refine ⟨(by show 0<=sizeLine;decide),fun fl hfl=>?_⟩
 have ndf:d≠fl:=fun z=>by obtain ⟨kvs,g,_⟩:=hdn;rw [z,hfl]at g;cases g
 have s1:=af hfl (.lst [])
 have g1:(upd H0 fl (.lst [])) fl=some (.lst []):=ab
 generalize upd H0 fl (.lst [])=H1 at s1 g1 ⊢
 have hfl0:H fl=none:=s0.free hfl
 refine ⟨_,rfl,bv,bk,rfl,(hB.mono (au s0)).mono (au s1),hT.g,fun p zs m H2 hfix hp s2 gp hz=>⟨p,rfl,⟨_,SqL.of gp⟩,?_⟩⟩
 have q:=fun es H'=>q fl es m H' hfix hfl0
 have hmem: ∀ fr∈bk.forms.filter (aM m),fr∈bk.forms:=fun fr h=>(List.mem_filter.mp h).1
 have hrdm: ∀ l∈dq (bk.forms.filter (aM m)),LkOk bk l:=fun l hl=>vA hT hl
 have lenL:(bk.forms.filter (aM m)).length<=10:=Nat.le_trans (List.length_filter_le _ _) hT.g.few
 generalize bk.forms.filter (aM m)=fs at *
 have lz:fs.length=zs.length:=Paired.length hz
 have g2:=s2 _ _ g1
 have npf:p≠fl:=fun z=>by rw [z,g1]at hp;cases hp
 have hdn2:=(hdn.same s1).same s2
 have S02:=s1.trans s2
 have tkf: ∀ {Ha H':Hp} {xs:List V},Ha fl=some (.lst xs)->Kp fl Ha H'->TK Ha H':=fun g k b xs h=>k _ _ h fun z=>by rw [z,g]at h;cases h
 have hbd: ∀ fr∈fs,(∀ r∈fr.rules,r.fm.size<=15)/\fr.rules.length<=12:=fun fr hf=>⟨fun r hr'=>((hT.fr fr (hmem fr hf)).fm r hr').2,eM hT (hmem fr hf)⟩
 refine dj (xs:=zs) (fun i Z H'=>i<=zs.length/\ ∃ o3 o4 o5 o6 o7 o8 o9 o10 o11 o12 o13 es,Z=[some bv,some (.ref d),some (.ref fl),o3,o4,o5,o6,o7,o8,o9,o10,o11,o12,o13]/\Kp fl H2 H'/\H' fl=some (.lst es)/\Paired (RepEd H') (dq (fs.take i)) es)
  ⟨Nat.zero_le _,none,none,none,none,none,none,none,none,none,none,none,[],rfl,Kp.refl,g2,.nil⟩ (fun i Z H' _ h=>by obtain ⟨_,_,_,_,_,_,_,_,_,_,_,_,_,_,k,_⟩:=h;exact SqL.of (k _ _ gp npf)) ?_ ?_
 ·rintro i v Z H3 hv ⟨hi,o3,o4,o5,o6,o7,o8,o9,o10,o11,o12,o13,es,rfl,k3,g3,hP3⟩
  have hil:i<zs.length:=(List.getElem?_eq_some_iff.mp hv).1
  obtain ⟨fr,hfr,hRF⟩:=aJ hz hv
  have hfm:=hmem fr (List.mem_of_getElem? hfr)
  have h12:=eM hT hfm
  have hFT:=hT.fr fr hfm
  have hRF3:=hRF.mono (tkf g2 k3)
  obtain ⟨fa,pa,ra,rv,rfl,hfa,hpa,hra,hR⟩:=id hRF3
  have lR:=hR.len
  refine ⟨_,rfl,fa,_,3,.ref ra,rfl,rfl,SqT.of hfa,ar (j:=3) rfl,ra,rv,rfl,.inr (SqT.of hra),_,rfl,by lia,by lia,?_⟩
  refine cB (fun j Z H'=>j<=rv.length/\ ∃ o4 o5 o6 o7 o8 o9 o10 o11 o12 o13 es,Z=[some bv,some (.ref d),some (.ref fl),some (.ref fa),o4,o5,o6,o7,o8,o9,o10,o11,o12,o13]/\Kp fl H3 H'/\H' fl=some (.lst es)/\Paired (RepEd H') (dq (fs.take i)++eI fr 0 (fr.rules.take j)) es)
   ⟨Nat.zero_le _,o4,o5,o6,o7,o8,o9,o10,o11,o12,o13,es,rfl,Kp.refl,g3,by rw [List.take_zero];show Paired _ (_++[]) _;rw [List.append_nil];exact hP3⟩ ?_ ?_
  ·rintro j Z H4 hjl ⟨_,o4,o5,o6,o7,o8,o9,o10,o11,o12,o13,es4,rfl,k4,g4,hP4⟩
   rw [show (0:Int) + (j:Int)=(j:Int) by lia]
   have hjl:j<rv.length:=by lia
   have hx:rv[j]? =some rv[j]:=List.getElem?_eq_getElem hjl
   obtain ⟨r,hr',a,u,ea,ha,hu'⟩:=aJ hR hx
   rw [ea]at hx
   have hrm:=List.mem_of_getElem? hr'
   obtain ⟨hwf,hsz⟩:=hFT.fm r hrm
   have tk4:=tkf g3 k4
   have hfa4:=tk4 _ _ hfa
   have hpa4:=tk4 _ _ hpa
   have htg:(r.pl= -1/\r.word∈fr.own.ups)\/ ∃ (j:Nat) (q:Srt),r.pl=(j:Int)/\fr.parts[j]? =some q/\r.word∈q.downs:=by
    refine tgts_iff.mp ?_
    rw [<- hFT.tg]
    exact List.mem_map.mpr ⟨r,hrm,rfl⟩
   refine ⟨_,rfl,fa,_,3,.ref ra,rfl,rfl,SqT.of hfa4,ar (j:=3) rfl,_,rfl,ra,rv,j,.ref a,rfl,rfl,SqT.of (tk4 _ _ hra),ar hx,?_⟩
   refine ⟨a,_,rfl,SqT.of (tk4 _ _ ha),rfl,_,_,rfl,_,_,rfl,_,_,rfl,rfl,?_⟩
   refine ⟨_,rfl,fa,_,1,.str fr.own.name,rfl,rfl,SqT.of hfa4,ar (j:=1) rfl,_,rfl,(by show 2<=sizeLine;decide),fun p5 hp5=>?_⟩
   have s5:=af hp5 (.tup [.str fr.own.name,.str r.word])
   have g5:(upd H4 p5 (.tup [.str fr.own.name,.str r.word])) p5=some (.tup [.str fr.own.name,.str r.word]):=ab
   generalize upd H4 p5 (.tup [.str fr.own.name,.str r.word])=H5 at s5 g5 ⊢
   refine ⟨_,rfl,_,_,rfl,rfl,_,rfl,?_⟩
   show if decide (r.pl≥0)=true then _ else _
   refine vJ 8 (fun v H'=> ∃ pt,v=.ref pt/\Same H4 H'/\H' pt=some (.tup [.str (fI fr r.pl),.str r.word])) (.ref p5) rfl (fun hc=>?_) (fun v6 H6 ⟨pt,ev6,s46,g6⟩=>?_) (fun hc hN=>?_)
   ·have e1:r.pl<0:=by have:=of_decide_eq_false hc;lia
    exact ⟨p5,rfl,s5,by rw [r0 e1];exact g5⟩
   rotate_left
   ·have e0:r.pl≥0:=of_decide_eq_true hc
    obtain ⟨jj,qs,e1,hqs⟩: ∃ (jj:Nat) (qs:Srt),r.pl=(jj:Int)/\fr.parts[jj]? =some qs:=by
     rcases htg with ⟨e1,_⟩ | ⟨jj,qs,e1,hqs,_⟩
     ·lia
     ·exact ⟨jj,qs,e1,hqs⟩
    have hq2:(be fr.parts)[jj]? =some (.str qs.name):=by unfold be;rw [List.getElem?_map,hqs];rfl
    refine ⟨_,rfl,fa,_,2,.ref pa,rfl,rfl,SqT.of (s5 _ _ hfa4),ar (j:=2) rfl,_,rfl,pa,_,r.pl,.str qs.name,rfl,rfl,SqT.of (s5 _ _ hpa4),(by rw [e1];exact ar hq2),_,rfl,(by show 2<=sizeLine;decide),fun pt hpt=>hN _ _ ⟨pt,rfl,s5.trans (af hpt _),?_⟩⟩
    rw [e1,jH hqs]
    exact ab
   subst ev6
   have tk6:=tk4.trans (au s46)
   have gf6:=s46 _ _ g4
   refine ⟨_,rfl,u,r.fm,rfl,hu'.mono tk6,hwf,hsz,Nat.le_refl _,fun rl ys H7 hrl s7 grl hys=>⟨rl,rfl,⟨_,SqL.of grl⟩,?_⟩⟩
   have gf7:=s7 _ _ gf6
   have nrf:rl≠fl:=fun z=>by rw [z,gf6]at hrl;cases hrl
   have tk7:=tk6.trans (au s7)
   have lys:ys.length=(dd [] r.fm.rdk).length:=Paired.length hys
   have S47:=s46.trans s7
   refine dj (xs:=ys) (fun k Z H'=>k<=ys.length/\ ∃ o9 o10 o11 o12 o13 es,Z=[some bv,some (.ref d),some (.ref fl),some (.ref fa),some (.int (j:Int)),some (.int r.pl),some (.str r.word),some u,some (.ref pt),o9,o10,o11,o12,o13]/\Kp fl H7 H'/\H' fl=some (.lst es)/\Paired (RepEd H') (dq (fs.take i)++eI fr 0 (fr.rules.take j)++fM fr j r ((dd [] r.fm.rdk).take k)) es)
    ⟨Nat.zero_le _,o9,o10,o11,o12,o13,es4,rfl,Kp.refl,gf7,by rw [List.take_zero];show Paired _ (_++[]) _;rw [List.append_nil];exact Paired.mapP hP4 fun _ _ h=>h.mono (au S47)⟩ (fun k Z H' _ h=>by obtain ⟨_,_,_,_,_,_,_,_,k',_⟩:=h;exact SqL.of (k' _ _ grl nrf)) ?_ ?_
   ·rintro k y Z H8 hy ⟨hk,o9,o10,o11,o12,o13,es8,rfl,k8,g8,hP8⟩
    have hkl:k<ys.length:=(List.getElem?_eq_some_iff.mp hy).1
    obtain ⟨ks,hks,b,rfl,hb⟩: ∃ ks,(dd [] r.fm.rdk)[k]? =some ks/\ ∃ b,y=.ref b/\H7 b=some (.tup (List.map kV ks)):=by
     obtain ⟨ks,h1,b,h2,h3⟩:=cD hys hy
     exact ⟨ks,h1,b,h2,h3⟩
    have hksm:ks∈r.fm.rdk:=(dd_iff.mp (List.mem_of_getElem? hks)).elim (fun z=>by cases z) id
    have tk8:=tk7.trans (tkf gf7 k8)
    have hb8:=tkf gf7 k8 _ _ hb
    have hfa8:=tk8 _ _ hfa
    have hpa8:=tk8 _ _ hpa
    have hpt8:=tkf gf7 k8 _ _ (s7 _ _ g6)
    have hRF8:=hRF3.mono tk8
    have hrd:=hFT.rd r hrm ks hksm
    have hok:LkOk bk ⟨fr,r,j,ks⟩:=⟨hfm,hrm,hrd⟩
    have hd8:DnAt H8 d bk:=by
     refine DnAt.kp (c:=fl) k8 ndf (tkf gf7 k8) (DnAt.same S47 (DnAt.kp (c:=fl) k4 ndf tk4 (DnAt.kp (c:=fl) k3 ndf (tkf g2 k3) hdn2)))
    have hlen:es8.length<=1800:=by
     rw [<- Paired.length hP8]
     have h1:=iE (fs:=fs.take i) fun fr hf=>hbd fr (List.mem_of_mem_take hf)
     have h2:=iC (hbd fr (List.mem_of_getElem? hfr)).1 0 (fr.rules.take j) fun x hx=>List.mem_of_mem_take hx
     have h3:=gk (rs:=r.fm.rdk) (acc:=[])
     have h4:=dg r.fm
     unfold fM
     rw [List.length_append,List.length_append,List.length_map,List.length_take]
     rw [List.length_take]at h1 h2
     rw [List.length_nil]at h3
     lia
    have hlast:atI (ks.map kV) (-1)=some (.str (kyL ks).2):=by
     rcases hrd with ⟨x,rfl,_⟩ | ⟨kk,q',x,rfl,_,_⟩ <;> rfl
    refine ⟨_,rfl,fa,_,1,.str fr.own.name,rfl,rfl,SqT.of hfa8,ar (j:=1) rfl,?_⟩
    obtain ⟨z,rest,ek,hz1⟩: ∃ z rest,ks=.inr z::rest/\((z≠"part"/\fr.own.name=fI fr (kyL ks).1)\/ ∃ (kk:Nat) (q':Srt) (x:Str),z="part"/\rest=[.inl (kk:Int),.inr x]/\fr.parts[kk]? =some q'):=by
     rcases hrd with ⟨x,e,_⟩ | ⟨kk,q',x,e,hq',_⟩
     ·exact ⟨_,_,e,.inl ⟨by decide +kernel,by rw [e];rfl⟩⟩
     ·exact ⟨_,_,e,.inr ⟨kk,q',x,rfl,rfl,hq'⟩⟩
    have hb9:=hb8
    rw [ek]at hb9
    refine ⟨_,rfl,b,_,0,.str z,rfl,rfl,SqT.of hb9,bi,rfl,_,rfl,?_⟩
    show if (_:Bool)=true then _ else _
    refine vJ 10 (fun v H'=>H'=H8/\ ∃ y,v=.str y/\y=fI fr (kyL ks).1) (.str fr.own.name) rfl (fun hc=>?_) (fun v9 H9' ⟨eH9,sv,ev9,esv⟩=>?_) (fun hc hN=>?_)
    ·rcases hz1 with ⟨_,e⟩ | ⟨_,_,_,e,_⟩
     ·exact ⟨rfl,_,rfl,e⟩
     ·exact absurd (congrArg V.str e) (of_decide_eq_false hc)
    rotate_left
    ·rcases hz1 with ⟨e,_⟩ | ⟨kk,q',x,_,er,hq'⟩
     ·exact absurd (V.str.inj (of_decide_eq_true hc)) e
     rw [er]at hb9
     have hq3:(be fr.parts)[kk]? =some (.str q'.name):=by unfold be;rw [List.getElem?_map,hq'];rfl
     refine ⟨_,rfl,fa,_,2,.ref pa,rfl,rfl,SqT.of hfa8,ar (j:=2) rfl,_,rfl,b,_,1,.int (kk:Int),rfl,rfl,SqT.of hb9,ar (j:=1) rfl,pa,_,kk,.str q'.name,rfl,rfl,SqT.of hpa8,ar hq3,hN _ _ ⟨rfl,_,rfl,?_⟩⟩
     rw [ek,er]
     exact (jH hq').symm
    subst eH9
    subst ev9
    refine ⟨_,rfl,_,rfl,_,rfl,_,rfl,_,rfl,d,b,_,⟨fr,r,j,ks⟩,rfl,hd8,hRF8,hb8,hT,hok,fun H9 s9=>?_⟩
    refine .inr ⟨_,rfl,?_⟩
    refine ⟨_,rfl,_,rfl,_,rfl,_,rfl,d,b,_,⟨fr,r,j,ks⟩,rfl,hd8.same s9,hRF8.mono (au s9),s9 _ _ hb8,hT,hok,fun HA sA=>?_⟩
    have S8A:=s9.trans sA
    refine ⟨_,rfl,fa,_,0,.str fr.name,rfl,rfl,SqT.of (S8A _ _ hfa8),bi,_,rfl,_,rfl,(by show 3<=sizeLine;decide),fun pst hpst=>?_⟩
    have sB:=af hpst (.tup [.str fr.name,.int (j:Int),.ref b])
    have gB':(upd HA pst (.tup [.str fr.name,.int (j:Int),.ref b])) pst=some (.tup [.str fr.name,.int (j:Int),.ref b]):=ab
    generalize upd HA pst (.tup [.str fr.name,.int (j:Int),.ref b])=HB at sB gB' ⊢
    have S8B:=S8A.trans sB
    refine ⟨_,rfl,.inl ⟨rfl,_,SqL.of (S8B _ _ g8)⟩,_,rfl,_,rfl,_,rfl,1,rfl,b,_,-1,.str (kyL ks).2,rfl,rfl,SqT.of (S8B _ _ hb8),hlast,(by show 2<=sizeLine;decide),fun ppr hppr=>?_⟩
    have sC:=af hppr (.tup [.str sv,.str (kyL ks).2])
    have gC:(upd HB ppr (.tup [.str sv,.str (kyL ks).2])) ppr=some (.tup [.str sv,.str (kyL ks).2]):=ab
    generalize upd HB ppr (.tup [.str sv,.str (kyL ks).2])=HC at sC gC ⊢
    refine ⟨_,rfl,_,rfl,_,rfl,_,rfl,(by show 6<=sizeLine;decide),fun pe hpe=>?_⟩
    have sD:=af hpe (.tup [.ref pt,.ref ppr,.int (if cA ⟨fr,r,j,ks⟩=true then 1 else 0),.bl (ik ⟨fr,r,j,ks⟩),.ref pst,.int r.pl])
    have gD:(upd HC pe (.tup [.ref pt,.ref ppr,.int (if cA ⟨fr,r,j,ks⟩=true then 1 else 0),.bl (ik ⟨fr,r,j,ks⟩),.ref pst,.int r.pl])) pe=some (.tup [.ref pt,.ref ppr,.int (if cA ⟨fr,r,j,ks⟩=true then 1 else 0),.bl (ik ⟨fr,r,j,ks⟩),.ref pst,.int r.pl]):=ab
    generalize upd HC pe (.tup [.ref pt,.ref ppr,.int (if cA ⟨fr,r,j,ks⟩=true then 1 else 0),.bl (ik ⟨fr,r,j,ks⟩),.ref pst,.int r.pl])=HD at sD gD ⊢
    have S8D:=(S8B.trans sC).trans sD
    have gfD:=S8D _ _ g8
    refine ⟨fl,_,_,rfl,rfl,gfD,iV (by lia),?_⟩
    have tkD:TK HD (upd HD fl (.lst (es8++[.ref pe]))):=TK.lst gfD
    refine ⟨hkl,_,_,_,_,_,_,rfl,fun c u' h n=>by rw [am n];exact S8D _ _ (k8 _ _ h n),ab,?_⟩
    unfold fM
    rw [cg hks,List.map_append,<- List.append_assoc]
    refine Paired.snoc (Paired.mapP hP8 fun _ _ h=>h.mono ((au S8D).trans tkD)) ⟨pe,pt,ppr,pst,b,rfl,tkD _ _ gD,tkD _ _ (S8D _ _ hpt8),?_,tkD _ _ (sD _ _ (sC _ _ gB')),tkD _ _ (S8D _ _ hb8)⟩
    show _=some (HO.tup [.str (fI fr (kyL ks).1),.str (kyL ks).2])
    rw [<- esv]
    exact tkD _ _ (sD _ _ gC)
   ·rintro Z H8 ⟨_,o9,o10,o11,o12,o13,es8,rfl,k8,g8,hP8⟩
    rw [lys,List.take_length]at hP8
    refine ⟨hjl,_,_,_,_,_,_,_,_,_,_,es8,rfl,fun c u' h n=>k8 _ _ (S47 _ _ (k4 _ _ h n)) n,g8,?_⟩
    rw [cg hr',i6,List.length_take,show min j fr.rules.length=j by lia,Nat.zero_add,<- List.append_assoc]
    exact hP8
  ·rintro Z H4 ⟨_,o4,o5,o6,o7,o8,o9,o10,o11,o12,o13,es4,rfl,k4,g4,hP4⟩
   rw [Int.toNat_natCast,<- lR,List.take_length]at hP4
   refine ⟨hil,_,_,_,_,_,_,_,_,_,_,_,es4,rfl,fun c u' h n=>k4 _ _ (k3 _ _ h n) n,g4,?_⟩
   rw [cg hfr,i7]
   exact hP4
 ·rintro Z H3 ⟨_,o3,o4,o5,o6,o7,o8,o9,o10,o11,o12,o13,es,rfl,k3,g3,hP3⟩
  rw [<- lz,List.take_length]at hP3
  exact ⟨_,rfl,q es H3 (fun c u' h=>k3 _ _ (S02 _ _ (s0 _ _ h)) (aj h hfl0)) g3 hP3⟩
end
end My
namespace L2
open PySem PySem.Spec PyProof.Rows
section
variable {X:Cx}
theorem fE (hu:X.A.units<cLine):OpR X (compareOp .Eq) (fun x y H Q=> ∃ a b xs,x=.ref a/\y=.ref b/\SqL X.K H a xs/\SqL X.K H b []/\Q (.bl xs.isEmpty) H):=by
 intro pins s Z H x y v u Q I rx ry h
 obtain ⟨a,b,xs,rfl,rfl,ha,hb,q⟩:=h
 cases rx
 cases ry
 obtain ⟨its,r,pl,_⟩:=I.list ha
 obtain ⟨its2,r2,pl2,_⟩:=I.list hb
 cases r2
 cases r with
 | nil=>exact SeqAt.eq_listAt (e:=fun _=>true) pl.isList pl2.isList rfl hu (fun j h1 _=>absurd h1 (Nat.not_lt_zero _)) ⟨.bl _,H,I,rfl,q⟩
 | cons r1 t=>exact SeqAt.eq_list_lengthsAt pl.isList pl2.isList (by simp) hu ⟨.bl _,H,I,rfl,q⟩
noncomputable def isS (z:Str):Value->Bool
 | .str y _=>y==z
 | _=>false
noncomputable def yk:V->List V->Hp->VK->Prop:=fun x vs H Q=> ∃ (l:Addr) (ys:List V) (y:V),x=.ref l/\vs=[y]/\H l=some (.lst ys)/\ys.length<=1000/\
 ((∃ (zs:List Str) (z:Str),ys=zs.map V.str/\y=.str z/\z∈zs)\/ ∃ (a:Addr) (ks:List Key) (kss:List (List Key)),y=.ref a/\H a=some (.tup (ks.map kV))/\KsOf H ys kss/\ks∈kss)/\ ∀ j:Nat,j<ys.length->Q (.int (j:Int)) H
theorem oD (hu:X.A.units+16<cLine):MtR X "list.index" yk:=by
 intro pins s Z H x vs v us Q I rx rv h
 obtain ⟨l,ys,y,rfl,rfl,hl,hlen,hor,q⟩:=h
 cases rx
 obtain ⟨u,rfl,ru⟩:=rv.one
 obtain ⟨zl,its,n,r,hl',e⟩:=I.lstM hl
 have hit:its.length=ys.length:=r.length.symm
 obtain ⟨ef,hef,hex⟩: ∃ ef:Value->Bool,(∀ y,y∈its.toArray->SeqAt.EqAt X.A.in1 s y u (ef y))/\ ∃ w'∈its,ef w'=true:=by
  rcases hor with ⟨zs,z,rfl,rfl,hz⟩ | ⟨a,ks,kss,rfl,ha,hks,hm⟩
  ·obtain ⟨t,rfl⟩:=(show ∃ t,u=Value.str z t from ru)
   have hall: ∀ w'∈its,∃ y t,w'=Value.str y t:=by
    clear hit e hl' hl q hlen hz rv zl
    induction zs generalizing its with
    | nil=>cases r;intro w' h;cases h
    | cons y0 zs ih=>
     cases r with
     | cons r1 r2=>
      intro w' h
      obtain ⟨t0,e0⟩:=(show ∃ t,_=Value.str y0 t from r1)
      rcases List.mem_cons.mp h with rfl | h
      ·exact ⟨y0,t0,e0⟩
      ·exact ih _ r2 w' h
   refine ⟨isS z,fun w' hw=>?_,?_⟩
   ·obtain ⟨y,t2,rfl⟩:=hall w' (by simpa using hw)
    exact SeqAt.EqAt.str_str (A:=X.A.in1) (s:=s) y t2 z t
   ·obtain ⟨i,hi⟩:=List.getElem?_of_mem hz
    obtain ⟨w',hw,rw'⟩:=r.get (i:=i) (x:=V.str z) (by rw [List.getElem?_map,hi];rfl)
    obtain ⟨t2,rfl⟩:=(show ∃ t,w'=Value.str z t from rw')
    exact ⟨_,List.mem_of_getElem? hw,by simp [isS]⟩
  ·cases (show u=Value.ref a from ru)
   refine ⟨nn H ks,fun w' hw=>?_,?_⟩
   ·obtain ⟨b,ls,rfl,hb⟩:=qf r hks w' (by simpa using hw)
    rw [jz hb]
    exact fun prog w'' E Q hq=>wpAny_eqBool_tuple (show X.A.units+1<cLine by lia) (gM I.hok hb) (gM I.hok ha) hq
   ·have:=qB (ks:=ks) r hks
    rw [decide_eq_true hm,List.any_eq_true]at this
    obtain ⟨w',h1,h2⟩:=this
    exact ⟨w',h1,h2⟩
 have hlt:its.findIdx ef<its.length:=List.findIdx_lt_length_of_exists (by obtain ⟨w',h1,h2⟩:=hex;exact ⟨w',h1,h2⟩)
 refine call_meets PySem.F.slot_list_index ⟨_,e,rfl⟩ PySem.F.entry_list_index (PySem.F.args_list_index_2 _ _)
  (SeqAt.list_indexAt l its.toArray n _ _ u ef (its.findIdx ef) (by simpa using hlt) (by lia) ?_ ?_) ⟨e,hef,?_⟩
 ·simpa using List.findIdx_getElem (w:=hlt)
 ·intro m hm hml
  have:=List.not_of_lt_findIdx hml
  simpa using this
 ·exact ⟨.int (its.findIdx ef:Int),H,I.tok _,⟨_,rfl⟩,q _ (by lia)⟩
end
end L2
namespace My
open PySem L2
def EdE (H:Hp) (l:Lk) (kv:Stp×V):Prop:=kv.1=l.stp/\RepEd H l kv.2
theorem EdE.mono {H H':Hp} (t:TK H H') {l:Lk} {kv:Stp×V} (h:EdE H l kv):EdE H' l kv:=⟨h.1,h.2.mono t⟩
theorem oQ {H:Hp}: ∀ {ls:List Lk} {kvs:List (Stp×V)},Paired (EdE H) ls kvs->kvs.map (·.1)=ls.map Lk.stp
 | _,_,.nil=>rfl
 | l::ls,kv::kvs,.cons h t=>by
  show kv.1::kvs.map (·.1)=l.stp::ls.map Lk.stp
  rw [h.1,oQ t]
theorem nr {H:Hp} {s:Stp}: ∀ {lks:List Lk} {kvs:List (Stp×V)},Paired (EdE H) lks kvs->(cC lks s=none/\aW kvs s=none)\/ ∃ l v,cC lks s=some l/\aW kvs s=some v/\RepEd H l v
 | _,_,.nil=>.inl ⟨rfl,rfl⟩
 | l::lks,(k,v)::kvs,.cons h t=>by
  have hk:k=l.stp:=h.1
  by_cases c:l.stp=s
  ·refine .inr ⟨l,v,?_,?_,h.2⟩
   ·unfold cC
    exact List.find?_cons_of_pos (by simp [c])
   ·exact cb (hk.trans c)
  ·have e1:cC (l::lks) s=cC lks s:=by
    unfold cC
    exact List.find?_cons_of_neg (by simp [c])
   have e2:aW ((k,v)::kvs) s=aW kvs s:=bc (fun z=>c (by rw [<- hk];exact z))
   rw [e1,e2]
   exact nr t
def jN:Sp:=fun vs H Q _=> ∃ el es lks,vs=[.ref el]/\H el=some (.lst es)/\Paired (RepEd H) lks es/\(lks.map Lk.stp).Nodup/\lks.length<=1800/\ ∀ d kvs H',H d=none->Same H H'->H' d=some (.dP kvs)->Paired (EdE H') lks kvs->Q (.ref d) H'
def qU (bk:Bk):Sp:=fun vs H Q _=> ∃ d sl kvs lks ys ss,vs=[.ref d,.ref sl]/\H d=some (.dP kvs)/\Paired (EdE H) lks kvs/\BkT bk/\(∀ l∈lks,LkOk bk l)/\H sl=some (.lst ys)/\Paired (RepK3 H) ss ys/\ss.length<=1000/\ ∀ H',Same H H'->Q (.bl (qP lks ss)) H'
theorem pf {row:List Lk} (hne:row≠[]) (p:Lk->Lk->Bool):(∀ (k:Nat) l l',row[k]? =some l->row[(k+1) %row.length]? =some l'->p l l'=true)->(row.zip (bz row)).all (fun a=>p a.1 a.2)=true:=fun h=>by
 refine List.all_eq_true.mpr fun a ha=>?_
 obtain ⟨k,hk⟩:=List.getElem?_of_mem ha
 obtain ⟨h1,h2⟩:=lW hk
 rw [gJ (List.getElem?_eq_some_iff.mp h1).1]at h2
 exact h k _ _ h1 h2
theorem pc {row:List Lk} (hne:row≠[]) (p:Lk->Lk->Bool) {k:Nat} {l l':Lk} (h1:row[k]? =some l) (h2:row[(k+1) %row.length]? =some l') (h:p l l'=false):(row.zip (bz row)).all (fun a=>p a.1 a.2)=false:=by
 rw [Bool.eq_false_iff]
 intro z
 have hk:=(List.getElem?_eq_some_iff.mp h1).1
 have hz:(row.zip (bz row))[k]? =some (l,l'):=by
  rw [List.getElem?_zip_eq_some]
  exact ⟨h1,by rw [gJ hk];exact h2⟩
 have:=List.all_eq_true.mp z _ (List.mem_of_getElem? hz)
 have this:p l l'=true:=this
 rw [h]at this
 cases this
theorem qK {ta tb:TE} {Z:List (Option V)} {H:Hp} {Q:V->Hp->Prop} {c d:Bool} (ha: ∀ R:V->Hp->Prop,R (.bl c) H->ta Z H R) (hb: ∀ R:V->Hp->Prop,R (.bl d) H->tb Z H R) (h:Q (.bl (c||d)) H):xW ta tb Z H Q:=
 ha _ ⟨c,rfl,by cases c with
  | false=>exact hb _ h
  | true=>exact h⟩
theorem jG {ta tb:TE} {Z:List (Option V)} {H:Hp} {Q:V->Hp->Prop} {c d:Bool} (ha: ∀ R:V->Hp->Prop,R (.bl c) H->ta Z H R) (hb: ∀ R:V->Hp->Prop,R (.bl d) H->tb Z H R) (h:Q (.bl (c&&d)) H):qO ta tb Z H Q:=
 ha _ ⟨c,rfl,by cases c with
  | false=>exact h
  | true=>exact hb _ h⟩
theorem yd {ta tb:TE} {g:TG} {u:TS} {D:cH} {Z:List (Option V)} {H:Hp} {c d:Bool} (ha: ∀ R:V->Hp->Prop,R (.bl c) H->ta Z H R) (hb: ∀ R:V->Hp->Prop,R (.bl d) H->tb Z H R) (h:g (.bl (c||d)) Z H (u D)):wv (lZ (xW ta tb) g) u D Z H:=qK ha hb h
theorem wC {ta tb:TE} {g:TG} {u:TS} {D:cH} {Z:List (Option V)} {H:Hp} {c d:Bool} (ha: ∀ R:V->Hp->Prop,R (.bl c) H->ta Z H R) (hb: ∀ R:V->Hp->Prop,R (.bl d) H->tb Z H R) (h:g (.bl (c&&d)) Z H (u D)):wv (lZ (qO ta tb) g) u D Z H:=jG ha hb h
theorem xA {ta tb:TE} {g:TG} {D:cH} {Z:List (Option V)} {H:Hp} {c d:Bool} (ha: ∀ R:V->Hp->Prop,R (.bl c) H->ta Z H R) (hb: ∀ R:V->Hp->Prop,R (.bl d) H->tb Z H R) (h:g (.bl (c&&d)) Z H D.nx):lZ (qO ta tb) g D Z H:=jG ha hb h
theorem qC {α:Type} {p q:α->Bool} {l:List α} (h: ∀ x∈l,p x=q x):l.any p=l.any q:=by
 rw [Bool.eq_iff_iff,List.any_eq_true,List.any_eq_true]
 exact ⟨fun ⟨x,m,e⟩=>⟨x,m,by rw [<- h x m];exact e⟩,fun ⟨x,m,e⟩=>⟨x,m,by rw [h x m];exact e⟩⟩
theorem qD {α:Type} {p q:α->Bool} {l:List α} (h: ∀ x∈l,p x=q x):l.all p=l.all q:=by
 rw [Bool.eq_iff_iff,List.all_eq_true,List.all_eq_true]
 exact ⟨fun g x m=>by rw [<- h x m];exact g x m,fun g x m=>by rw [h x m];exact g x m⟩
section
variable {P:Program} {w:World} {K:W.Frag} {mg:Str->Option Value} {base:Heap} {f f2 f3 f4 f5 f6:Addr} {fd fd2 fd3 fd4 fd5 fd6:FuncData} {bk:Bk}
theorem scByStep:aB ["edges","found","edge"] ["edges"] (ag mw):=fsc
theorem tf (F:Fun K "_law_by_step" "_law_by_step" mw f fd):FnOk P w K mg base CX0 1 f fd ["edges"] jN:=by
 refine F.ok scByStep (fun vs H Q E h=>?_) (fun cdv A outer s H vs Q E hr h=>?_)
 ·obtain ⟨el,es,lks,rfl,_⟩:=h
  rfl
 obtain ⟨el,es,lks,rfl,hel,hes,nd,hlen,q⟩:=h
 have hu:=cF hr
 refine ⟨_,ae (aq (i:=1) scByStep.nd rfl (Or.inl rfl) oj)
  (ae (bg PassesOwn.never rfl (bu (pv 0)) (aH (i:=2) scByStep.nd rfl (Or.inl rfl))
   (ai (dL hu (pv 1) (ao (r:=aC K) al (pv 2) ad (fun _ _=>rfl)) (pv 2) rfl)))
  (ai (ax (pv 1)))),?_⟩
 have les:lks.length=es.length:=Paired.length hes
 refine fun d hd=>?_
 have s0:=af hd (.dP [])
 have g0:(upd H d (.dP [])) d=some (.dP []):=ab
 generalize upd H d (.dP [])=H0 at s0 g0 ⊢
 refine ⟨_,rfl,el,rfl,⟨_,SqL.of (s0 _ _ hel)⟩,?_⟩
 refine dj (xs:=es) (fun i Z H'=>i<=es.length/\ ∃ o2 kvs,Z=[some (.ref el),some (.ref d),o2]/\Same H H'/\H' d=some (.dP kvs)/\Paired (EdE H') (lks.take i) kvs)
  ⟨Nat.zero_le _,none,[],rfl,s0,g0,.nil⟩ (fun i Z H' _ h=>by obtain ⟨_,_,_,_,s',_⟩:=h;exact SqL.of (s' _ _ hel)) ?_ ?_
 ·rintro i x Z H1 hx ⟨hi,o2,kvs,rfl,S1,gd1,hP⟩
  have hil:i<es.length:=(List.getElem?_eq_some_iff.mp hx).1
  obtain ⟨l,hl,hR⟩:=aJ hes hx
  have hR1:=hR.mono (au S1)
  obtain ⟨a,pt,pr,st,c,rfl,ha,hpt,hpr,hst,hc⟩:=id hR1
  have lk:kvs.length=i:=by
   have:=Paired.length hP
   rw [List.length_take]at this
   lia
  refine ⟨_,rfl,_,rfl,_,rfl,a,_,4,.ref st,rfl,rfl,SqT.of ha,ar (j:=4) rfl,d,_,rfl,DPut.p (t:=l.ks) (k:=(.inr l.fr.name,.inl (l.n:Int))) gd1 hst hc (iV (by lia)),?_⟩
  have hn:l.stp∉kvs.map (·.1):=by
   rw [oQ hP,List.map_take]
   exact jE nd (by rw [List.getElem?_map,hl];rfl)
  rw [lj (k:=((l.ks,(.inr l.fr.name,.inl (l.n:Int))):Stp)) hn]
  have tk:TK H1 (upd H1 d (.dP (kvs++[((l.ks,(.inr l.fr.name,.inl (l.n:Int))),.ref a)]))):=fun b xs h=>by rw [am (fun z=>by rw [z,gd1]at h;cases h)];exact h
  refine ⟨hil,_,_,rfl,fun b u h=>by rw [am (aj h hd)];exact S1 _ _ h,ab,?_⟩
  rw [cg hl]
  exact Paired.snoc (Paired.mapP hP fun _ _ h=>h.mono tk) ⟨rfl,hR1.mono tk⟩
 ·rintro Z H1 ⟨_,o2,kvs,rfl,S1,gd1,hP⟩
  rw [<- les,List.take_length]at hP
  exact ⟨_,rfl,q d kvs H1 hd S1 gd1 hP⟩
abbrev wu:List Str:=["by_step","steps","late","near","k","here","after","same"]
theorem scRound:aB wu ["by_step","steps"] (ag gI):=fsc
theorem vb (F:Fun K "_law_are_round" "_law_are_round" gI f fd) (G:Gb mg):FnOk P w K mg base CX0 1 f fd ["by_step","steps"] (qU bk):=by
 refine F.ok scRound (fun vs H Q E h=>?_) (fun cdv A outer s H vs Q E hr h=>?_)
 ·obtain ⟨d,sl,kvs,lks,ys,ss,rfl,_⟩:=h
  rfl
 obtain ⟨d,sl,kvs,lks,ys,ss,rfl,gd,hP,hT,hlk,hsl,hss,hlen,q⟩:=h
 have hu:=cF hr
 have hu0:=hr.units0
 refine ⟨_,ae (aY (PW.pt (jU (aw (fE hu0) (pv 1) (aU ac) (ay _)) (hU (i4 (dE (aF (r:=sw K) (eC rfl) rfl G.all (by decide +kernel) (aa (cy (sc0:=ag gI) (N0:=wu) (ys:=["by_step"]) (fr:=[0]) rfl (bu (pv 1)) rfl rfl cok (fun C s H ex=>jX (jY hu (pv 0) (pv 1)))) ac))))))) (ai (ax eg)) aK)
  (ae (aq (i:=2) scRound.nd rfl (Or.inl rfl) eg)
  (ae (aq (i:=3) scRound.nd rfl (Or.inl rfl) eg)
  (ae (bg PassesOwn.never rfl (br rfl G.range (aa (aF (r:=de K) aA rfl G.len PySem.boot_len (aa (pv 1) ac)) ac)) (aH (i:=4) scRound.nd rfl (Or.inl rfl))
   (ae (aq (i:=5) scRound.nd rfl (Or.inl rfl) (cx hu (pv 0) (ao (r:=cI K) aS (pv 1) (pv 4) (fun _ _=>rfl)) (fun _ _=>rfl)))
  (ae (aq (i:=6) scRound.nd rfl (Or.inl rfl) (cx hu (pv 0) (ao (r:=cI K) aS (pv 1) (aE cM (aE bf (pv 4) ad) (aF (r:=de K) aA rfl G.len PySem.boot_len (aa (pv 1) ac))) (fun _ _=>rfl)) (fun _ _=>rfl)))
  (ae (aY (aw (yz hu0) (ao (r:=aC K) al (pv 5) ad (fun _ _=>rfl)) (ao (r:=aC K) al (pv 6) ad (fun _ _=>rfl)) (ay _)) (ai (ax eg)) aK)
  (ae (aq (i:=2) scRound.nd rfl (Or.inl rfl) (rh (pv 2) (dZ (a7 bq (ao (r:=aC K) al (pv 5) ad (fun _ _=>rfl)) ad (ay _)))))
  (ae (aq (i:=7) scRound.nd rfl (Or.inl rfl) (eV (a7 bq (ao (r:=aC K) al (ao (r:=aC K) al (pv 6) ad (fun _ _=>rfl)) ad (fun _ _=>rfl)) (ao (r:=aC K) al (ao (r:=aC K) al (pv 5) ad (fun _ _=>rfl)) ad (fun _ _=>rfl)) (ay _)) (dZ (a7 bq (ao (r:=aC K) al (pv 6) ad (fun _ _=>rfl)) (ao (r:=aC K) al (pv 5) ad (fun _ _=>rfl)) (ay _)))))
  (ai (aq (i:=3) scRound.nd rfl (Or.inl rfl) (eV (pv 3) (eV (ao (r:=aC K) al (pv 5) ad (fun _ _=>rfl)) (dZ (pv 7))))))))))))
  (ai (ax (rh (pv 2) (dZ (pv 3)))))))),?_⟩
 have lys:ss.length=ys.length:=Paired.length hss
 refine ⟨_,rfl,(by show 0<=sizeLine;decide),fun p0 hp0=>?_⟩
 have s0:=af hp0 (.lst [])
 have g0:(upd H p0 (.lst [])) p0=some (.lst []):=ab
 generalize upd H p0 (.lst [])=H0 at s0 g0 ⊢
 have hsl0:=s0 _ _ hsl
 have hss0:=Paired.mapP hss fun _ _ h=>h.mono (au s0)
 have gd0:=s0 _ _ gd
 refine ⟨sl,p0,ys,rfl,rfl,SqL.of hsl0,SqL.of g0,_,rfl,?_⟩
 unfold qP at q
 cases ys with
 | nil=>
  have e:ss=[]:=List.eq_nil_of_length_eq_zero (by rw [lys];rfl)
  subst e
  exact bt (bt (q H0 s0))
 | cons y0 yr=>
 have hne:ss≠[]:=fun e=>by rw [e]at lys;cases lys
 have eE:ss.isEmpty=false:=by
  cases ss with
  | nil=>exact absurd rfl hne
  | cons _ _=>rfl
 rw [eE,Bool.not_false,Bool.true_and]at q
 refine bh ⟨_,rfl,sl,rfl,⟨_,SqL.of hsl0⟩,?_⟩
 refine cs (by lia) hss0 (cZ hsl0) (cY hsl0) (dG hsl0) (fun _ s v=>v=.bl (cC lks s).isSome) (fun _ h=>h) ?_ ?_
 ·rintro st v H2 k _ ⟨b,c,rfl,hb,hc⟩ s2 hk
  refine ⟨_,rfl,_,rfl,d,aW kvs st,rfl,DGet.p (t:=st.1) (k:=st.2) (s2 _ _ gd0) (s2 _ _ hb) (s2 _ _ hc),hk _ H2 (Same.refl _) ?_⟩
  rcases nr (s:=st) hP with ⟨e1,e2⟩ | ⟨l,v,e1,e2,_⟩
  ·rw [e1,e2];rfl
  ·rw [e1,e2];rfl
 intro p2 zs2 H2 hp2 s2 g2 hz2
 have ez2:zs2=(ss.map fun s=>(cC lks s).isSome).map V.bl:=by rw [cj hz2,List.map_map];rfl
 subst ez2
 refine ⟨p2,_,rfl,SqL.of g2,_,rfl,?_⟩
 rw [List.all_map,show (id∘fun s=>(cC lks s).isSome)=fun s=>(cC lks s).isSome from rfl]
 have S2:=s0.trans s2
 cases hall:ss.all fun s=>(cC lks s).isSome with
 | false=>
  rw [hall,Bool.false_and]at q
  exact bt (q H2 S2)
 | true=>
 rw [hall,Bool.true_and]at q
 have hrow:=gZ hall
 have lrow:ss.length=(ss.filterMap (cC lks)).length:=Paired.length hrow
 have hrok: ∀ l∈ss.filterMap (cC lks),LkOk bk l:=fun l hl=>by
  obtain ⟨s,_,e⟩:=List.mem_filterMap.mp hl
  exact hlk l (lE e).1
 have hsl2:=s2 _ _ hsl0
 have gd2:=s2 _ _ gd0
 have hat: ∀ k,k< (ss.filterMap (cC lks)).length-> ∃ st b c l v,(y0::yr)[k]? =some (.ref b)/\H b=some (.tup [kV st.2.1,kV st.2.2,.ref c])/\H c=some (.tup (List.map kV st.1))/\(ss.filterMap (cC lks))[k]? =some l/\aW kvs st=some v/\RepEd H l v:=fun k hk=>by
  have hks:k<ss.length:=by lia
  obtain ⟨y,hy,b,c,e,hb,hc⟩:=cD hss (List.getElem?_eq_getElem hks)
  obtain ⟨l,hl,el⟩:=cD hrow (List.getElem?_eq_getElem hks)
  rcases nr (s:=ss[k]) hP with ⟨e1,_⟩ | ⟨l',v,e1,e2,hR⟩
  ·rw [el]at e1;cases e1
  ·rw [el]at e1
   cases e1
   exact ⟨ss[k],b,c,l,v,by rw [hy,e],hb,hc,hl,e2,hR⟩
 generalize ss.filterMap (cC lks)=row at *
 have hrne:row≠[]:=fun e=>hne (List.eq_nil_of_length_eq_zero (by rw [lrow,e];rfl))
 have hpos:0<row.length:=List.length_pos_iff.mpr hrne
 have lyr:(y0::yr).length=row.length:=by lia
 generalize y0::yr=ys at *
 unfold pz at q
 refine bh ⟨_,rfl,sl,ys,rfl,.inl (SqL.of hsl2),_,rfl,by lia,by lia,?_⟩
 refine cB (fun k Z H'=>k<=ys.length/\ ∃ o4 o5 o6 o7,Z=[some (.ref d),some (.ref sl),some (.bl ((row.take k).any cA)),some (.bl (((row.zip (bz row)).take k).all fun a=>fL a.1 a.2)),o4,o5,o6,o7]/\Same H H'/\(∀ i l l',i<k->row[i]? =some l->row[(i+1) %row.length]? =some l'->l.rw_=l'.tw))
  ⟨Nat.zero_le _,none,none,none,none,rfl,S2,fun i _ _ h=>absurd h (Nat.not_lt_zero _)⟩ ?_ ?_
 ·rintro k Z H3 hk ⟨_,o4,o5,o6,o7,rfl,S3,hw⟩
  rw [show (0:Int) + (k:Int)=(k:Int) by lia]
  have hkl:k<row.length:=by lia
  have hk2:(k+1) %row.length<row.length:=Nat.mod_lt _ hpos
  obtain ⟨st,b,c,l,v,hy,hb,hc,hl,hv,hR⟩:=hat k hkl
  obtain ⟨st',b',c',l',v',hy',hb',hc',hl',hv',hR'⟩:=hat _ hk2
  obtain ⟨a,pt,pr,sta,ca,rfl,ha,hpt,hpr,hst,hca⟩:=hR.mono (au S3)
  obtain ⟨a',pt',pr',sta',ca',rfl,ha',hpt',hpr',hst',hca'⟩:=hR'.mono (au S3)
  have gd3:=S3 _ _ gd
  have hsl3:=S3 _ _ hsl
  refine ⟨_,rfl,_,rfl,_,rfl,sl,ys,k,.ref b,rfl,rfl,SqL.of hsl3,ar hy,d,.ref a,rfl,(by rw [<- hv];exact DGet.p (t:=st.1) (k:=st.2) gd3 (S3 _ _ hb) (S3 _ _ hc)),?_⟩
  have em:((k:Int) +1) % (ys.length:Int)=(((k+1) %row.length:Nat):Int):=by rw [lyr];rfl
  refine ⟨_,rfl,_,rfl,_,rfl,_,_,rfl,rfl,_,rfl,sl,ys,rfl,.inl (SqL.of hsl3),_,_,rfl,rfl,(by show (0:Int) < (ys.length:Int);lia),sl,ys,_,.ref b',rfl,(congrArg V.int em),SqL.of hsl3,ar hy',d,.ref a',rfl,(by rw [<- hv'];exact DGet.p (t:=st'.1) (k:=st'.2) gd3 (S3 _ _ hb') (S3 _ _ hc')),?_⟩
  refine ⟨_,rfl,a,_,1,.ref pr,rfl,rfl,SqT.of ha,ar (j:=1) rfl,_,rfl,a',_,0,.ref pt',rfl,rfl,SqT.of ha',bi,pr,pt',[.inr l.rw_.1,.inr l.rw_.2],[.inr l'.tw.1,.inr l'.tw.2],rfl,rfl,hpr,hpt',_,rfl,?_⟩
  rw [if_neg Bool.false_ne_true]
  have eK:decide (([.inr l.rw_.1,.inr l.rw_.2]:List Key)=[.inr l'.tw.1,.inr l'.tw.2])=decide (l.rw_=l'.tw):=decide_eq_decide.mpr ⟨fun e=>Prod.ext (Sum.inr.inj (List.cons.inj e).1) (Sum.inr.inj (List.cons.inj (List.cons.inj e).2).1),fun e=>by rw [e]⟩
  rw [eK]
  by_cases cw:l.rw_=l'.tw
  case neg=>
   rw [decide_eq_false cw]
   have e:=pc hrne (fun l l'=>decide (l.rw_=l'.tw)) hl hl' (decide_eq_false cw)
   rw [e,Bool.false_and]at q
   exact bt (q H3 S3)
  rw [decide_eq_true cw]
  have e1:(row.take (k+1)).any cA=((row.take k).any cA||cA l):=by rw [cg hl,List.any_append];simp
  have hz:(row.zip (bz row))[k]? =some (l,l'):=by
   rw [List.getElem?_zip_eq_some]
   exact ⟨hl,by rw [gJ hkl];exact hl'⟩
  have e2:(((row.zip (bz row)).take (k+1)).all fun a=>fL a.1 a.2)=((((row.zip (bz row)).take k).all fun a=>fL a.1 a.2)&&fL l l'):=by rw [cg hz,List.all_append];simp
  have hw': ∀ i l l',i<k+1->row[i]? =some l->row[(i+1) %row.length]? =some l'->l.rw_=l'.tw:=fun i m m' hi h1 h2=>by
   by_cases c:i=k
   ·subst c
    rw [hl]at h1
    rw [hl']at h2
    cases h1
    cases h2
    exact cw
   ·exact hw i m m' (by lia) h1 h2
  refine bh ?_
  have fin: ∀ b2 b3:Bool,b2=((row.take k).any cA||cA l)->b3=((((row.zip (bz row)).take k).all fun a=>fL a.1 a.2)&&fL l l')-> ∀ o7,k+1<=ys.length/\ ∃ o4 o5 o6 o7',[some (V.ref d),some (.ref sl),some (.bl b2),some (.bl b3),some (.int (k:Int)),some (.ref a),some (.ref a'),o7]=[some (.ref d),some (.ref sl),some (.bl ((row.take (k+1)).any cA)),some (.bl (((row.zip (bz row)).take (k+1)).all fun a=>fL a.1 a.2)),o4,o5,o6,o7']/\Same H H3/\(∀ i l l',i<k+1->row[i]? =some l->row[(i+1) %row.length]? =some l'->l.rw_=l'.tw):=fun b2 b3 h2 h3 o7=>by
   rw [e1,e2,<- h2,<- h3]
   exact ⟨by lia,_,_,_,_,rfl,S3,hw'⟩
  delta ui
  dsimp only
  refine yd (c:=(row.take k).any cA) (d:=cA l) (fun R h=>⟨_,rfl,h⟩) (fun R h=>⟨_,rfl,a,_,2,.int (if cA l then 1 else 0),rfl,rfl,SqT.of ha,ar (j:=2) rfl,rfl,(by
   have e:decide (V.int (if cA l then 1 else 0)=V.int 1)=cA l:=by cases cA l <;> rfl
   rw [e]
   exact h)⟩) ?_
  refine wC (c:=decide (l'.fr.name=l.fr.name)) (d:=decide (l'.r.pl=l.r.pl)) (fun R h=>⟨_,rfl,a',_,4,.ref sta',rfl,rfl,SqT.of ha',ar (j:=4) rfl,sta',_,0,.str l'.fr.name,rfl,rfl,SqT.of hst',bi,_,rfl,a,_,4,.ref sta,rfl,rfl,SqT.of ha,ar (j:=4) rfl,sta,_,0,.str l.fr.name,rfl,rfl,SqT.of hst,bi,rfl,(by
   have e:decide (V.str l'.fr.name=V.str l.fr.name)=decide (l'.fr.name=l.fr.name):=decide_eq_decide.mpr ⟨fun z=>V.str.inj z,fun z=>by rw [z]⟩
   rw [e]
   exact h)⟩) (fun R h=>⟨_,rfl,a',_,5,.int l'.r.pl,rfl,rfl,SqT.of ha',ar (j:=5) rfl,_,rfl,a,_,5,.int l.r.pl,rfl,rfl,SqT.of ha,ar (j:=5) rfl,rfl,(by
   have e:decide (V.int l'.r.pl=V.int l.r.pl)=decide (l'.r.pl=l.r.pl):=decide_eq_decide.mpr ⟨fun z=>V.int.inj z,fun z=>by rw [z]⟩
   rw [e]
   exact h)⟩) ?_
  refine xA (c:=((row.zip (bz row)).take k).all fun a=>fL a.1 a.2) (d:=fL l l') (fun R h=>⟨_,rfl,h⟩) (fun R h=>jG (c:=ik l) (d:=decide (l'.fr.name=l.fr.name)&&decide (l'.r.pl=l.r.pl)) (fun R h=>⟨_,rfl,a,_,3,.bl (ik l),rfl,rfl,SqT.of ha,ar (j:=3) rfl,h⟩) (fun R h=>⟨_,rfl,h⟩) h) ?_
  exact fin _ _ rfl rfl _
 ·rintro Z H3 ⟨_,o4,o5,o6,o7,rfl,S3,hw⟩
  rw [Int.toNat_natCast,lyr]at hw ⊢
  have ez:((row.zip (bz row)).all fun p=>decide (p.1.rw_=p.2.tw))=true:=pf hrne (fun l l'=>decide (l.rw_=l'.tw)) fun i l l' h1 h2=>decide_eq_true (hw i l l' (List.getElem?_eq_some_iff.mp h1).1 h1 h2)
  rw [ez,Bool.true_and]at q
  have el:row.any gi=row.any cA:=qC fun l hl=>xg hT (hrok l hl)
  have en:((row.zip (bz row)).all fun p=>eS p.1 p.2)=(row.zip (bz row)).all fun p=>fL p.1 p.2:=qD fun p hp=>by
   obtain ⟨i,hi⟩:=List.getElem?_of_mem hp
   obtain ⟨h1,h2⟩:=lW hi
   have hil:=(List.getElem?_eq_some_iff.mp h1).1
   rw [gJ hil]at h2
   exact wZ hT (hrok _ (List.mem_of_getElem? h1)) (hrok _ (List.mem_of_getElem? h2)) (hw i _ _ hil h1 h2)
  rw [el,en]at q
  have lz:(row.zip (bz row)).length=row.length:=by
   rw [List.length_zip,bz,List.length_append,List.length_drop,List.length_take]
   lia
  have e1:(row.zip (bz row)).take row.length=row.zip (bz row):=by rw [<- lz,List.take_length]
  rw [List.take_length,e1]
  exact qK (ta:=jF 2) (fun R h=>⟨_,rfl,h⟩) (fun R h=>⟨_,rfl,h⟩) (q H3 S3)
end
end My
namespace L2
open PySem PySem.Spec PyProof.Rows
section
variable {X:Cx}
theorem uK {A:Around} {s:Shared} {a b:Addr} {n m:Str} {t1 t2:Tok} {us us2:List Value} (pl:s.heap.IsTuple a (Value.str n t1::us).toArray) (pl2:s.heap.IsTuple b (Value.str m t2::us2).toArray) (hu:A.units<cLine) (e:n≠m):SeqAt.RcAt A s (.ref a) (.ref b) false:=fun prog w E Q h=>by
 obtain ⟨⟨cls,dd,data,sl⟩,ho,hc,k1,hd⟩:=id pl
 obtain ⟨⟨cls2,dd2,data2,sl2⟩,ho2,hc2,k2,hd2⟩:=id pl2
 simp only at hc hd hc2 hd2
 subst hc hd hc2 hd2
 have h0:SeqAt.EqAt A.in1 s (Value.str n t1) (Value.str m t2) false:=by
  have:=SeqAt.EqAt.str_str (A:=A.in1) (s:=s) n t1 m t2
  rw [show (n==m)=false from beq_eq_false_iff_ne.mpr e]at this
  exact this
 exact richCompare_meets_room (op:=.Eq) ⟨_,ho,rfl⟩ ⟨_,ho2,rfl⟩ F.slot_tuple_eq F.entry_tuple_eq (F.args_tuple_eq_2 _ _) (jg a b _ _ _ _ dd dd2 sl sl2 _ _ us us2)
  ⟨ho,ho2,by simp,by simp,h0,(show Value.bool false≠Value.notImplemented/\_ from ⟨(fun x=>nomatch x),h⟩)⟩ hu
theorem xa {H:Hp} {ys:List V} {us:List Value} {kss:List (List Key)} (r:Vals ys us) (h:KsOf H ys kss): ∀ u∈us,∃ (b:Addr) (ls:List Key),u=.ref b/\H b=some (.tup (ls.map kV))/\ls∈kss:=by
 induction r generalizing kss with
 | nil=>intro u hu;cases hu
 | @cons y u ys us r1 t ih=>
  cases h with
  | cons h1 t2=>
   intro v hv
   rcases List.mem_cons.mp hv with e | e
   ·obtain ⟨b,rfl,hb⟩:=h1
    exact ⟨b,_,e.trans (show u=Value.ref b from r1),hb,List.mem_cons_self⟩
   ·obtain ⟨b,ls,h1,h2,h3⟩:=ih t2 v e
    exact ⟨b,ls,h1,h2,List.mem_cons_of_mem _ h3⟩
def AD (K:W.Frag):R2:=fun x y H Q=>uL K false x y H Q\/ ∃ a p k ws ys kss,x=.ref a/\y=.ref p/\H a=some (.tup (.str k::ws))/\SqL K H p ys/\KsOf H ys kss/\(∀ ks∈kss,∃ z r,ks=.inr z::r/\z≠k)/\Q (.bl false) H
theorem wQ (hu:X.A.units+1<cLine):OpR X (compareOp .In) (AD X.K):=by
 intro pins s Z H x y v u Q I rx ry h
 rcases h with h | ⟨a,p,k,ws,ys,kss,rfl,rfl,ha,hp,hk,hne,q⟩
 ·exact j1 hu pins s Z H x y v u Q I rx ry h
 cases rx
 cases ry
 obtain ⟨its,r,pl,hz⟩:=I.list hp
 obtain ⟨its2,r2,pl2,_⟩:=I.seqS (c:=true) ha
 cases r2 with
 | @cons _ u2 _ us2 r21 rs2=>
 obtain ⟨t2,rfl⟩:=(show ∃ t,u2=Value.str k t from r21)
 refine SeqAt.in_listAt (fun _=>false) pl.isList (fun w hw=>?_) ⟨.bl false,H,I,?_,q⟩
 ·obtain ⟨b,ls,rfl,hb,hm⟩:=xa r hk w (by simpa using hw)
  obtain ⟨z,lr,rfl,hzk⟩:=hne ls hm
  have hb:H b=some (.tup (.str z::lr.map kV)):=hb
  obtain ⟨its1,r1,pl1,_⟩:=I.seqS (c:=true) hb
  cases r1 with
  | @cons _ u1 _ us1 r11 rs1=>
  obtain ⟨t1,rfl⟩:=(show ∃ t,u1=Value.str z t from r11)
  refine SeqAt.EqAt.of_refs (fun e=>?_) (uK pl1 pl2 (show X.A.units+1<cLine from hu) hzk)
  subst e
  rw [ha]at hb
  cases hb
  exact hzk rfl
 ·show Value.bool _=Value.bool _
  simp
end
def zS:R2:=fun x y H Q=> ∃ a b xs ys,x=.ref a/\y=.ref b/\H a=some (.tup xs)/\H b=some (.tup ys)/\xs.length+ys.length<=sizeLine/\ ∀ p H',(∀ b o,H b=some o->H' b=some o)->H' p=some (.tup (xs++ys))->Q (.ref p) H'
theorem rm {X:Cx}:OpR X (binaryOp .Add) zS:=by
 intro pins s Z H x y v u Q I rx ry h
 obtain ⟨a,b,xs,ys,e1,e2,h1,h2,h3,q⟩:=h
 refine uX pins s Z H x y v u Q I rx ry ⟨a,b,xs,ys,e1,e2,SqT.of h1,SqT.of h2,h3,fun e=>q b H (fun _ _ h=>h) ?_,fun _ e=>q a H (fun _ _ h=>h) ?_,fun _ _ p hp=>q p _ (fun b o e=>by rw [am (aj e hp)];exact e) ab⟩
 ·rw [e];exact h2
 ·rw [e,List.append_nil];exact h1
end L2
namespace My
open PySem L2
noncomputable def eQ:Fm->Str
 | .num _=>"num"
 | .own _=>"own"
 | .part _ _=>"part"
 | .bin op _ _=>op
 | .whn _ _ _=>"when"
theorem nY {H:Hp} {g:Fm} {u:V} (h:Rep H g u): ∃ a r,u=.ref a/\H a=some (.tup (.str (eQ g)::r)):=by
 cases g with
 | num n=>obtain ⟨a,e,h⟩:=h;exact ⟨a,_,e,h⟩
 | own x=>obtain ⟨a,e,h⟩:=h;exact ⟨a,_,e,h⟩
 | part k x=>obtain ⟨a,e,h⟩:=h;exact ⟨a,_,e,h⟩
 | bin op x y=>obtain ⟨a,_,_,e,h,_⟩:=h;exact ⟨a,_,e,h⟩
 | whn x y z=>obtain ⟨a,_,_,_,e,h,_⟩:=h;exact ⟨a,_,e,h⟩
noncomputable def xk:Fm->List Fm
 | .bin _ a b=>[a,b]
 | .whn a b c=>[a,b,c]
 | _=>[]
theorem An (x:V) (r:List V):cW (x::r) none (some 1)=[x]:=by
 have e1:HT.sIx (x::r).length (x::r).length (some 1)=1:=by
  have:HT.sIx (x::r).length (x::r).length (some 1)=min 1 (x::r).length:=HT.sIx_nat _ _ 1
  rw [this,List.length_cons]
  lia
 unfold cW
 rw [e1,HT.sIx_none]
 rfl
noncomputable def lfk:Fm->List Key
 | .num n=>[.inr "num",.inl n]
 | .own x=>[.inr "own",.inr x]
 | .part k x=>[.inr "part",.inl k,.inr x]
 | _=>[]
noncomputable def j6:Fm->Prop
 | .bin _ _ _=>False
 | .whn _ _ _=>False
 | _=>True
theorem uG {H:Hp} {g:Fm} {v:V} (l:j6 g) (h:Rep H g v): ∃ a,v=.ref a/\H a=some (.tup ((lfk g).map kV)):=by
 cases g with
 | num n=>exact h
 | own x=>exact h
 | part k x=>exact h
 | bin op a b=>exact l.elim
 | whn a b c=>exact l.elim
theorem gL {g:Fm} (w:g.wf):decide (eQ g∈(["num","own","part"]:List Str))=true↔j6 g:=by
 cases g with
 | num n=>exact ⟨fun _=>trivial,fun _=>decide_eq_true (by show ("num":Str)∈_;decide +kernel)⟩
 | own x=>exact ⟨fun _=>trivial,fun _=>decide_eq_true (by show ("own":Str)∈_;decide +kernel)⟩
 | part k x=>exact ⟨fun _=>trivial,fun _=>decide_eq_true (by show ("part":Str)∈_;decide +kernel)⟩
 | bin op a b=>
  refine ⟨fun z=>?_,fun z=>z.elim⟩
  have z:op∈(["num","own","part"]:List Str):=of_decide_eq_true z
  have ho:op∈ops:=w.1
  simp only [List.mem_cons,List.not_mem_nil,or_false]at z
  rcases z with z | z | z <;> (rw [z]at ho;exact absurd ho (by decide +kernel))
 | whn a b c=>exact ⟨fun z=>absurd (of_decide_eq_true z) (by show ("when":Str)∉_;decide +kernel),fun z=>z.elim⟩
theorem lg {H:Hp} {g:Fm} {v:V} (l: ¬ j6 g) (w:g.wf) (h:Rep H g v): ∃ a us,v=.ref a/\H a=some (.tup (.str (eQ g)::us))/\us.length<=3/\Paired (fun k u=>Rep H k u/\k.wf/\k.size<g.size) (xk g) us:=by
 cases g with
 | num n=>exact (l trivial).elim
 | own x=>exact (l trivial).elim
 | part k x=>exact (l trivial).elim
 | bin op A B=>
  obtain ⟨a,u,v,rfl,ha,r1,r2⟩:=h
  exact ⟨a,[u,v],rfl,ha,(by show 2<=3;decide),.cons ⟨r1,w.2.1,(by show _<A.size+B.size+1;lia)⟩ (.cons ⟨r2,w.2.2,(by show _<A.size+B.size+1;lia)⟩ .nil)⟩
 | whn A B C=>
  obtain ⟨a,u,v,x,rfl,ha,r1,r2,r3⟩:=h
  exact ⟨a,[u,v,x],rfl,ha,(by show 3<=3;decide),.cons ⟨r1,w.1,(by show _<A.size+B.size+C.size+1;lia)⟩ (.cons ⟨r2,w.2.1,(by show _<A.size+B.size+C.size+1;lia)⟩ (.cons ⟨r3,w.2.2,(by show _<A.size+B.size+C.size+1;lia)⟩ .nil))⟩
noncomputable def Fm.wo (S:List (List Key)):Fm->Fm
 | .num n=>.num n
 | .own x=>if ([.inr "own",.inr x]:List Key)∈S then .num 1 else .own x
 | .part k x=>if ([.inr "part",.inl k,.inr x]:List Key)∈S then .num 1 else .part k x
 | .bin op a b=>.bin op (a.wo S) (b.wo S)
 | .whn a b c=>.whn (a.wo S) (b.wo S) (c.wo S)
theorem kz {S:List (List Key)}: ∀ {g:Fm},g.wf->(g.wo S).wf
 | .num n,h=>h
 | .own x,h=>by
  show Fm.wf (if _ then _ else _)
  split
  ·exact ⟨by decide,by decide⟩
  ·exact h
 | .part k x,h=>by
  show Fm.wf (if _ then _ else _)
  split
  ·exact ⟨by decide,by decide⟩
  ·exact h
 | .bin op a b,h=>⟨h.1,kz h.2.1,kz h.2.2⟩
 | .whn a b c,h=>⟨kz h.1,kz h.2.1,kz h.2.2⟩
theorem gn {S:List (List Key)}: ∀ {g:Fm},(g.wo S).size=g.size
 | .num n=>rfl
 | .own x=>by
  show Fm.size (if _ then _ else _)=1
  split <;> rfl
 | .part k x=>by
  show Fm.size (if _ then _ else _)=1
  split <;> rfl
 | .bin op a b=>by show (a.wo S).size+ (b.wo S).size+1=a.size+b.size+1;rw [gn,gn]
 | .whn a b c=>by show (a.wo S).size+ (b.wo S).size+ (c.wo S).size+1=a.size+b.size+c.size+1;rw [gn,gn,gn]
theorem iO {S:List (List Key)} {ks:List Key}: ∀ {g:Fm},ks∈(g.wo S).rdk->ks∈g.rdk
 | .num n,h=>h
 | .own x,h=>by
  have h:ks∈Fm.rdk (if _ then _ else _):=h
  split at h
  ·cases h
  ·exact h
 | .part k x,h=>by
  have h:ks∈Fm.rdk (if _ then _ else _):=h
  split at h
  ·cases h
  ·exact h
 | .bin op a b,h=>List.mem_append.mpr ((List.mem_append.mp h).imp iO iO)
 | .whn a b c,h=>List.mem_append.mpr ((List.mem_append.mp h).imp iO fun h=>List.mem_append.mpr ((List.mem_append.mp h).imp iO iO))
def HdS (S:List (List Key)):Prop:= ∀ ks∈S,∃ z r,ks=Sum.inr z::r/\(z="own"\/z="part")
theorem qH {S:List (List Key)} (hS:HdS S) {g:Fm} (l:j6 g):(lfk g∈S->g.wo S=.num 1)/\(lfk g∉S->g.wo S=g):=by
 cases g with
 | num n=>
  refine ⟨fun h=>?_,fun _=>rfl⟩
  obtain ⟨z,r,e,hz⟩:=hS _ h
  have e:=Sum.inr.inj (List.cons.inj e).1
  rw [<- e]at hz
  exact absurd hz (by decide +kernel)
 | own x=>exact ⟨fun h=>if_pos h,fun h=>if_neg h⟩
 | part k x=>exact ⟨fun h=>if_pos h,fun h=>if_neg h⟩
 | bin op a b=>exact l.elim
 | whn a b c=>exact l.elim
theorem yi {H:Hp} {S:List (List Key)} {g:Fm} {p:Addr} {us:List V} (l: ¬ j6 g) (h:H p=some (.tup (.str (eQ g)::us))) (hp:Paired (fun k u=>Rep H (k.wo S) u) (xk g) us):Rep H (g.wo S) (.ref p):=by
 cases g with
 | num n=>exact (l trivial).elim
 | own x=>exact (l trivial).elim
 | part k x=>exact (l trivial).elim
 | bin op A B=>
  cases hp with
  | cons r1 t=>cases t with
   | cons r2 t=>cases t;exact ⟨p,_,_,rfl,h,r1,r2⟩
 | whn A B C=>
  cases hp with
  | cons r1 t=>cases t with
   | cons r2 t=>cases t with
    | cons r3 t=>cases t;exact ⟨p,_,_,_,rfl,h,r1,r2,r3⟩
def da (n:Nat):Sp:=fun vs H Q _=> ∃ v p g ys S,vs=[v,.ref p]/\Rep H g v/\g.wf/\g.size<=n/\H p=some (.lst ys)/\KsOf H ys S/\HdS S/\ ∀ v' H',Same H H'->Rep H' (g.wo S) v'->Q v' H'
def fe:Sp:=fun vs H Q _=> ∃ v a g o,vs=[v,.ref a]/\Rep H g v/\g.wf/\g.size<=15/\Rep H o (.ref a)/\o.wf/\o.size=1/\ ∀ v' g' H',Same H H'->Rep H' g' v'->g'.wf->g'.size<=15->(∀ ks∈g'.rdk,ks∈g.rdk\/ks∈o.rdk)->Q v' H'
def l3:Sp:=fun vs H Q _=> ∃ b d:Bool,vs=[.bl b,.bl d]/\Q (.bl (decide (b=d))) H
theorem ye:aB ["found","due"] ["found","due"] (ag uC):=fsc
theorem wT (F:Fun K "_law_said" "_law_said" uC f fd) (G:Gb mg):FnOk P w K mg base CX0 1 f fd ["found","due"] l3:=by
 refine F.ok ye (fun vs H Q E h=>?_) (fun cdv A outer s H vs Q E hr h=>?_)
 ·obtain ⟨b,d,rfl,_⟩:=h
  rfl
 obtain ⟨b,d,rfl,q⟩:=h
 refine ⟨_,ai (ax (eV (aF v4 rfl G.isi (by decide +kernel) (aa (pv 0) (aa (wP (v:=.ty "bool") rfl G.bool (by decide +kernel) rfl) ac))) (dZ (a7 bq (pv 0) (pv 1) (ay _))))),?_⟩
 refine ⟨_,rfl,_,_,rfl,trivial,by decide,true,rfl,?_⟩
 refine bt ⟨_,rfl,_,rfl,rfl,?_⟩
 rw [show decide (V.bl b=V.bl d)=decide (b=d)from decide_eq_decide.mpr ⟨fun z=>V.bl.inj z,fun z=>by rw [z]⟩]
 exact q
theorem se:aB ["formula","some"] ["formula","some"] (ag fS):=fsc
theorem ot {n:Nat} (F:Fun K "_law_without" "_law_without" fS f fd) (G:Gb mg)
  (GS:FnOk P w K mg base CX0 (n+1) f fd ["formula","some"] (da n)) (bS:Binds K fd ["formula","some"] []) (mS:mg "_law_without"=some (.ref f)):
  FnOk P w K mg base CX0 (n+2) f fd ["formula","some"] (da (n+1)):=by
 refine F.ok se (fun vs H Q E h=>?_) (fun cdv A outer s H vs Q E hr h=>?_)
 ·obtain ⟨v,p,g,ys,S,rfl,_⟩:=h
  rfl
 obtain ⟨v,p,g,ys,S,rfl,hR,hwf,hsz,gp,hk,hS,q⟩:=h
 have hu:=cF hr
 refine ⟨_,ae (aY (aw (wQ (Nat.lt_of_le_of_lt (Nat.add_le_add_left (by decide:1<=16) _) hu)) (pv 0) (pv 1) (by with_unfolding_all rfl)) (ai (ax (aP (aa aX (aa ad ac))))) aK)
  (ae (aY (aw fi (ao (r:=aC K) al (pv 0) ad (fun _ _=>rfl)) (aP (aa aX (aa aX (aa aX ac)))) (by with_unfolding_all rfl)) (ai (ax (pv 0))) aK)
  (ai (ax (aE rm (aN iA (pv 0) aZ (aV ad)) (bj (r:=dX K) bw rfl G.tuple (by decide +kernel) (aa (cy (sc0:=ag fS) (N0:=["formula","some"]) (ys:=["some"]) (fr:=[1]) rfl (cf (aN iA (pv 0) (aV ad) aZ)) rfl rfl cok (fun C s H ex=>ak GS hr rfl mS F.kp bS .nil av (aa (pv 0) (aa (pv 1) ac)))) ac)))))),?_⟩
 by_cases l:j6 g
 ·obtain ⟨a,rfl,hl⟩:=uG l hR
  refine ⟨_,rfl,_,rfl,.inl ⟨a,p,lfk g,ys,S,rfl,rfl,hl,SqL.of gp,hk,_,rfl,?_⟩⟩
  rw [if_neg Bool.false_ne_true]
  by_cases c:lfk g∈S
  ·rw [decide_eq_true c]
   refine bt ⟨(by show 2<=sizeLine;decide),fun p1 h1=>?_⟩
   refine q _ _ (af h1 _) ?_
   rw [(qH hS l).1 c]
   exact ⟨p1,rfl,ab⟩
  ·rw [decide_eq_false c]
   obtain ⟨a',r,e,ha⟩:=nY hR
   cases e
   refine bh ⟨_,rfl,a,_,0,.str (eQ g),rfl,rfl,SqT.of ha,bi,(by show 3<=sizeLine;decide),fun p1 h1=>?_⟩
   have s1:=af h1 (.tup [.str "num",.str "own",.str "part"])
   have g1:(upd H p1 (.tup [.str "num",.str "own",.str "part"])) p1=some (.tup (([("num":Str),"own","part"]:List Str).map V.str)):=ab
   generalize upd H p1 (.tup [.str "num",.str "own",.str "part"])=HX at s1 g1 ⊢
   refine ⟨p1,_,rfl,.inr (SqT.of g1),rfl,db _,_,rfl,?_⟩
   refine (show if inV (.str (eQ g)) ((["num","own","part"]:List Str).map V.str)=true then _ else _ from ?_)
   rw [di,(gL hwf).mpr l]
   refine bt ⟨_,rfl,q _ HX s1 ?_⟩
   rw [(qH hS l).2 c]
   exact hR.mono (au s1)
 ·obtain ⟨a,us,rfl,ha,hus,hK⟩:=lg l hwf hR
  have hh:eQ g∉(["num","own","part"]:List Str):=fun z=>l ((gL hwf).mp (decide_eq_true z))
  refine ⟨_,rfl,_,rfl,.inr ⟨a,p,eQ g,us,ys,S,rfl,rfl,ha,SqL.of gp,hk,(fun ks hks=>by
   obtain ⟨z,r,e,hz⟩:=hS ks hks
   refine ⟨z,r,e,fun e2=>hh ?_⟩
   rw [<- e2]
   rcases hz with rfl | rfl
   ·exact List.mem_cons_of_mem _ List.mem_cons_self
   ·exact List.mem_cons_of_mem _ (List.mem_cons_of_mem _ List.mem_cons_self)),_,rfl,?_⟩⟩
  refine bh ⟨_,rfl,a,_,0,.str (eQ g),rfl,rfl,SqT.of ha,bi,(by show 3<=sizeLine;decide),fun p1 h1=>?_⟩
  have s1:=af h1 (.tup [.str "num",.str "own",.str "part"])
  have g1:(upd H p1 (.tup [.str "num",.str "own",.str "part"])) p1=some (.tup (([("num":Str),"own","part"]:List Str).map V.str)):=ab
  generalize upd H p1 (.tup [.str "num",.str "own",.str "part"])=HX at s1 g1 ⊢
  refine ⟨p1,_,rfl,.inr (SqT.of g1),rfl,db _,_,rfl,?_⟩
  refine (show if inV (.str (eQ g)) ((["num","own","part"]:List Str).map V.str)=true then _ else _ from ?_)
  rw [di,decide_eq_false hh]
  refine bh ⟨_,rfl,1,rfl,a,_,rfl,s1 _ _ ha,fun p4 H4 s4 g4=>?_⟩
  have g4:H4 p4=some (.tup [.str (eQ g)]):=by rw [g4,An]
  have S4:=s1.trans s4
  refine ⟨_,rfl,1,rfl,a,_,rfl,S4 _ _ ha,fun p5 H5 s5 g5=>?_⟩
  have g5:H5 p5=some (.tup us):=by rw [g5,Ao]
  have S5:=S4.trans s5
  refine ⟨p5,rfl,⟨_,SqT.of g5⟩,?_⟩
  refine cs (by lia) hK (dz g5) (dy g5) (eW g5) (fun H k v=>Rep H (k.wo S) v) (fun t h=>h.mono t) ?_ ?_
  ·rintro k v' H6 kk hkk ⟨hRk,hwk,hsk⟩ s6 hq
   have S6:=S5.trans s6
   exact ⟨_,rfl,_,rfl,v',p,k,ys,S,rfl,hRk.mono (au S6),hwk,by lia,S6 _ _ gp,hk.mono (au S6),hS,fun u H7 s7 h7=>hq _ H7 s7 h7⟩
  ·intro p7 zs H7 hp7 s7 g7 hz7
   have lz:(xk g).length=zs.length:=Paired.length hz7
   have lk:(xk g).length=us.length:=Paired.length hK
   refine ⟨p7,_,rfl,.inl ⟨SqL.of g7,fun p8 hp8=>?_⟩⟩
   have s8:=af hp8 (.tup zs)
   have g8:(upd H7 p8 (.tup zs)) p8=some (.tup zs):=ab
   generalize upd H7 p8 (.tup zs)=H8 at s8 g8 ⊢
   refine ⟨p4,p8,_,_,rfl,rfl,s8 _ _ (s7 _ _ (s5 _ _ g4)),g8,Nat.le_of_lt (aG (by show 1+zs.length<=1000;lia)),fun p9 H9 s9 g9=>?_⟩
   have S79:=s8.trans s9
   refine q _ H9 ((S5.trans s7).trans S79) (yi l g9 (Paired.mapP hz7 fun _ _ h=>h.mono (au S79)))
theorem ou:FnOk P w K mg base CX0 1 f fd ["formula","some"] (da 0):=by
 have no: ∀ vs H Q E,¬ da 0 vs H Q E:=fun vs H Q E h=>by
  obtain ⟨v,p,g,ys,S,_,_,_,h,_⟩:=h
  have:=g.size_pos
  lia
 exact ⟨fun vs H Q E h=>absurd h (no vs H Q E),fun A outer s H args us vs Q E _ _ _ _ h=>absurd h (no vs H Q E)⟩
theorem j3 (F:Fun K "_law_without" "_law_without" fS f fd) (G:Gb mg) (bS:Binds K fd ["formula","some"] []) (mS:mg "_law_without"=some (.ref f)): ∀ n:Nat,FnOk P w K mg base CX0 (n+1) f fd ["formula","some"] (da n)
 | 0=>ou
 | n+1=>ot F G (j3 F G bS mS n) bS mS
theorem uv:aB ["formula","one"] ["formula","one"] (ag mh):=fsc
theorem sJ (F:Fun K "_law_with_reading" "_law_with_reading" mh f fd):FnOk P w K mg base CX0 1 f fd ["formula","one"] fe:=by
 refine F.ok uv (fun vs H Q E h=>?_) (fun cdv A outer s H vs Q E hr h=>?_)
 ·obtain ⟨v,a,g,o,rfl,_⟩:=h
  rfl
 obtain ⟨v,oa,g,o,rfl,hR,hwf,hsz,hO,hwo,hso,q⟩:=h
 refine ⟨_,ae (aY (aw fi (ao (r:=aC K) al (pv 0) ad (fun _ _=>rfl)) (aP (aa aX (aa aX (aa aX ac)))) (by with_unfolding_all rfl)) (ai (ax (aP (aa aX (aa (pv 0) (aa (pv 1) ac)))))) aK)
  (ai (ax (aP (aa aX (aa (ao (r:=aC K) al (pv 0) ad (fun _ _=>rfl)) (aa (pv 1) ac)))))),?_⟩
 obtain ⟨a,r,rfl,ha⟩:=nY hR
 refine ⟨_,rfl,a,_,0,.str (eQ g),rfl,rfl,SqT.of ha,bi,(by show 3<=sizeLine;decide),fun p1 h1=>?_⟩
 have s1:=af h1 (.tup [.str "num",.str "own",.str "part"])
 have g1:(upd H p1 (.tup [.str "num",.str "own",.str "part"])) p1=some (.tup (([("num":Str),"own","part"]:List Str).map V.str)):=ab
 generalize upd H p1 (.tup [.str "num",.str "own",.str "part"])=HX at s1 g1 ⊢
 refine ⟨p1,_,rfl,.inr (SqT.of g1),rfl,db _,_,rfl,?_⟩
 refine (show if inV (.str (eQ g)) ((["num","own","part"]:List Str).map V.str)=true then _ else _ from ?_)
 rw [di]
 by_cases l:j6 g
 ·rw [(gL hwf).mpr l]
  have sz:g.size=1:=by cases g <;> first | rfl | exact l.elim
  refine bt ⟨_,rfl,_,rfl,(by show 3<=sizeLine;decide),fun p2 h2=>?_⟩
  have s2:=af h2 (.tup [.str "less",.ref a,.ref oa])
  refine q _ (.bin "less" g o) _ (s1.trans s2) ⟨p2,_,_,rfl,ab,hR.mono (au (s1.trans s2)),hO.mono (au (s1.trans s2))⟩ ⟨by decide +kernel,hwf,hwo⟩ (by show g.size+o.size+1<=15;lia) fun ks h=>List.mem_append.mp h
 ·have hh:eQ g∉(["num","own","part"]:List Str):=fun z=>l ((gL hwf).mp (decide_eq_true z))
  rw [decide_eq_false hh]
  obtain ⟨a',us,e,ha',hus,hK⟩:=lg l hwf hR
  cases e
  have e1: ∃ k u,us[0]? =some u/\Rep H k u/\k.wf/\k.size+2<=g.size/\ ∀ ks∈k.rdk,ks∈g.rdk:=by
   cases g with
   | num n=>exact (l trivial).elim
   | own x=>exact (l trivial).elim
   | part k x=>exact (l trivial).elim
   | bin op A B=>
    cases hK with
    | cons r1 t=>exact ⟨A,_,rfl,r1.1,r1.2.1,(by have:=B.size_pos;show _<=A.size+B.size+1;lia),fun ks h=>List.mem_append.mpr (.inl h)⟩
   | whn A B C=>
    cases hK with
    | cons r1 t=>exact ⟨A,_,rfl,r1.1,r1.2.1,(by have:=B.size_pos;show _<=A.size+B.size+C.size+1;lia),fun ks h=>List.mem_append.mpr (.inl h)⟩
  obtain ⟨k,u,e1,rk,wk,sk,dk⟩:=e1
  refine bh ⟨_,rfl,a,_,1,u,rfl,rfl,SqT.of (s1 _ _ ha'),ar (j:=1) e1,_,rfl,(by show 3<=sizeLine;decide),fun p2 h2=>?_⟩
  have s2:=af h2 (.tup [.str "less",u,.ref oa])
  refine q _ (.bin "less" k o) _ (s1.trans s2) ⟨p2,_,_,rfl,ab,rk.mono (au (s1.trans s2)),hO.mono (au (s1.trans s2))⟩ ⟨by decide +kernel,wk,hwo⟩ (by show k.size+o.size+1<=15;lia) fun ks h=>(List.mem_append.mp h).imp (dk ks) id
theorem Kp.free {tp p:Addr} {H H':Hp} (k:Kp tp H H') (t:Tp H' tp) (h:H' p=none):H p=none:=by
 by_cases e:p=tp
 ·subst e
  obtain ⟨t,ht⟩:=t
  rw [h]at ht
  cases ht
 ·cases ho:H p with
  | none=>rfl
  | some o=>
   have:=k _ _ ho e
   rw [h]at this
   cases this
theorem turn_mem {α:Type} {l:List α} {k:Nat} {x:α}:x∈l.drop k++l.take k↔x∈l:=by
 rw [List.mem_append,or_comm,<- List.mem_append,List.take_append_drop]
theorem iq {α:Type} {l:List α} {k:Nat}:(l.drop k++l.take k).length=l.length:=by
 rw [List.length_append,Nat.add_comm,<- List.length_append,List.take_append_drop]
def AtW (rs:List Rul) (i:Int) (ws:List Str):Prop:=(∀ x,x∈ws↔ ∃ r∈rs,r.pl=i/\r.word=x)/\ws.length<=rs.length
def nQ:Sp:=fun vs H Q _=> ∃ tp ra rv rs i,vs=[.ref tp,.ref ra,.int i]/\H ra=some (.tup rv)/\RepRs H rs rv/\(∃ r∈rs,r.pl=i)/\rs.length<=900/\Tp H tp/\ ∀ p ws H',H p=none->Kp tp H H'->Tp H' tp->H' p=some (.lst (ws.map V.str))->AtW rs i ws->Q (.ref p) H'
abbrev rQ:List Str:=["tape","rules","at","words","cut","line"]
theorem scLineOf:aB rQ ["tape","rules","at"] (ag jv):=fsc
theorem sS (F:Fun K "_law_line_of" "_law_line_of" jv f fd) (G:Gb mg)
  (GD:FnOk P w K mg base CX0 1 g gd ["tape","many"] bo) (bD:Binds K gd ["tape","many"] []) (kD:W.keepIn K (.ref g)=true) (mD:mg "_law_digit"=some (.ref g)):
  FnOk P w K mg base CX0 2 f fd ["tape","rules","at"] nQ:=by
 refine F.ok scLineOf (fun vs H Q E h=>?_) (fun cdv A outer s H vs Q E hr h=>?_)
 ·obtain ⟨tp,ra,rv,rs,i,rfl,_⟩:=h
  rfl
 obtain ⟨tp,ra,rv,rs,i,rfl,hra,hR,hex,hlen,ht,q⟩:=h
 have hr1:=hr.mono (show 1<=1 by decide)
 have lrv:rs.length=rv.length:=Paired.length hR
 refine ⟨_,ae (fZ (i:=3) (sc0:=ag jv) (N0:=rQ) (ys:=["at"]) (fr:=[2]) rfl scLineOf.nd rfl (Or.inl rfl) (cf (pv 1)) rfl rfl cok (fun C s H ex=>aw bq (ao (r:=aC K) al (pv 0) ad (fun _ _=>rfl)) (pv 1) (ay _)) (fun C s H ex=>(ao (r:=aC K) al (pv 0) ad (fun _ _=>rfl))))
  (ae (aq (i:=4) scLineOf.nd rfl (Or.inl rfl) (aE cM (ak GD hr1 rfl mD kD bD .nil av (aa (pv 0) (aa ad ac))) (aF (r:=de K) aA rfl G.len PySem.boot_len (aa (pv 3) ac))))
  (ae (aq (i:=5) scLineOf.nd rfl (Or.inl rfl) (aE dn (aN bJ (pv 3) (aV (pv 4)) aZ) (aN bJ (pv 3) aZ (aV (pv 4)))))
  (ai (ax (ao (r:=cI K) aS (aU (aa (pv 5) (aa (mX (pv 5) (dY c7 ad)) ac))) (ak GD hr1 rfl mD kD bD .nil av (aa (pv 0) (aa ad ac))) (fun _ _=>rfl)))))),?_⟩
 refine ⟨_,rfl,ra,rfl,⟨_,SqT.of hra⟩,?_⟩
 refine fG (by lia) hR (dz hra) (dy hra) (eW hra) (fun r=>decide (r.pl=i)) (fun _ r v=>v=.str r.word) (fun _ h=>h) ?_ ?_ ?_
 ·rintro r v H1 k hr ⟨a,u,rfl,ha,_⟩ s1 hk
  refine ⟨_,rfl,a,_,0,.int r.pl,rfl,rfl,SqT.of (s1 _ _ ha),bi,_,rfl,rfl,_,rfl,?_⟩
  rw [show decide (V.int r.pl=V.int i)=decide (r.pl=i)from decide_eq_decide.mpr ⟨fun z=>V.int.inj z,fun z=>by rw [z]⟩]
  exact hk H1 (Same.refl H1)
 ·rintro r v H1 k hr ⟨a,u,rfl,ha,_⟩ _ s1 hk
  exact ⟨_,rfl,a,_,1,.str r.word,rfl,rfl,SqT.of (s1 _ _ ha),ar (j:=1) rfl,hk _ H1 (Same.refl H1) rfl⟩
 intro p1 zs H1 hp1 s1 g1 hz
 have ez:zs=((rs.filter fun r=>decide (r.pl=i)).map Rul.word).map V.str:=by rw [cj hz,List.map_map];rfl
 subst ez
 have hw:AtW rs i ((rs.filter fun r=>decide (r.pl=i)).map Rul.word):=by
  refine ⟨fun x=>?_,by rw [List.length_map];exact List.length_filter_le _ _⟩
  rw [List.mem_map]
  refine ⟨fun ⟨r,hr,e⟩=>⟨r,(List.mem_filter.mp hr).1,of_decide_eq_true (List.mem_filter.mp hr).2,e⟩,fun ⟨r,hr,e1,e2⟩=>⟨r,List.mem_filter.mpr ⟨hr,decide_eq_true e1⟩,e2⟩⟩
 have hne:0< ((rs.filter fun r=>decide (r.pl=i)).map Rul.word).length:=by
  obtain ⟨r,hr,e⟩:=hex
  exact List.length_pos_iff.mpr (List.ne_nil_of_mem ((hw.1 r.word).mpr ⟨r,hr,e,rfl⟩))
 generalize (rs.filter fun r=>decide (r.pl=i)).map Rul.word=ws at *
 have lm:(ws.map V.str).length=ws.length:=List.length_map _
 have hwl:=hw.2
 refine ⟨_,rfl,tp,3,rfl,ht.same s1,by decide,by decide,fun d t d0 d1=>?_⟩
 have k2:Kp tp H (upd H1 tp (.lst [.int t])):=(Kp.refl.same s1).trans Kp.tape
 have t2:Tp (upd H1 tp (.lst [.int t])) tp:=⟨t,ab⟩
 have npt:p1≠tp:=fun e=>by
  obtain ⟨t,ht⟩:=ht
  rw [e,ht]at hp1
  cases hp1
 have g2:(upd H1 tp (.lst [.int t])) p1=some (.lst (ws.map V.str)):=by rw [am npt];exact g1
 generalize upd H1 tp (.lst [.int t])=H2 at k2 t2 g2 ⊢
 refine ⟨_,rfl,p1,_,rfl,.inl (SqL.of g2),_,_,rfl,rfl,(by show (0:Int) < ((ws.map V.str).length:Int);lia),?_⟩
 obtain ⟨c,hc⟩: ∃ c:Nat,d% ((ws.map V.str).length:Int)=(c:Int):=⟨(d% ((ws.map V.str).length:Int)).toNat,by have:=Int.emod_nonneg d (b:=((ws.map V.str).length:Int)) (by lia);lia⟩
 rw [show V.int (d% ((ws.map V.str).length:Int))=V.int (c:Int)from congrArg V.int hc]
 refine ⟨_,rfl,_,rfl,_,rfl,p1,_,rfl,SqL.of g2,fun p3 hp3=>?_⟩
 rw [vY]
 have s3:=af hp3 (.lst ((ws.map V.str).drop c))
 have g3:(upd H2 p3 (.lst ((ws.map V.str).drop c))) p3=some (.lst ((ws.map V.str).drop c)):=ab
 generalize upd H2 p3 (.lst ((ws.map V.str).drop c))=H3 at s3 g3 ⊢
 refine ⟨_,rfl,_,rfl,_,rfl,p1,_,rfl,SqL.of (s3 _ _ g2),fun p4 hp4=>?_⟩
 rw [qu]
 have s4:=af hp4 (.lst ((ws.map V.str).take c))
 have g4:(upd H3 p4 (.lst ((ws.map V.str).take c))) p4=some (.lst ((ws.map V.str).take c)):=ab
 generalize upd H3 p4 (.lst ((ws.map V.str).take c))=H4 at s4 g4 ⊢
 refine ⟨p3,p4,_,_,rfl,rfl,s4 _ _ g3,g4,Nat.le_trans (m:=1001) (by rw [<- List.length_append,iq];lia) (by decide),fun p5 hp5=>?_⟩
 have s5:=af hp5 (.lst ((ws.map V.str).drop c++(ws.map V.str).take c))
 have g5:(upd H4 p5 (.lst ((ws.map V.str).drop c++(ws.map V.str).take c))) p5=some (.lst ((ws.drop c++ws.take c).map V.str)):=by rw [ab,List.map_append,List.map_drop,List.map_take]
 generalize upd H4 p5 (.lst ((ws.map V.str).drop c++(ws.map V.str).take c))=H5 at s5 g5 ⊢
 have hw5:AtW rs i (ws.drop c++ws.take c):=⟨fun x=>turn_mem.trans (hw.1 x),by rw [iq];exact hw.2⟩
 generalize ws.drop c++ws.take c=us at *
 have k5:=k2.same ((s3.trans s4).trans s5)
 have t5:=t2.same ((s3.trans s4).trans s5)
 have f5:H p5=none:=k2.free t2 ((s3.trans s4).free hp5)
 refine ⟨_,rfl,_,rfl,_,rfl,p5,_,_,rfl,rfl,SqL.of g5,(by decide),fun p6 hp6=>?_⟩
 have e6:fH (us.map V.str) (-1)=us.reverse.map V.str:=by rw [iR,List.map_reverse]
 have f6:H p6=none:=k5.free t5 hp6
 have s6:=af hp6 (.lst (fH (us.map V.str) (-1)))
 have g6:(upd H5 p6 (.lst (fH (us.map V.str) (-1)))) p6=some (.lst (us.reverse.map V.str)):=by rw [ab,e6]
 generalize upd H5 p6 (.lst (fH (us.map V.str) (-1)))=H6 at s6 g6 ⊢
 refine ⟨(by show 2<=sizeLine;decide),fun p7 hp7=>?_⟩
 have s7:=af hp7 (.lst [.ref p5,.ref p6])
 have g7:(upd H6 p7 (.lst [.ref p5,.ref p6])) p7=some (.lst [.ref p5,.ref p6]):=ab
 generalize upd H6 p7 (.lst [.ref p5,.ref p6])=H7 at s7 g7 ⊢
 have t7:=t5.same (s6.trans s7)
 have k7:=k5.same (s6.trans s7)
 refine ⟨_,rfl,tp,2,rfl,t7,by decide,by decide,fun d t d0 d1=>?_⟩
 have nt: ∀ {p:Addr} {o:HO},H7 p=some o->H p=none->(upd H7 tp (.lst [.int t])) p=some o:=fun {p o} h hn=>by
  rw [am fun e=>by
   obtain ⟨t,ht⟩:=ht
   rw [e,ht]at hn
   cases hn]
  exact h
 have f7:H p7=none:=k5.free t5 (s6.free hp7)
 have g57:=nt ((s6.trans s7) _ _ g5) f5
 have g67:=nt (s7 _ _ g6) f6
 have g77:=nt g7 f7
 have k8:=k7.trans (Kp.tape (tp:=tp) (H:=H7) (o:=.lst [.int t]))
 have t8:Tp (upd H7 tp (.lst [.int t])) tp:=⟨t,ab⟩
 generalize upd H7 tp (.lst [.int t])=H8 at *
 rcases (show d=0\/d=1 by lia)with rfl | rfl
 ·exact ⟨p7,_,0,_,rfl,rfl,SqL.of g77,bi,q p5 us H8 f5 k8 t8 g57 hw5⟩
 ·exact ⟨p7,_,1,_,rfl,rfl,SqL.of g77,ar (j:=1) rfl,q p6 us.reverse H8 f6 k8 t8 g67 ⟨fun x=>List.mem_reverse.trans (hw5.1 x),by rw [List.length_reverse];exact hw5.2⟩⟩
def FmC (fr:Frm) (g:Fm):Prop:=g.wf/\g.size<=15/\ ∀ ks∈g.rdk,RdT fr ks
def CalEnd (D:cH) (tp rl:Addr) (hd:St) (fr:Frm) (r:Rul) (rv:List V) (H:Hp):Prop:= ∀ (o8 o9 o10 o11 o12 o13 o14 o15 o16 o17:Option V) (a:Addr) (u:V) (g:Fm) (H':Hp),Kp tp H H'->Tp H' tp->H' a=some (.tup [.int r.pl,.str r.word,u])->Rep H' g u->FmC fr g->D.nx (hd++[o8,o9,o10,o11,o12,o13,o14,o15,o16,o17]) (upd H' rl (.lst (rv++[.ref a])))
theorem CalEnd.mono {D:cH} {tp rl:Addr} {hd:St} {fr:Frm} {r:Rul} {rv:List V} {H H':Hp} (k:Kp tp H H') (h:CalEnd D tp rl hd fr r rv H):CalEnd D tp rl hd fr r rv H':=fun o8 o9 o10 o11 o12 o13 o14 o15 o16 o17 a u g H2 k2=>h o8 o9 o10 o11 o12 o13 o14 o15 o16 o17 a u g H2 (k.trans k2)
section
variable {P:Program} {w:World} {K:W.Frag} {mg:Str->Option Value} {base:Heap} {f f2 f3 f4 f5 f6 f7 f8 f9:Addr} {fd fd2 fd3 fd4 fd5 fd6 fd7 fd8 fd9:FuncData} {cdv:Value} {A:Around} {outer:List Env} {s:Shared} {H0:Hp} {E:XK}
abbrev iN:List Str:=["tape","book","often","downs","forms","form","rules","lines","at","word","formula","ahead","some","one","drops","late","other","here"]
theorem scCalm:aB iN ["tape","book","often"] (ag cX):=fsc
noncomputable def calFor:List Stmt:=fF ((bV cX).getD 2 (.Pass ⟨0,0,0,0⟩))
noncomputable def calRule:List Stmt:=fF (calFor.getD 2 (.Pass ⟨0,0,0,0⟩))
theorem zd: ∃ t,PSs (cV CX0 P w K mg base iN "_law_calmed" (ag cX) f cdv A outer s H0 E).nox (calRule.drop 7) t/\
  ∀ (D:cH) (tp rl:Addr) (fr:Frm) (r:Rul) (u:V) (g:Fm) (rv:List V) (o0 o1 o2 o3 o4 o5 o7 o11 o12 o13 o14 o15 o16 o17:Option V) (H7:Hp),Tp H7 tp->rl≠tp->H7 rl=some (.lst rv)->rv.length<=900->Rep H7 g u->FmC fr g->
   CalEnd D tp rl [o0,o1,o2,o3,o4,o5,some (.ref rl),o7] fr r rv H7->t D [o0,o1,o2,o3,o4,o5,some (.ref rl),o7,some (.int r.pl),some (.str r.word),some u,o11,o12,o13,o14,o15,o16,o17] H7:=by
 refine ⟨_,ai (cJ (dH PySem.F.plainAttrs_list PySem.F.slot_list_append PySem.F.type_list_append bM (pv 6) (aa (aP (aa (pv 8) (aa (pv 9) (aa (pv 10) ac)))) ac))),?_⟩
 intro D tp rl fr r u g rv o0 o1 o2 o3 o4 o5 o7 o11 o12 o13 o14 o15 o16 o17 H7 tt nrl grl hlen hR hC hE
 refine ⟨_,rfl,.inl ⟨rfl,_,SqL.of grl⟩,_,rfl,_,rfl,_,rfl,(by show 3<=sizeLine;decide),fun a ha=>?_⟩
 have g7:(upd H7 a (.tup [.int r.pl,.str r.word,u])) rl=some (.lst rv):=af ha _ _ _ grl
 refine ⟨rl,rv,.ref a,rfl,rfl,g7,aG (by lia),?_⟩
 exact hE _ _ _ _ _ _ _ _ _ _ a u g _ (Kp.refl.new ha) (tt.new ha) ab (hR.mono (TK.new ha)) hC
theorem ze (G:Gb mg) (GD:FnOk P w K mg base CX0 1 f2 fd2 ["tape","many"] bo) (bD:Binds K fd2 ["tape","many"] []) (kD:W.keepIn K (.ref f2)=true) (mD:mg "_law_digit"=some (.ref f2))
  (GW:FnOk P w K mg base CX0 1 f3 fd3 ["formula","one"] fe) (bW:Binds K fd3 ["formula","one"] []) (kW:W.keepIn K (.ref f3)=true) (mW:mg "_law_with_reading"=some (.ref f3))
  (hr1:Room 1 (cV CX0 P w K mg base iN "_law_calmed" (ag cX) f cdv A outer s H0 E).nox.A): ∃ t,PSs (cV CX0 P w K mg base iN "_law_calmed" (ag cX) f cdv A outer s H0 E).nox (calRule.drop 6) t/\
  ∀ (D:cH) (tp rl ah:Addr) (bk:Bk) (fr:Frm) (r:Rul) (u:V) (g:Fm) (us:List Str) (rv:List V) (o1 o2 o3 o4 o5 o7 o12 o13 o14 o15 o16 o17:Option V) (H6:Hp),BkT bk->fr∈bk.forms->Tp H6 tp->rl≠tp->H6 rl=some (.lst rv)->rv.length<=900->Rep H6 g u->FmC fr g->
   H6 ah=some (.lst (us.map V.str))->ah≠tp->us.length<=900->(∀ x∈us,∃ r'∈fr.rules,r'.pl=r.pl/\r'.word=x)->
   CalEnd D tp rl [some (.ref tp),o1,o2,o3,o4,o5,some (.ref rl),o7] fr r rv H6->t D [some (.ref tp),o1,o2,o3,o4,o5,some (.ref rl),o7,some (.int r.pl),some (.str r.word),some u,some (.ref ah),o12,o13,o14,o15,o16,o17] H6:=by
 have hu0:=hr1.units0
 obtain ⟨t,ht,hnext⟩:=zd (P:=P) (w:=w) (K:=K) (mg:=mg) (base:=base) (f:=f) (cdv:=cdv) (A:=A) (outer:=outer) (s:=s) (H0:=H0) (E:=E)
 refine ⟨_,ae (aY (PW.pt (hV (aw (i5 hu0) (pv 11) (aU ac) (ay _)) (fA (aw bq (ak GD hr1 rfl mD kD bD .nil av (aa (pv 0) (aa ad ac))) ad (ay _))))) (ae (aq (i:=16) scCalm.nd rfl (Or.inl rfl) (ao (r:=cI K) aS (pv 11) (ak GD hr1 rfl mD kD bD .nil av (aa (pv 0) (aa (aF (r:=de K) aA rfl G.len PySem.boot_len (aa (pv 11) ac)) ac))) (fun _ _=>rfl)))
  (ae (aq (i:=17) scCalm.nd rfl (Or.inl rfl) (ga (aw fK (pv 8) ad (ay _)) (aP (aa aX (aa (pv 16) ac))) (aP (aa aX (aa (pv 8) (aa (pv 16) ac))))))
  (ai (aq (i:=10) scCalm.nd rfl (Or.inl rfl) (ak GW hr1 rfl mW kW bW .nil av (aa (pv 10) (aa (pv 17) ac))))))) aK) ht,?_⟩
 intro D tp rl ah bk fr r u g us rv o1 o2 o3 o4 o5 o7 o12 o13 o14 o15 o16 o17 H6 hT hfr tt nrl grl hlen hR hC gah nah hus hw hE
 have lu:(us.map V.str).length=us.length:=List.length_map _
 refine ⟨_,rfl,(by show 0<=sizeLine;decide),fun p0 hp0=>?_⟩
 have s0:=af hp0 (.lst [])
 have g0:(upd H6 p0 (.lst [])) p0=some (.lst []):=ab
 have tt0:=tt.same s0
 generalize upd H6 p0 (.lst [])=H7 at s0 g0 tt0 ⊢
 refine ⟨ah,p0,_,rfl,rfl,SqL.of (s0 _ _ gah),SqL.of g0,_,rfl,?_⟩
 cases us with
 | nil=>exact bh (bh (hnext D tp rl fr r u g rv _ _ _ _ _ _ _ _ _ _ _ _ _ _ H7 tt0 nrl (s0 _ _ grl) hlen (hR.mono (au s0)) hC (hE.mono (Kp.refl.same s0))))
 | cons x0 xr=>
 refine bt ⟨_,rfl,tp,3,rfl,tt0,by decide,by decide,fun d t' d0 d1=>?_⟩
 have k8:Kp tp H6 (upd H7 tp (.lst [.int t'])):=(Kp.refl.same s0).trans Kp.tape
 have tt8:Tp (upd H7 tp (.lst [.int t'])) tp:=⟨t',ab⟩
 generalize upd H7 tp (.lst [.int t'])=H8 at k8 tt8 ⊢
 refine ⟨rfl,_,rfl,?_⟩
 refine cU (fun _=>?_) (fun _=>hnext D tp rl fr r u g rv _ _ _ _ _ _ _ _ _ _ _ _ _ _ H8 tt8 nrl (k8 _ _ grl nrl) hlen (hR.mono (k8.tk tt)) hC (hE.mono k8))
 refine ⟨_,rfl,_,rfl,_,rfl,ah,_,rfl,.inl (SqL.of (k8 _ _ gah nah)),tp,_,rfl,tt8,(by show (0:Int) < (((x0::xr).map V.str).length:Int);rw [lu,List.length_cons];lia),(by rw [lu];lia),fun e t2 e0 e1=>?_⟩
 have k9:Kp tp H6 (upd H8 tp (.lst [.int t2])):=k8.trans Kp.tape
 have tt9:Tp (upd H8 tp (.lst [.int t2])) tp:=⟨t2,ab⟩
 generalize upd H8 tp (.lst [.int t2])=H9 at k9 tt9 ⊢
 obtain ⟨xv,ex,ex2⟩:=eY (xs:=(x0::xr).map V.str) e0 e1
 obtain ⟨x,hx,rfl⟩:=List.mem_map.mp (List.mem_of_getElem? ex2)
 refine ⟨ah,_,e,.str x,rfl,rfl,SqL.of (k9 _ _ gah nah),ex,?_⟩
 obtain ⟨r',hr',e1',e2'⟩:=hw x hx
 have htg:(r.pl= -1/\x∈fr.own.ups)\/ ∃ (j:Nat) (q:Srt),r.pl=(j:Int)/\fr.parts[j]? =some q/\x∈q.downs:=by
  refine tgts_iff.mp ?_
  rw [<- (hT.fr fr hfr).tg]
  exact List.mem_map.mpr ⟨r',hr',by rw [e1',e2']⟩
 obtain ⟨hown,hprt,hp3⟩:=hT.g.ok fr hfr
 refine ⟨_,rfl,_,_,rfl,rfl,_,rfl,?_⟩
 have go: ∀ (pa:Addr) (ofm:Fm) (HA:Hp),Kp tp H6 HA->Tp HA tp->Rep HA ofm (.ref pa)->ofm.wf->ofm.size=1->(∀ ks∈ofm.rdk,RdT fr ks)-> ∀ (Q:V->Hp->Prop) (EE:XK),(∀ v H',CalEnd D tp rl [some (.ref tp),o1,o2,o3,o4,o5,some (.ref rl),o7] fr r rv H'->Tp H' tp->H' rl=some (.lst rv)-> ∀ g',Rep H' g' v->FmC fr g'->Q v H')->fe [u,.ref pa] HA Q EE:=fun pa ofm HA kA tA hO wO sO dO Q EE hQ=>
  ⟨u,pa,g,ofm,rfl,hR.mono (kA.tk tt),hC.1,hC.2.1,hO,wO,sO,fun v' g' H' s' hR' w' z' d'=>hQ v' H' (hE.mono (kA.same s')) (tA.same s') (s' _ _ (kA _ _ grl nrl)) g' hR' ⟨w',z',fun ks hk=>(d' ks hk).elim (hC.2.2 ks) (dO ks)⟩⟩
 rcases htg with ⟨e3,hx3⟩ | ⟨j,q,e3,hq,hx3⟩
 ·rw [decide_eq_true (show r.pl<0 by lia)]
  refine bt ⟨_,rfl,(by show 2<=sizeLine;decide),fun pa hpa=>?_⟩
  have sA:=af hpa (.tup [.str "own",.str x])
  refine ⟨_,rfl,_,rfl,go pa (.own x) _ (k9.same sA) (tt9.same sA) ⟨pa,rfl,ab⟩ ((hT.g.so.2.2.2.2 _ hown).2.1 x (List.mem_append.mpr (.inr hx3))) rfl (fun ks hk=>?_) _ E fun v H' hE' t' g' gg hR' hC'=>hnext D tp rl fr r v gg rv _ _ _ _ _ _ _ _ _ _ _ _ _ _ H' t' nrl g' hlen hR' hC' hE'⟩
  rw [List.mem_singleton.mp hk]
  exact .inl ⟨x,rfl,List.mem_append.mpr (.inr hx3)⟩
 ·rw [decide_eq_false (show ¬ r.pl<0 by lia)]
  have hj:j<3:=Nat.lt_of_lt_of_le (List.getElem?_eq_some_iff.mp hq).1 hp3
  refine bh ⟨_,rfl,_,rfl,(by show 3<=sizeLine;decide),fun pa hpa=>?_⟩
  have sA:=af hpa (.tup [.str "part",.int r.pl,.str x])
  refine ⟨_,rfl,_,rfl,go pa (.part r.pl x) _ (k9.same sA) (tt9.same sA) ⟨pa,rfl,ab⟩ ⟨⟨by lia,by lia⟩,(hT.g.so.2.2.2.2 _ (hprt q (List.mem_of_getElem? hq))).2.1 x (List.mem_append.mpr (.inl hx3))⟩ rfl (fun ks hk=>?_) _ E fun v H' hE' t' g' gg hR' hC'=>hnext D tp rl fr r v gg rv _ _ _ _ _ _ _ _ _ _ _ _ _ _ H' t' nrl g' hlen hR' hC' hE'⟩
  rw [List.mem_singleton.mp hk]
  exact .inr ⟨j,q,x,by rw [e3],hq,List.mem_append.mpr (.inl hx3)⟩
end
def K2 (tp sl:Addr) (H H':Hp):Prop:= ∀ b o,H b=some o->b≠tp->b≠sl->H' b=some o
theorem K2.refl {tp sl:Addr} {H:Hp}:K2 tp sl H H:=fun _ _ h _ _=>h
theorem K2.trans {tp sl:Addr} {H H1 H2:Hp} (a:K2 tp sl H H1) (b:K2 tp sl H1 H2):K2 tp sl H H2:=fun c o h n m=>b c o (a c o h n m) n m
theorem K2.tk {tp sl:Addr} {H H':Hp} {zs:List V} (a:K2 tp sl H H') (t:Tp H tp) (g:H sl=some (.lst zs)):TK H H':=fun b xs h=>a b _ h (fun e=>by
 obtain ⟨t,ht⟩:=t
 rw [e,ht]at h
 cases h) (fun e=>by rw [e,g]at h;cases h)
theorem DnAt.k2 {tp sl d:Addr} {bk:Bk} {H H':Hp} {zs:List V} (a:K2 tp sl H H') (t:Tp H tp) (g:H sl=some (.lst zs)) (h:DnAt H d bk):DnAt H' d bk:=by
 have tk:=a.tk t g
 obtain ⟨kvs,h1,h2⟩:=h
 refine ⟨kvs,a _ _ h1 (fun e=>?_) (fun e=>?_),fun x hx=>let ⟨b,e,h⟩:=h2 x hx;⟨b,e,tk _ _ h⟩⟩
 ·obtain ⟨t,ht⟩:=t
  rw [e,ht]at h1
  cases h1
 ·rw [e,g]at h1
  cases h1
section
variable {P:Program} {w:World} {K:W.Frag} {mg:Str->Option Value} {base:Heap} {f f2 f3 f4 f5 f6 f7 f8 f9:Addr} {fd fd2 fd3 fd4 fd5 fd6 fd7 fd8 fd9:FuncData} {cdv:Value} {A:Around} {outer:List Env} {s:Shared} {H0:Hp} {E:XK}
noncomputable def calOne:List Stmt:=fF (calRule.getD 4 (.Pass ⟨0,0,0,0⟩))
theorem zh: ∃ t,PSs (cV CX0 P w K mg base iN "_law_calmed" (ag cX) f cdv A outer s H0 E).nox.nox (calOne.drop 2) t/\
  ∀ (D:cH) (tp sl oa:Addr) (b:Bool) (ks:List Key) (zs:List V) (ss:List (List Key)) (o0 o1 o2 o3 o4 o5 o6 o7 o8 o9 o10 o11 o15 o16 o17:Option V) (H':Hp),Tp H' tp->sl≠tp->H' sl=some (.lst zs)->KsOf H' zs ss->HdS ss->zs.length<=900->H' oa=some (.tup (ks.map kV))->(∃ z r,ks=Sum.inr z::r/\(z="own"\/z="part"))->
   (∀ zs' ss' H'',K2 tp sl H' H''->Tp H'' tp->H'' sl=some (.lst zs')->KsOf H'' zs' ss'->HdS ss'->zs'.length<=zs.length+1->D.nx [o0,o1,o2,o3,o4,o5,o6,o7,o8,o9,o10,o11,some (.ref sl),some (.ref oa),some (.bl b),o15,o16,o17] H'')->
   t D [o0,o1,o2,o3,o4,o5,o6,o7,o8,o9,o10,o11,some (.ref sl),some (.ref oa),some (.bl b),o15,o16,o17] H':=by
 refine ⟨_,ai (aY (dE (pv 14)) (ai (cJ (dH PySem.F.plainAttrs_list PySem.F.slot_list_append PySem.F.type_list_append bM (pv 12) (aa (pv 13) ac)))) aK),?_⟩
 intro D tp sl oa b ks zs ss o0 o1 o2 o3 o4 o5 o6 o7 o8 o9 o10 o11 o15 o16 o17 H' tt nsl gsl hks hS hlen hoa hd q
 refine ⟨_,rfl,b,rfl,?_⟩
 cases b with
 | false=>exact bh (q zs ss H' K2.refl tt gsl hks hS (by lia))
 | true=>
  refine bt ⟨_,rfl,.inl ⟨rfl,_,SqL.of gsl⟩,_,rfl,sl,zs,.ref oa,rfl,rfl,gsl,aG (by lia),?_⟩
  have tk:TK H' (upd H' sl (.lst (zs++[.ref oa]))):=TK.lst gsl
  refine q (zs++[.ref oa]) (ss++[ks]) _ (fun b o h _ n=>by rw [am n];exact h) ?_ ab (Paired.snoc (KsOf.mono hks tk) ⟨oa,rfl,tk _ _ hoa⟩) ?_ (by rw [List.length_append];exact Nat.le_refl _)
  ·obtain ⟨t,ht⟩:=tt
   exact ⟨t,by rw [am (Ne.symm nsl)];exact ht⟩
  ·intro k hk
   rcases List.mem_append.mp hk with h | h
   ·exact hS k h
   ·rw [List.mem_singleton.mp h];exact hd
theorem zf (bk:Bk) (G:Gb mg) (GD:FnOk P w K mg base CX0 1 f2 fd2 ["tape","many"] bo) (bD:Binds K fd2 ["tape","many"] []) (kD:W.keepIn K (.ref f2)=true) (mD:mg "_law_digit"=some (.ref f2))
  (GW:FnOk P w K mg base CX0 1 f3 fd3 ["formula","one"] fe) (bW:Binds K fd3 ["formula","one"] []) (kW:W.keepIn K (.ref f3)=true) (mW:mg "_law_with_reading"=some (.ref f3))
  (GR:FnOk P w K mg base CX0 16 f4 fd4 ["formula"] (dJ 15)) (bR:Binds K fd4 ["formula"] []) (kR:W.keepIn K (.ref f4)=true) (mR:mg "_law_read"=some (.ref f4))
  (GU:FnOk P w K mg base CX0 16 f5 fd5 ["formula","some"] (da 15)) (bU:Binds K fd5 ["formula","some"] []) (kU:W.keepIn K (.ref f5)=true) (mU:mg "_law_without"=some (.ref f5))
  (GA: ∀ bk,FnOk P w K mg base CX0 1 f6 fd6 eF (iz bk)) (bA:Binds K fd6 eF []) (kA:W.keepIn K (.ref f6)=true) (mA:mg "_law_is_late"=some (.ref f6))
  (GB: ∀ bk,FnOk P w K mg base CX0 1 f7 fd7 ko (fR bk)) (bB:Binds K fd7 ko []) (kB:W.keepIn K (.ref f7)=true) (mB:mg "_law_is_beside"=some (.ref f7))
  (hr:Room 16 (cV CX0 P w K mg base iN "_law_calmed" (ag cX) f cdv A outer s H0 E).nox.A): ∃ t,PSs (cV CX0 P w K mg base iN "_law_calmed" (ag cX) f cdv A outer s H0 E).nox (calRule.drop 3) t/\
  ∀ (D:cH) (tp rl ah d fa:Addr) (o:Int) (fr:Frm) (r:Rul) (u:V) (us:List Str) (rv:List V) (o1 o4 o7 o12 o13 o14 o15 o16 o17:Option V) (H3:Hp),BkT bk->fr∈bk.forms->r∈fr.rules->2<=o->o<=5->Tp H3 tp->rl≠tp->H3 rl=some (.lst rv)->rv.length<=900->Rep H3 r.fm u->DnAt H3 d bk->RepF H3 fr (.ref fa)->
   H3 ah=some (.lst (us.map V.str))->ah≠tp->us.length<=900->(∀ x∈us,∃ r'∈fr.rules,r'.pl=r.pl/\r'.word=x)->
   CalEnd D tp rl [some (.ref tp),o1,some (.int o),some (.ref d),o4,some (.ref fa),some (.ref rl),o7] fr r rv H3->t D [some (.ref tp),o1,some (.int o),some (.ref d),o4,some (.ref fa),some (.ref rl),o7,some (.int r.pl),some (.str r.word),some u,some (.ref ah),o12,o13,o14,o15,o16,o17] H3:=by
 have hr1:=hr.mono (show 1<=16 by decide)
 have hu:=cF hr
 obtain ⟨t,ht,hnext⟩:=ze (P:=P) (w:=w) (K:=K) (mg:=mg) (base:=base) (f:=f) (cdv:=cdv) (A:=A) (outer:=outer) (s:=s) (H0:=H0) (E:=E) G GD bD kD mD GW bW kW mW hr1
 obtain ⟨ti,hi,hin⟩:=zh (P:=P) (w:=w) (K:=K) (mg:=mg) (base:=base) (f:=f) (cdv:=cdv) (A:=A) (outer:=outer) (s:=s) (H0:=H0) (E:=E)
 refine ⟨_,ae (aq (i:=12) scCalm.nd rfl (Or.inl rfl) (aU ac))
  (ae (bg PassesOwn.never rfl (bu (ak GR hr rfl mR kR bR .nil av (aa (pv 10) ac))) (aH (i:=13) scCalm.nd rfl (Or.inl rfl))
   (ae (aq (i:=14) scCalm.nd rfl (Or.inl rfl) (a7 dM (ao (r:=aC K) al (pv 13) (dY c7 ad) (fun _ _=>rfl)) (pv 11) (by with_unfolding_all rfl)))
  (ae (aY (i4 (dE (ak (GB bk) hr1 rfl mB kB bB .nil av (aa (pv 3) (aa (pv 5) (aa (pv 8) (aa (pv 13) ac))))))) (ae (aq (i:=15) scCalm.nd rfl (Or.inl rfl) (ak (GA bk) hr1 rfl mA kA bA .nil av (aa (pv 3) (aa (pv 5) (aa (pv 8) (aa (pv 9) (aa (pv 13) ac)))))))
  (ai (aq (i:=14) scCalm.nd rfl (Or.inl rfl) (eV (pv 15) (dZ (a7 bq (ak GD hr1 rfl mD kD bD .nil av (aa (pv 0) (aa (pv 2) ac))) ad (ay _))))))) aK) hi)))
  (ae (aq (i:=10) scCalm.nd rfl (Or.inl rfl) (ak GU hr rfl mU kU bU .nil av (aa (pv 10) (aa (pv 12) ac)))) ht)),?_⟩
 intro D tp rl ah d fa o fr r u us rv o1 o4 o7 o12 o13 o14 o15 o16 o17 H3 hT hfr hrm ho1 ho2 tt nrl grl hlen hR hDn hRF gah nah hus hw hE
 obtain ⟨hwf,hsz⟩:=(hT.fr fr hfr).fm r hrm
 have hrd:=(hT.fr fr hfr).rd r hrm
 refine ⟨(by show 0<=sizeLine;decide),fun sl hsl=>?_⟩
 have nsl:=cK tt hsl
 have s4:=af hsl (.lst [])
 have g4:(upd H3 sl (.lst [])) sl=some (.lst []):=ab
 have tt4:=tt.same s4
 generalize upd H3 sl (.lst [])=H4 at s4 g4 tt4 ⊢
 refine ⟨_,rfl,u,r.fm,rfl,hR.mono (au s4),hwf,hsz,Nat.le_refl _,fun yl ys H5 hyl s5 gyl hys=>⟨yl,rfl,⟨_,SqL.of gyl⟩,?_⟩⟩
 have g5:=s5 _ _ g4
 have tt5:=tt4.same s5
 have S5:=s4.trans s5
 have nyt:=cK tt4 hyl
 have nys:yl≠sl:=fun z=>by rw [z,g4]at hyl;cases hyl
 have lys:ys.length=(dd [] r.fm.rdk).length:=Paired.length hys
 have l15:ys.length<=15:=by
  have h3:=gk (rs:=r.fm.rdk) (acc:=[])
  have h4:=dg r.fm
  rw [List.length_nil]at h3
  lia
 refine dj (xs:=ys) (fun k Z H'=>k<=ys.length/\ ∃ o13 o14 o15 o16 o17 zs ss,Z=[some (.ref tp),o1,some (.int o),some (.ref d),o4,some (.ref fa),some (.ref rl),o7,some (.int r.pl),some (.str r.word),some u,some (.ref ah),some (.ref sl),o13,o14,o15,o16,o17]/\K2 tp sl H5 H'/\Tp H' tp/\H' sl=some (.lst zs)/\KsOf H' zs ss/\HdS ss/\zs.length<=k)
  ⟨Nat.zero_le _,_,_,_,_,_,[],[],rfl,K2.refl,tt5,g5,.nil,(fun _ h=>by cases h),Nat.le_refl _⟩ (fun k Z H' _ h=>by obtain ⟨_,_,_,_,_,_,_,_,_,k',_⟩:=h;exact SqL.of (k' _ _ gyl nyt nys)) ?_ ?_
 ·rintro k y Z H6 hy ⟨hk,o13,o14,o15,o16,o17,zs,ss,rfl,k6,tt6,g6,hks6,hS6,lz⟩
  have hkl:k<ys.length:=(List.getElem?_eq_some_iff.mp hy).1
  obtain ⟨ks,hks,b,rfl,hb⟩: ∃ ks,(dd [] r.fm.rdk)[k]? =some ks/\ ∃ b,y=.ref b/\H5 b=some (.tup (List.map kV ks)):=by
   obtain ⟨ks,h1,b,h2,h3⟩:=cD hys hy
   exact ⟨ks,h1,b,h2,h3⟩
  have hksm:ks∈r.fm.rdk:=(dd_iff.mp (List.mem_of_getElem? hks)).elim (fun z=>by cases z) id
  have hrk:=hrd ks hksm
  have tk6:=k6.tk tt5 g5
  have hb6:=tk6 _ _ hb
  have hD6:DnAt H6 d bk:=(hDn.same S5).k2 k6 tt5 g5
  have hRF6:=hRF.mono ((au S5).trans tk6)
  have gah6:H6 ah=some (.lst (us.map V.str)):=k6 _ _ (S5 _ _ gah) nah (fun e=>by rw [e,hsl]at gah;cases gah)
  have hlast:atI (ks.map kV) (-1)=some (.str (kyL ks).2):=by
   rcases hrk with ⟨x,rfl,_⟩ | ⟨kk,q',x,rfl,_,_⟩ <;> rfl
  have hhd: ∃ z r,ks=Sum.inr z::r/\(z="own"\/z="part"):=by
   rcases hrk with ⟨x,rfl,_⟩ | ⟨kk,q',x,rfl,_,_⟩
   ·exact ⟨_,_,rfl,.inl rfl⟩
   ·exact ⟨_,_,rfl,.inr rfl⟩
  have hok:LkOk bk ⟨fr,r,0,ks⟩:=⟨hfr,hrm,hrk⟩
  have go: ∀ (D':cH) (dr:Bool) (o15:Option V) (H7:Hp),(∀ Z H',(k+1<=ys.length/\ ∃ o13 o14 o15 o16 o17 zs ss,Z=[some (.ref tp),o1,some (.int o),some (.ref d),o4,some (.ref fa),some (.ref rl),o7,some (.int r.pl),some (.str r.word),some u,some (.ref ah),some (.ref sl),o13,o14,o15,o16,o17]/\K2 tp sl H5 H'/\Tp H' tp/\H' sl=some (.lst zs)/\KsOf H' zs ss/\HdS ss/\zs.length<=k+1)->D'.nx Z H')->K2 tp sl H6 H7->Tp H7 tp->H7 sl=some (.lst zs)->
    ti D' [some (.ref tp),o1,some (.int o),some (.ref d),o4,some (.ref fa),some (.ref rl),o7,some (.int r.pl),some (.str r.word),some u,some (.ref ah),some (.ref sl),some (.ref b),some (.bl dr),o15,o16,o17] H7:=fun D' dr o15 H7 hD' k7 tt7 g7=>by
   have tk7:=k7.tk tt6 g6
   refine hin D' tp sl b dr ks zs ss _ _ _ _ _ _ _ _ _ _ _ _ _ _ _ H7 tt7 nsl g7 (KsOf.mono hks6 tk7) hS6 (by lia) (tk7 _ _ hb6) hhd fun zs' ss' H8 k8 tt8 g8 hks8 hS8 lz8=>?_
   exact hD' _ _ ⟨hkl,_,_,_,_,_,zs',ss',rfl,k6.trans (k7.trans k8),tt8,g8,hks8,hS8,by lia⟩
  refine ⟨_,rfl,1,rfl,b,_,-1,.str (kyL ks).2,rfl,rfl,SqT.of hb6,hlast,_,rfl,ah,_,rfl,.inl (SqL.of gah6),rfl,db _,?_⟩
  rw [if_pos rfl,di]
  refine ⟨_,rfl,_,rfl,_,rfl,_,rfl,d,b,_,⟨fr,r,0,ks⟩,rfl,hD6,hRF6,hb6,hT,hok,fun H7 s7=>?_⟩
  have k7:K2 tp sl H6 H7:=fun b o h _ _=>s7 _ _ h
  refine ⟨_,rfl,?_⟩
  cases ik ⟨fr,r,0,ks⟩with
  | true=>exact bh (go _ _ _ H7 (fun Z H' h=>h) k7 (tt6.same s7) (s7 _ _ g6))
  | false=>
   refine bt ⟨_,rfl,_,rfl,_,rfl,_,rfl,_,rfl,d,b,_,⟨fr,r,0,ks⟩,rfl,hD6.same s7,hRF6.mono (au s7),s7 _ _ hb6,hT,hok,fun H8 s8=>?_⟩
   have k8:K2 tp sl H6 H8:=fun b o h _ _=>s8 _ _ (s7 _ _ h)
   have tt8:=(tt6.same s7).same s8
   refine ⟨_,rfl,_,rfl,?_⟩
   cases cA ⟨fr,r,0,ks⟩with
   | false=>exact bh (go _ _ _ H8 (fun Z H' h=>h) k8 tt8 (s8 _ _ (s7 _ _ g6)))
   | true=>
    refine bt ⟨_,rfl,_,rfl,tp,o,rfl,tt8,by lia,by lia,fun e t2 e0 e1=>?_⟩
    refine ⟨rfl,go _ _ _ _ (fun Z H' h=>h) (fun b o h n m=>?_) ⟨t2,ab⟩ ?_⟩
    ·rw [am n];exact s8 _ _ (s7 _ _ h)
    ·rw [am nsl];exact s8 _ _ (s7 _ _ g6)
 ·rintro Z H6 ⟨_,o13,o14,o15,o16,o17,zs,ss,rfl,k6,tt6,g6,hks6,hS6,lz⟩
  have k36:Kp tp H3 H6:=fun b o h n=>k6 _ _ (S5 _ _ h) n (fun e=>by rw [e,hsl]at h;cases h)
  refine ⟨_,rfl,_,rfl,u,sl,r.fm,zs,ss,rfl,hR.mono (k36.tk tt),hwf,hsz,g6,hks6,hS6,fun v' H7 s7 hR7=>?_⟩
  have k37:=k36.same s7
  refine hnext D tp rl ah bk fr r v' (r.fm.wo ss) us rv _ _ _ _ _ _ _ _ _ _ _ _ H7 hT hfr (tt6.same s7) nrl (k37 _ _ grl nrl) hlen hR7 ⟨kz hwf,by rw [gn];exact hsz,fun ks hk=>hrd ks (iO hk)⟩ (k37 _ _ gah nah) nah hus hw (hE.mono k37)
end
def zy (H:Hp) (tp rl:Addr) (rs:List Rul) (kvs:List (Key×V)):Prop:= ∀ (i:Int) v,aW kvs (.inl i)=some v-> ∃ p ws,v=.ref p/\H p=some (.lst (ws.map V.str))/\p≠tp/\p≠rl/\AtW rs i ws
def FrC (fr fr':Frm):Prop:=fr'.name=fr.name/\fr'.own=fr.own/\fr'.parts=fr.parts/\FrT fr'
theorem jA: ∀ {fs fs':List Frm} {fr':Frm},Paired FrC fs fs'->fr'∈fs'-> ∃ fr∈fs,FrC fr fr'
 | _,_,_,.nil,h=>by cases h
 | fr::fs,x::fs',fr',.cons a t,h=>by
  rcases List.mem_cons.mp h with rfl | h
  ·exact ⟨fr,List.mem_cons_self,a⟩
  ·obtain ⟨y,h1,h2⟩:=jA t h
   exact ⟨y,List.mem_cons_of_mem _ h1,h2⟩
theorem lJ: ∀ {fs fs':List Frm},Paired FrC fs fs'->fs'.map Frm.name=fs.map Frm.name
 | _,_,.nil=>rfl
 | fr::fs,x::fs',.cons a t=>by rw [List.map_cons,List.map_cons,lJ t,a.1]
theorem zi {bk:Bk} (h:BkT bk) {fs:List Frm} (hp:Paired FrC bk.forms fs):BkT ⟨bk.wheel,bk.sorts,fs⟩:=by
 have hl:bk.forms.length=fs.length:=Paired.length hp
 refine ⟨⟨h.g.so,by show fs.length<=10;have:=h.g.few;lia,by show (fs.map Frm.name).Nodup;rw [lJ hp];exact h.g.nd,fun fr hf=>?_,fun fr hf=>?_⟩,fun fr hf=>?_⟩
 ·obtain ⟨x,hx,e⟩:=jA hp hf
  rw [e.1]
  exact h.g.wd x hx
 ·obtain ⟨x,hx,e⟩:=jA hp hf
  have:=h.g.ok x hx
  rw [e.2.1,e.2.2.1]
  exact this
 ·obtain ⟨x,hx,e⟩:=jA hp hf
  exact e.2.2.2
def nV:Sp:=fun vs H Q _=> ∃ (tp:Addr) (bv:V) (bk:Bk) (o:Int),vs=[.ref tp,bv,.int o]/\RepB H bk bv/\BkT bk/\Tp H tp/\2<=o/\o<=5/\ ∀ v bk' H',Kp tp H H'->Tp H' tp->RepB H' bk' v->BkT bk'->bk'.forms.length=bk.forms.length->Q v H'
section
variable {P:Program} {w:World} {K:W.Frag} {mg:Str->Option Value} {base:Heap} {f f2 f3 f4 f5 f6 f7 f8 f9:Addr} {fd fd2 fd3 fd4 fd5 fd6 fd7 fd8 fd9:FuncData} {cdv:Value} {A:Around} {outer:List Env} {s:Shared} {H0:Hp} {E:XK}
theorem zg (bk:Bk) (G:Gb mg) (GD:FnOk P w K mg base CX0 1 f2 fd2 ["tape","many"] bo) (bD:Binds K fd2 ["tape","many"] []) (kD:W.keepIn K (.ref f2)=true) (mD:mg "_law_digit"=some (.ref f2))
  (GW:FnOk P w K mg base CX0 1 f3 fd3 ["formula","one"] fe) (bW:Binds K fd3 ["formula","one"] []) (kW:W.keepIn K (.ref f3)=true) (mW:mg "_law_with_reading"=some (.ref f3))
  (GR:FnOk P w K mg base CX0 16 f4 fd4 ["formula"] (dJ 15)) (bR:Binds K fd4 ["formula"] []) (kR:W.keepIn K (.ref f4)=true) (mR:mg "_law_read"=some (.ref f4))
  (GU:FnOk P w K mg base CX0 16 f5 fd5 ["formula","some"] (da 15)) (bU:Binds K fd5 ["formula","some"] []) (kU:W.keepIn K (.ref f5)=true) (mU:mg "_law_without"=some (.ref f5))
  (GA: ∀ bk,FnOk P w K mg base CX0 1 f6 fd6 eF (iz bk)) (bA:Binds K fd6 eF []) (kA:W.keepIn K (.ref f6)=true) (mA:mg "_law_is_late"=some (.ref f6))
  (GB: ∀ bk,FnOk P w K mg base CX0 1 f7 fd7 ko (fR bk)) (bB:Binds K fd7 ko []) (kB:W.keepIn K (.ref f7)=true) (mB:mg "_law_is_beside"=some (.ref f7))
  (hr:Room 16 (cV CX0 P w K mg base iN "_law_calmed" (ag cX) f cdv A outer s H0 E).nox.A): ∃ t,PSs (cV CX0 P w K mg base iN "_law_calmed" (ag cX) f cdv A outer s H0 E).nox (calRule.drop 1) t/\
  ∀ (D:cH) (tp rl ld d fa p:Addr) (o:Int) (fr:Frm) (r:Rul) (u:V) (ws:List Str) (rv:List V) (kvs:List (Key×V)) (o1 o4 o11 o12 o13 o14 o15 o16 o17:Option V) (H1:Hp),BkT bk->fr∈bk.forms->r∈fr.rules->2<=o->o<=5->Tp H1 tp->rl≠tp->H1 rl=some (.lst rv)->rv.length<=900->Rep H1 r.fm u->DnAt H1 d bk->RepF H1 fr (.ref fa)->
   H1 ld=some (.dK kvs)->aW kvs (.inl r.pl)=some (.ref p)->H1 p=some (.lst (ws.map V.str))->p≠tp->AtW fr.rules r.pl ws->
   CalEnd D tp rl [some (.ref tp),o1,some (.int o),some (.ref d),o4,some (.ref fa),some (.ref rl),some (.ref ld)] fr r rv H1->t D [some (.ref tp),o1,some (.int o),some (.ref d),o4,some (.ref fa),some (.ref rl),some (.ref ld),some (.int r.pl),some (.str r.word),some u,o11,o12,o13,o14,o15,o16,o17] H1:=by
 have hr1:=hr.mono (show 1<=16 by decide)
 have hu:=cF hr
 obtain ⟨t,ht,hnext⟩:=zf (P:=P) (w:=w) (K:=K) (mg:=mg) (base:=base) (f:=f) (cdv:=cdv) (A:=A) (outer:=outer) (s:=s) (H0:=H0) (E:=E) bk G GD bD kD mD GW bW kW mW GR bR kR mR GU bU kU mU GA bA kA mA GB bB kB mB hr
 refine ⟨_,ae (aq (i:=11) scCalm.nd rfl (Or.inl rfl) (aN bJ (cx hu (pv 7) (pv 8) (fun _ _=>rfl)) aZ (aV (dH PySem.F.plainAttrs_list PySem.F.slot_list_index PySem.F.type_list_index (oD hu) (cx hu (pv 7) (pv 8) (fun _ _=>rfl)) (aa (pv 9) ac)))))
  (ae (aY (PW.pt (hV (aw iB (pv 2) ad (ay _)) (fA (aw bq (ak GD hr1 rfl mD kD bD .nil av (aa (pv 0) (aa ad ac))) ad (ay _))))) (ai (aq (i:=11) scCalm.nd rfl (Or.inl rfl) (cx hu (pv 7) (pv 8) (fun _ _=>rfl)))) aK) ht),?_⟩
 intro D tp rl ld d fa p o fr r u ws rv kvs o1 o4 o11 o12 o13 o14 o15 o16 o17 H1 hT hfr hrm ho1 ho2 tt nrl grl hlen hR hDn hRF gld hget gp npt hW hE
 have h12:=eM hT hfr
 have hW2:=hW.2
 have lm:(ws.map V.str).length=ws.length:=List.length_map _
 have nlt:ld≠tp:=fun e=>by
  obtain ⟨t,h⟩:=tt
  rw [e,h]at gld
  cases gld
 have hg:DGet H1 ld (.int r.pl) (some (.ref p)):=by rw [<- hget];exact DGet.k (k:=.inl r.pl) gld
 refine ⟨_,rfl,_,rfl,ld,.ref p,rfl,hg,_,rfl,_,rfl,ld,.ref p,rfl,hg,.inl ⟨rfl,_,SqL.of gp⟩,_,rfl,p,_,.str r.word,rfl,rfl,gp,by lia,.inl ⟨ws,r.word,rfl,rfl,(hW.1 _).mpr ⟨r,hrm,rfl,rfl⟩⟩,fun j hj=>?_⟩
 refine ⟨_,rfl,p,_,rfl,SqL.of gp,fun p2 hp2=>?_⟩
 rw [qu]
 have s2:=af hp2 (.lst ((ws.map V.str).take j))
 have g2:(upd H1 p2 (.lst ((ws.map V.str).take j))) p2=some (.lst ((ws.take j).map V.str)):=by rw [ab,List.map_take]
 have n2:=cK tt hp2
 have tt2:=tt.same s2
 generalize upd H1 p2 (.lst ((ws.map V.str).take j))=H2 at s2 g2 tt2 ⊢
 refine ⟨_,rfl,_,_,rfl,rfl,_,rfl,?_⟩
 rw [decide_eq_true (show o>1 by lia)]
 refine bt ⟨_,rfl,tp,8,rfl,tt2,by decide,by decide,fun e t2 e0 e1=>?_⟩
 have k3:Kp tp H1 (upd H2 tp (.lst [.int t2])):=(Kp.refl.same s2).trans Kp.tape
 have tt3:Tp (upd H2 tp (.lst [.int t2])) tp:=⟨t2,ab⟩
 have g23:(upd H2 tp (.lst [.int t2])) p2=some (.lst ((ws.take j).map V.str)):=by rw [am n2];exact g2
 generalize upd H2 tp (.lst [.int t2])=H3 at k3 tt3 g23 ⊢
 have tk3:=k3.tk tt
 have ndt:d≠tp:=fun e=>by
  obtain ⟨t,h⟩:=tt
  obtain ⟨kv,h',_⟩:=hDn
  rw [e,h]at h'
  cases h'
 have hD3:DnAt H3 d bk:=DnAt.kp (c:=tp) k3 ndt tk3 hDn
 have go: ∀ (ah:Addr) (us:List Str) (D':cH),H3 ah=some (.lst (us.map V.str))->ah≠tp->us.length<=900->(∀ x∈us,x∈ws)->D'=D->t D' [some (.ref tp),o1,some (.int o),some (.ref d),o4,some (.ref fa),some (.ref rl),some (.ref ld),some (.int r.pl),some (.str r.word),some u,some (.ref ah),o12,o13,o14,o15,o16,o17] H3:=fun ah us D' gah nah lus hus e=>by
  subst e
  exact hnext D' tp rl ah d fa o fr r u us rv _ _ _ _ _ _ _ _ _ H3 hT hfr hrm ho1 ho2 tt3 nrl (k3 _ _ grl nrl) hlen (hR.mono tk3) hD3 (hRF.mono tk3) gah nah lus (fun x hx=>(hW.1 x).mp (hus x hx)) (hE.mono k3)
 refine ⟨rfl,_,rfl,?_⟩
 refine cU (fun _=>?_) (fun _=>go p2 _ _ g23 n2 (by rw [List.length_take];lia) (fun x h=>List.mem_of_mem_take h) rfl)
 exact ⟨_,rfl,_,rfl,ld,.ref p,rfl,(by rw [<- hget];exact DGet.k (k:=.inl r.pl) (k3 _ _ gld nlt)),go p ws _ (k3 _ _ gp npt) npt (by lia) (fun x h=>h) rfl⟩
end
theorem sZ (F:Fun K "_law_calmed" "_law_calmed" cX f fd) (G:Gb mg) (GD:FnOk P w K mg base CX0 1 f2 fd2 ["tape","many"] bo) (bD:Binds K fd2 ["tape","many"] []) (kD:W.keepIn K (.ref f2)=true) (mD:mg "_law_digit"=some (.ref f2))
  (GW:FnOk P w K mg base CX0 1 f3 fd3 ["formula","one"] fe) (bW:Binds K fd3 ["formula","one"] []) (kW:W.keepIn K (.ref f3)=true) (mW:mg "_law_with_reading"=some (.ref f3))
  (GR:FnOk P w K mg base CX0 16 f4 fd4 ["formula"] (dJ 15)) (bR:Binds K fd4 ["formula"] []) (kR:W.keepIn K (.ref f4)=true) (mR:mg "_law_read"=some (.ref f4))
  (GU:FnOk P w K mg base CX0 16 f5 fd5 ["formula","some"] (da 15)) (bU:Binds K fd5 ["formula","some"] []) (kU:W.keepIn K (.ref f5)=true) (mU:mg "_law_without"=some (.ref f5))
  (GA: ∀ bk,FnOk P w K mg base CX0 1 f6 fd6 eF (iz bk)) (bA:Binds K fd6 eF []) (kA:W.keepIn K (.ref f6)=true) (mA:mg "_law_is_late"=some (.ref f6))
  (GB: ∀ bk,FnOk P w K mg base CX0 1 f7 fd7 ko (fR bk)) (bB:Binds K fd7 ko []) (kB:W.keepIn K (.ref f7)=true) (mB:mg "_law_is_beside"=some (.ref f7))
  (GL:FnOk P w K mg base CX0 2 f8 fd8 ["tape","rules","at"] nQ) (bL:Binds K fd8 ["tape","rules","at"] []) (kL:W.keepIn K (.ref f8)=true) (mL:mg "_law_line_of"=some (.ref f8))
  (GN:FnOk P w K mg base CX0 1 f9 fd9 ["book"] jL) (bN:Binds K fd9 ["book"] []) (kN:W.keepIn K (.ref f9)=true) (mN:mg "_law_downs"=some (.ref f9)):FnOk P w K mg base CX0 17 f fd ["tape","book","often"] nV:=by
 refine F.ok scCalm (fun vs H Q E h=>?_) (fun cdv A outer s H vs Q E hr h=>?_)
 ·obtain ⟨tp,bv,bk,o,rfl,_⟩:=h
  rfl
 obtain ⟨tp,bv,bk,o,rfl,hB,hT,tt,ho1,ho2,q⟩:=h
 have hu:=cF hr
 have hr1:=hr.mono (show 1<=16 by decide)
 have hr2:=hr.mono (show 2<=16 by decide)
 obtain ⟨t,ht,hnext⟩:=zg (P:=P) (w:=w) (K:=K) (mg:=mg) (base:=base) (f:=f) (cdv:=cdv) (A:=A) (outer:=outer) (s:=s) (H0:=H) (E:=E) bk G GD bD kD mD GW bW kW mW GR bR kR mR GU bU kU mU GA bA kA mA GB bB kB mB hr
 refine ⟨_,ae (aq (i:=3) scCalm.nd rfl (Or.inl rfl) (ak GN hr1 rfl mN kN bN .nil av (aa (pv 1) ac)))
  (ae (aq (i:=4) scCalm.nd rfl (Or.inl rfl) (aU ac))
  (ae (bg PassesOwn.never rfl (cf (ao (r:=aC K) al (pv 1) ad (fun _ _=>rfl))) (aH (i:=5) scCalm.nd rfl (Or.inl rfl))
   (ae (aq (i:=6) scCalm.nd rfl (Or.inl rfl) (aU ac))
  (ae (aq (i:=7) scCalm.nd rfl (Or.inl rfl) ee)
  (ae (bg PassesOwn.never rfl (cf (ao (r:=aC K) al (pv 5) ad (fun _ _=>rfl))) (eU rfl (aT (aH (i:=8) scCalm.nd rfl (Or.inl rfl)) (aT (aH (i:=9) scCalm.nd rfl (Or.inl rfl)) (aT (aH (i:=10) scCalm.nd rfl (Or.inl rfl)) dv))))
   (ae (aY (yn (sH hu (pv 8) (pv 7))) (ai (dL hu (pv 7) (pv 8) (ak GL hr2 rfl mL kL bL .nil av (aa (pv 0) (aa (ao (r:=aC K) al (pv 5) ad (fun _ _=>rfl)) (aa (pv 8) ac)))) rfl)) aK) ht))
  (ai (cJ (dH PySem.F.plainAttrs_list PySem.F.slot_list_append PySem.F.type_list_append bM (pv 4) (aa (aE rm (aN iA (pv 5) aZ (aV ad)) (aP (aa (bj (r:=dX K) bw rfl G.tuple (by decide +kernel) (aa (pv 6) ac)) ac))) ac))))))))
  (ai (ax (aP (aa (ao (r:=aC K) al (pv 1) ad (fun _ _=>rfl)) (aa (ao (r:=aC K) al (pv 1) ad (fun _ _=>rfl)) (aa (bj (r:=dX K) bw rfl G.tuple (by decide +kernel) (aa (pv 4) ac)) ac)))))))),?_⟩
 obtain ⟨ba,sa,fva,fv,rfl,hba,hsa,hfva,hF⟩:=id hB
 have lF:bk.forms.length=fv.length:=hF.len
 have few:=hT.g.few
 refine ⟨_,rfl,.ref ba,bk,rfl,hB,hT.g,fun d H1 hd s1 hDn=>?_⟩
 have tt1:=tt.same s1
 have ndt:=cK tt hd
 refine ⟨(by show 0<=sizeLine;decide),fun fl hfl=>?_⟩
 have nft:=cK tt1 hfl
 have s2:=af hfl (.lst [])
 have g2:(upd H1 fl (.lst [])) fl=some (.lst []):=ab
 have tt2:=tt1.same s2
 generalize upd H1 fl (.lst [])=H2 at s2 g2 tt2 ⊢
 refine ⟨_,rfl,ba,_,2,.ref fva,rfl,rfl,SqT.of (s2 _ _ (s1 _ _ hba)),ar (j:=2) rfl,fva,rfl,⟨fv,SqT.of (s2 _ _ (s1 _ _ hfva))⟩,?_⟩
 have kTT: ∀ {H':Hp},Kp tp H1 H'->TK H H':=fun k=>(au s1).trans (k.tk tt1)
 refine eR (xs:=fv) (fun i Z H'=>i<=fv.length/\ ∃ o5 o6 o7 o8 o9 o10 o11 o12 o13 o14 o15 o16 o17 zs fs',Z=[some (.ref tp),some (.ref ba),some (.int o),some (.ref d),some (.ref fl),o5,o6,o7,o8,o9,o10,o11,o12,o13,o14,o15,o16,o17]/\Kp tp H1 H'/\Tp H' tp/\H' fl=some (.lst zs)/\Paired (RepF H') fs' zs/\Paired FrC (bk.forms.take i) fs')
  ⟨Nat.zero_le _,_,_,_,_,_,_,_,_,_,_,_,_,_,[],[],rfl,Kp.refl.same s2,tt2,g2,.nil,.nil⟩ (fun i Z H' _ h=>by obtain ⟨_,_,_,_,_,_,_,_,_,_,_,_,_,_,_,_,_,k,_⟩:=h;exact SqT.of (kTT k _ _ hfva)) ?_ ?_
 ·rintro i x Z H3 hx ⟨hi,o5,o6,o7,o8,o9,o10,o11,o12,o13,o14,o15,o16,o17,zs,fs',rfl,k3,tt3,g3,hP3,hC3⟩
  have hil:i<fv.length:=(List.getElem?_eq_some_iff.mp hx).1
  obtain ⟨fr,hfr,hRF⟩:=aJ hF hx
  have hfm:=List.mem_of_getElem? hfr
  have hFT:=hT.fr fr hfm
  have h12:=eM hT hfm
  have hRF3:=hRF.mono (kTT k3)
  obtain ⟨fa,pa,ra,rvs,rfl,hfa,hpa,hra,hRs⟩:=id hRF3
  have lR:=hRs.len
  have lz:zs.length=i:=by
   rw [<- Paired.length hP3,<- Paired.length hC3,List.length_take]
   lia
  refine ⟨(by show 0<=sizeLine;decide),fun rl hrl=>?_⟩
  have nrt:=cK tt3 hrl
  have nrf:fl≠rl:=aj g3 hrl
  have s4:=af hrl (.lst [])
  have g4:(upd H3 rl (.lst [])) rl=some (.lst []):=ab
  have tt4:=tt3.same s4
  generalize upd H3 rl (.lst [])=H4 at s4 g4 tt4 ⊢
  refine fun ld hld=>?_
  have nlr:rl≠ld:=aj g4 hld
  have nlt:=cK tt4 hld
  have hld3:H3 ld=none:=s4.free hld
  have s5:=af hld (.dK [])
  have g5:(upd H4 ld (.dK [])) ld=some (.dK []):=ab
  have tt5:=tt4.same s5
  generalize upd H4 ld (.dK [])=H5 at s5 g5 tt5 ⊢
  have S5:=s4.trans s5
  refine ⟨_,rfl,fa,_,3,.ref ra,rfl,rfl,SqT.of (S5 _ _ hfa),ar (j:=3) rfl,ra,rfl,⟨rvs,SqT.of (S5 _ _ hra)⟩,?_⟩
  refine eR (xs:=rvs) (fun j Z H'=>j<=rvs.length/\ ∃ o8 o9 o10 o11 o12 o13 o14 o15 o16 o17 rv rs kvs,Z=[some (.ref tp),some (.ref ba),some (.int o),some (.ref d),some (.ref fl),some (.ref fa),some (.ref rl),some (.ref ld),o8,o9,o10,o11,o12,o13,o14,o15,o16,o17]/\Kp tp H3 H'/\Tp H' tp/\H' rl=some (.lst rv)/\RepRs H' rs rv/\rs.map (fun r=>(r.pl,r.word))=(fr.rules.take j).map (fun r=>(r.pl,r.word))/\(∀ r∈rs,FmC fr r.fm)/\H' ld=some (.dK kvs)/\kvs.length<=j/\zy H' tp rl fr.rules kvs)
   ⟨Nat.zero_le _,_,_,_,_,_,_,_,_,_,_,[],[],[],rfl,Kp.refl.same S5,tt5,s5 _ _ g4,.nil,rfl,(fun _ h=>by cases h),g5,Nat.le_refl _,fun i v h=>by cases h⟩ (fun i Z H' _ h=>by obtain ⟨_,_,_,_,_,_,_,_,_,_,_,_,_,_,_,k,_⟩:=h;exact SqT.of (k.tk tt3 _ _ hra)) ?_ ?_
  ·rintro j y Z H6 hy ⟨hj,o8,o9,o10,o11,o12,o13,o14,o15,o16,o17,rv,rs,kvs,rfl,k6,tt6,g6,hP6,hm6,hC6,gl6,lk6,hL6⟩
   have hjl:j<rvs.length:=(List.getElem?_eq_some_iff.mp hy).1
   obtain ⟨r,hr',a,u,rfl,ha,hu'⟩:=aJ hRs hy
   have hrm:=List.mem_of_getElem? hr'
   have tk6:=k6.tk tt3
   have lrv:rv.length=j:=by
    have e:=congrArg List.length hm6
    rw [List.length_map,List.length_map,List.length_take]at e
    rw [<- hP6.len,e]
    lia
   refine ⟨a,_,rfl,SqT.of (tk6 _ _ ha),rfl,_,_,rfl,_,_,rfl,_,_,rfl,rfl,?_⟩
   have hDn6:DnAt H6 d bk:=DnAt.kp (c:=tp) (k3.trans k6) ndt ((k3.trans k6).tk tt1) hDn
   have fin: ∀ (H8:Hp) (kvs8:List (Key×V)) (p:Addr) (ws:List Str) (D':cH),(∀ Z H',(j+1<=rvs.length/\ ∃ o8 o9 o10 o11 o12 o13 o14 o15 o16 o17 rv rs kvs,Z=[some (.ref tp),some (.ref ba),some (.int o),some (.ref d),some (.ref fl),some (.ref fa),some (.ref rl),some (.ref ld),o8,o9,o10,o11,o12,o13,o14,o15,o16,o17]/\Kp tp H3 H'/\Tp H' tp/\H' rl=some (.lst rv)/\RepRs H' rs rv/\rs.map (fun r=>(r.pl,r.word))=(fr.rules.take (j+1)).map (fun r=>(r.pl,r.word))/\(∀ r∈rs,FmC fr r.fm)/\H' ld=some (.dK kvs)/\kvs.length<=j+1/\zy H' tp rl fr.rules kvs)->D'.nx Z H')->
     Kp tp H3 H8->Tp H8 tp->TK H6 H8->H8 rl=some (.lst rv)->H8 ld=some (.dK kvs8)->kvs8.length<=j+1->zy H8 tp rl fr.rules kvs8->DnAt H8 d bk->aW kvs8 (.inl r.pl)=some (.ref p)->H8 p=some (.lst (ws.map V.str))->p≠tp->AtW fr.rules r.pl ws-> ∀ o11 o12 o13 o14 o15 o16 o17,
     t D' [some (.ref tp),some (.ref ba),some (.int o),some (.ref d),some (.ref fl),some (.ref fa),some (.ref rl),some (.ref ld),some (.int r.pl),some (.str r.word),some u,o11,o12,o13,o14,o15,o16,o17] H8:=fun H8 kvs8 p ws D' hD' k8 tt8 tk8 g8 gl8 lk8 hL8 hDn8 hv8 gp8 np8 hW8 o11 o12 o13 o14 o15 o16 o17=>by
    have tk38:=k8.tk tt3
    refine hnext D' tp rl ld d fa p o fr r u ws rv kvs8 _ _ _ _ _ _ _ _ _ H8 hT hfm hrm ho1 ho2 tt8 nrt g8 (by lia) (hu'.mono tk38) hDn8 (hRF3.mono tk38) gl8 hv8 gp8 np8 hW8 ?_
    intro p8 p9 p10 p11 p12 p13 p14 p15 p16 p17 a9 u9 g9 H9 k9 tt9 ha9 hR9 hC9
    have gr9:=k9 _ _ g8 nrt
    have tk9:TK H9 (upd H9 rl (.lst (rv++[.ref a9]))):=TK.lst gr9
    refine hD' _ _ ⟨hjl,_,_,_,_,_,_,_,_,_,_,rv++[.ref a9],rs++[⟨r.pl,r.word,g9⟩],kvs8,rfl,?_,?_,ab,?_,?_,?_,?_,lk8,?_⟩
    ·intro b oo h n
     rw [am (aj h hrl)]
     exact k9 _ _ (k8 _ _ h n) n
    ·obtain ⟨t9,e9⟩:=tt9
     exact ⟨t9,by rw [am (Ne.symm nrt)];exact e9⟩
    ·exact Paired.snoc (Paired.mapP hP6 fun _ _ h=>h.mono (tk8.trans ((k9.tk tt8).trans tk9))) ⟨a9,u9,rfl,tk9 _ _ ha9,hR9.mono tk9⟩
    ·rw [cg hr',List.map_append,List.map_append,hm6]
     rfl
    ·intro x hx
     rcases List.mem_append.mp hx with h | h
     ·exact hC6 x h
     ·rw [List.mem_singleton.mp h];exact hC9
    ·rw [am (Ne.symm nlr)]
     exact k9 _ _ gl8 nlt
    ·intro i v hv
     obtain ⟨p,ws,e,gp,n1,n2,hW⟩:=hL8 i v hv
     exact ⟨p,ws,e,by rw [am n2];exact k9 _ _ gp n1,n1,n2,hW⟩
   refine ⟨_,rfl,_,rfl,ld,_,rfl,DGet.k (k:=.inl r.pl) gl6,_,rfl,?_⟩
   cases hv:aW kvs (.inl r.pl)with
   | some v=>
    obtain ⟨p,ws,rfl,gp,n1,n2,hW⟩:=hL6 _ _ hv
    exact bh (fin H6 kvs p ws _ (fun Z H' h=>h) k6 tt6 (TK.refl _) g6 gl6 (by lia) hL6 hDn6 hv gp n1 hW _ _ _ _ _ _ _)
   | none=>
    refine bt ⟨_,rfl,_,rfl,fa,_,3,.ref ra,rfl,rfl,SqT.of (tk6 _ _ hfa),ar (j:=3) rfl,_,rfl,tp,ra,rvs,fr.rules,r.pl,rfl,tk6 _ _ hra,hRs.mono tk6,⟨r,hrm,rfl⟩,by lia,tt6,fun p ws H7 hp k7 tt7 gp hW=>?_⟩
    have gl7:=k7 _ _ gl6 nlt
    refine ⟨_,rfl,_,rfl,ld,_,rfl,DPut.k (k:=.inl r.pl) gl7 (aG (by lia)),?_⟩
    have npl:p≠ld:=fun e=>by rw [e,gl6]at hp;cases hp
    have npr:p≠rl:=fun e=>by rw [e,g6]at hp;cases hp
    have npt:=cK tt6 hp
    have tk7:=k7.tk tt6
    have tk78:TK H7 (upd H7 ld (.dK (cz kvs (.inl r.pl) (.ref p)))):=TK.upd fun xs e=>by rw [gl7]at e;cases e
    refine fin _ (cz kvs (.inl r.pl) (.ref p)) p ws _ (fun Z H' h=>h) ?_ ?_ (tk7.trans tk78) ?_ ab ?_ ?_ ?_ ?_ ?_ npt hW _ _ _ _ _ _ _
    ·intro b oo h n
     rw [am (aj h hld3)]
     exact k7 _ _ (k6 _ _ h n) n
    ·obtain ⟨t7,e7⟩:=tt7
     exact ⟨t7,by rw [am (Ne.symm nlt)];exact e7⟩
    ·rw [am nlr];exact k7 _ _ g6 nrt
    ·rw [uM _ hv,List.length_append]
     show kvs.length+1<=j+1
     lia
    ·intro i v h
     rw [df]at h
     by_cases c:(Sum.inl i:Key)=.inl r.pl
     ·rw [if_pos c]at h
      cases h
      cases Sum.inl.inj c
      exact ⟨p,ws,rfl,by rw [am npl];exact gp,npt,npr,hW⟩
     ·rw [if_neg c]at h
      obtain ⟨p',ws',e,gp',n1,n2,hW'⟩:=hL6 i v h
      exact ⟨p',ws',e,by rw [am (fun z=>by rw [z,gl6]at gp';cases gp')];exact k7 _ _ gp' n1,n1,n2,hW'⟩
    ·obtain ⟨kv,h1,h2⟩:=hDn6
     have nd:d≠ld:=fun z=>by
      have:=hDn
      obtain ⟨kv',h1',_⟩:=this
      have:=k3 _ _ h1' ndt
      rw [z,hld3]at this
      cases this
     exact ⟨kv,by rw [am nd];exact k7 _ _ h1 ndt,fun x hx=>let ⟨b,e,h⟩:=h2 x hx;⟨b,e,tk78 _ _ (tk7 _ _ h)⟩⟩
    ·rw [df,if_pos rfl]
    ·rw [am npl];exact gp
  ·rintro Z H6 ⟨_,o8,o9,o10,o11,o12,o13,o14,o15,o16,o17,rv,rs,kvs,rfl,k6,tt6,g6,hP6,hm6,hC6,gl6,lk6,hL6⟩
   rw [<- lR,List.take_length]at hm6
   have tk6:=k6.tk tt3
   have lrv:rv.length<=12:=by
    have e:=congrArg List.length hm6
    rw [List.length_map,List.length_map]at e
    rw [<- hP6.len,e]
    exact h12
   have gf6:=k6 _ _ g3 nft
   refine ⟨_,rfl,.inl ⟨rfl,_,SqL.of gf6⟩,_,rfl,3,rfl,fa,_,rfl,tk6 _ _ hfa,fun p7 H7 s7 g7=>?_⟩
   rw [show cW [V.str fr.name,.str fr.own.name,.ref pa,.ref ra] none (some 3)=[V.str fr.name,.str fr.own.name,.ref pa]from qu _ 3]at g7
   refine ⟨_,rfl,rl,rv,rfl,.inl ⟨SqL.of (s7 _ _ g6),fun p8 hp8=>?_⟩⟩
   have s8:=af hp8 (.tup rv)
   have g8:(upd H7 p8 (.tup rv)) p8=some (.tup rv):=ab
   generalize upd H7 p8 (.tup rv)=H8 at s8 g8 ⊢
   refine ⟨(by show 1<=sizeLine;decide),fun p9 hp9=>?_⟩
   have s9:=af hp9 (.tup [.ref p8])
   have g9:(upd H8 p9 (.tup [.ref p8])) p9=some (.tup [.ref p8]):=ab
   generalize upd H8 p9 (.tup [.ref p8])=H9 at s9 g9 ⊢
   refine ⟨p7,p9,_,_,rfl,rfl,s9 _ _ (s8 _ _ g7),g9,(by show 4<=sizeLine;decide),fun pA HA sA gA=>?_⟩
   have S6A:Same H6 HA:=((Same.trans s7 s8).trans s9).trans sA
   have gfA:=S6A _ _ gf6
   refine ⟨fl,zs,.ref pA,rfl,rfl,gfA,aG (by lia),?_⟩
   have tkA:TK HA (upd HA fl (.lst (zs++[.ref pA]))):=TK.lst gfA
   have tk6A:=(au S6A).trans tkA
   have hnew:FrC fr ⟨fr.name,fr.own,fr.parts,rs⟩:=⟨rfl,rfl,rfl,⟨by show rs.map (fun r=>(r.pl,r.word))=cP fr.own fr.parts;rw [hm6];exact hFT.tg,fun r hr'=>⟨(hC6 r hr').1,(hC6 r hr').2.1⟩,fun r hr' ks hk=>(hC6 r hr').2.2 ks hk⟩⟩
   refine ⟨hil,_,_,_,_,_,_,_,_,_,_,_,_,_,zs++[.ref pA],fs'++[⟨fr.name,fr.own,fr.parts,rs⟩],rfl,?_,?_,ab,?_,?_⟩
   ·intro b oo h n
    rw [am (aj h hfl)]
    exact S6A _ _ (k6 _ _ (k3 _ _ h n) n)
   ·obtain ⟨t6,e6⟩:=tt6
    exact ⟨t6,by rw [am (Ne.symm nft)];exact S6A _ _ e6⟩
   ·refine Paired.snoc (Paired.mapP hP3 fun _ _ h=>h.mono (tk6.trans tk6A)) ⟨pA,pa,p8,rv,rfl,tkA _ _ gA,tk6A _ _ (tk6 _ _ hpa),tkA _ _ (sA _ _ (s9 _ _ g8)),Paired.mapP hP6 fun _ _ h=>h.mono tk6A⟩
   ·rw [cg hfr]
    exact Paired.snoc hC3 hnew
 ·rintro Z H3 ⟨_,o5,o6,o7,o8,o9,o10,o11,o12,o13,o14,o15,o16,o17,zs,fs',rfl,k3,tt3,g3,hP3,hC3⟩
  rw [<- lF,List.take_length]at hC3
  have tk3:=kTT k3
  have lz:zs.length<=10:=by
   rw [<- Paired.length hP3,<- Paired.length hC3]
   exact few
  refine ⟨_,rfl,ba,_,0,.int bk.wheel,rfl,rfl,SqT.of (tk3 _ _ hba),bi,_,rfl,ba,_,1,.ref sa,rfl,rfl,SqT.of (tk3 _ _ hba),ar (j:=1) rfl,_,rfl,fl,zs,rfl,.inl ⟨SqL.of g3,fun p4 hp4=>?_⟩⟩
  have s4:=af hp4 (.tup zs)
  have g4:(upd H3 p4 (.tup zs)) p4=some (.tup zs):=ab
  generalize upd H3 p4 (.tup zs)=H4 at s4 g4 ⊢
  refine ⟨(by show 3<=sizeLine;decide),fun p5 hp5=>?_⟩
  have s5:=af hp5 (.tup [.int bk.wheel,.ref sa,.ref p4])
  have tk5:=au (s4.trans s5)
  exact q _ ⟨bk.wheel,bk.sorts,fs'⟩ _ (((Kp.refl.same s1).trans k3).same (s4.trans s5)) ((tt3.same s4).same s5) ⟨p5,sa,p4,zs,rfl,ab,(hsa.mono tk3).mono tk5,s5 _ _ g4,Paired.mapP hP3 fun _ _ h=>h.mono tk5⟩ (zi hT hC3) (Paired.length hC3).symm
theorem wn {α:Type} (xs:List α) (x:α):atI (xs++[x]) (-1)=some x:=by
 have e:(xs++[x]).length=xs.length+1:=by rw [List.length_append];rfl
 unfold atI ixN
 rw [if_neg (by decide),if_pos (by lia)]
 show (xs++[x])[((-1:Int) + ((xs++[x]).length:Int)).toNat]? =some x
 rw [show ((-1:Int) + ((xs++[x]).length:Int)).toNat=xs.length by lia,List.getElem?_append_right (Nat.le_refl _),Nat.sub_self]
 rfl
theorem dC {α β:Type} {R:α->β->Prop}: ∀ {l:List α} {r:List β} (k:Nat),Paired R l r->Paired R (l.drop k) (r.drop k)
 | _,_,0,h=>h
 | _,_,k+1,.nil=>.nil
 | _,_,k+1,.cons _ t=>dC k t
theorem ly {H:Hp} {α:Type} {k:α->List Key}: ∀ {ls:List α} {zs:List V},Paired (fun l v=> ∃ b,v=V.ref b/\H b=some (.tup ((k l).map kV))) ls zs->KsOf H zs (ls.map k)
 | _,_,.nil=>.nil
 | _,_,.cons a t=>.cons a (ly t)
theorem fC {α β γ:Type} {R:β->γ->Prop} {k:α->β}: ∀ {ls:List α} {zs:List γ},Paired (fun l v=>R (k l) v) ls zs->Paired R (ls.map k) zs
 | _,_,.nil=>.nil
 | _,_,.cons a t=>.cons a (fC t)
noncomputable def ktw (l:Lk):List Key:=[.inr l.tw.1,.inr l.tw.2]
noncomputable def krw (l:Lk):List Key:=[.inr l.rw_.1,.inr l.rw_.2]
theorem nu {K:W.Frag} {H1 H':Hp} {l:Lk} {v:V} {k:VK} {Z:St} (hR:RepEd H1 l v) (s':Same H1 H') (hk: ∀ u H'',Same H' H''->RepK3 H'' l.stp u->k u H''):tOp (aC K) (jF 0) (tC (.int 4)) (some v::Z) H' k:=by
 obtain ⟨a,pt,pr,st,c,rfl,ha,hpt,hpr,hst,hc⟩:=hR.mono (au s')
 exact ⟨_,rfl,a,_,4,.ref st,rfl,rfl,SqT.of ha,ar (j:=4) rfl,hk _ H' (Same.refl _) ⟨st,c,rfl,hst,hc⟩⟩
def uq:Sp:=fun vs H Q _=> ∃ tp el es lks,vs=[.ref tp,.ref el]/\H el=some (.lst es)/\Paired (RepEd H) lks es/\lks.length<=1800/\Tp H tp/\ ∀ p ys ss H',H p=none->Kp tp H H'->Tp H' tp->H' p=some (.lst ys)->Paired (RepK3 H') ss ys->ss.length<=25->Q (.ref p) H'
section
variable {P:Program} {w:World} {K:W.Frag} {mg:Str->Option Value} {base:Heap} {f f2 f3 f4 f5 f6 f7 f8 f9:Addr} {fd fd2 fd3 fd4 fd5 fd6 fd7 fd8 fd9:FuncData} {cdv:Value} {A:Around} {outer:List Env} {s:Shared} {H0:Hp} {E:XK}
abbrev ky:List Str:=["tape","edges","near","way","turn","last","told","some","same"]
theorem scWay:aB ky ["tape","edges"] (ag iX):=fsc
noncomputable def wayFor:List Stmt:=fF ((bV iX).getD 3 (.Pass ⟨0,0,0,0⟩))
theorem xT (G:Gb mg) (GD:FnOk P w K mg base CX0 1 f2 fd2 ["tape","many"] bo) (bD:Binds K fd2 ["tape","many"] []) (kD:W.keepIn K (.ref f2)=true) (mD:mg "_law_digit"=some (.ref f2))
  (hr1:Room 1 (cV CX0 P w K mg base ky "_law_way" (ag iX) f cdv A outer s H0 E).nox.A): ∃ t,PSs (cV CX0 P w K mg base ky "_law_way" (ag iX) f cdv A outer s H0 E).nox (wayFor.drop 7) t/\
  ∀ (D:cH) (tp wl sm:Addr) (vs zs:List V) (ls ms:List Lk) (o1 o2 o4 o5 o6 o8:Option V) (H7:Hp),Tp H7 tp->wl≠tp->H7 wl=some (.lst vs)->Paired (RepEd H7) ls vs->vs.length<=24->H7 sm=some (.lst zs)->sm≠tp->Paired (RepEd H7) ms zs->zs.length<=1800->
   (∀ p ys ss H',H7 p=none->Kp tp H7 H'->Tp H' tp->H' p=some (.lst ys)->Paired (RepK3 H') ss ys->ss.length<=25->D.rt (.ref p) H')->
   (∀ v l H',Kp tp H7 H'->Tp H' tp->RepEd H' l v->D.nx [some (.ref tp),o1,o2,some (.ref wl),o4,o5,o6,some (.ref sm),o8] (upd H' wl (.lst (vs++[v]))))->
   t D [some (.ref tp),o1,o2,some (.ref wl),o4,o5,o6,some (.ref sm),o8] H7:=by
 have hu0:=hr1.units0
 refine ⟨_,ae (aY (aw (fE hu0) (pv 7) (aU ac) (ay _)) (ai (ax (cy (sc0:=ag iX) (N0:=ky) (ys:=[]) (fr:=[]) rfl (bu (pv 3)) rfl rfl cok (fun C s H ex=>(ao (r:=aC K) al (pv 0) ad (fun _ _=>rfl)))))) aK) (ai (cJ (dH PySem.F.plainAttrs_list PySem.F.slot_list_append PySem.F.type_list_append bM (pv 3) (aa (ao (r:=cI K) aS (pv 7) (ak GD hr1 rfl mD kD bD .nil av (aa (pv 0) (aa (aF (r:=de K) aA rfl G.len PySem.boot_len (aa (pv 7) ac)) ac))) (fun _ _=>rfl)) ac)))),?_⟩
 intro D tp wl sm vs zs ls ms o1 o2 o4 o5 o6 o8 H7 tt nwt gw hP lv gs nst hM lz hret hnx
 have ll:ls.length=vs.length:=Paired.length hP
 refine ⟨_,rfl,(by show 0<=sizeLine;decide),fun p0 hp0=>?_⟩
 have s0:=af hp0 (.lst [])
 have g0:(upd H7 p0 (.lst [])) p0=some (.lst []):=ab
 have tt0:=tt.same s0
 generalize upd H7 p0 (.lst [])=H8 at s0 g0 tt0 ⊢
 refine ⟨sm,p0,zs,rfl,rfl,SqL.of (s0 _ _ gs),SqL.of g0,_,rfl,?_⟩
 cases zs with
 | nil=>
  have gw8:=s0 _ _ gw
  refine bt ⟨_,rfl,wl,rfl,⟨_,SqL.of gw8⟩,?_⟩
  refine cs (by lia) (Paired.mapP hP fun _ _ h=>h.mono (au s0)) (cZ gw8) (cY gw8) (dG gw8) (fun H l v=>RepK3 H l.stp v) (fun t h=>h.mono t) (fun l v H' k _ hR s' hk=>nu hR s' hk) ?_
  intro p ys H9 hp s9 g9 hy
  exact hret p ys (ls.map Lk.stp) H9 (s0.free hp) ((Kp.refl.same s0).same s9) (tt0.same s9) g9 (fC hy) (by rw [List.length_map];lia)
 | cons z0 zr=>
  refine bh ⟨_,rfl,.inl ⟨rfl,_,SqL.of (s0 _ _ gw)⟩,_,rfl,_,rfl,_,rfl,sm,_,rfl,.inl (SqL.of (s0 _ _ gs)),tp,_,rfl,tt0,(by show (0:Int) < ((z0::zr).length:Int);rw [List.length_cons];lia),(by lia),fun e t2 e0 e1=>?_⟩
  have k9:Kp tp H7 (upd H8 tp (.lst [.int t2])):=(Kp.refl.same s0).trans Kp.tape
  have tt9:Tp (upd H8 tp (.lst [.int t2])) tp:=⟨t2,ab⟩
  generalize upd H8 tp (.lst [.int t2])=H9 at k9 tt9 ⊢
  obtain ⟨v,ev,ev2⟩:=eY (xs:=z0::zr) e0 e1
  obtain ⟨l,_,hl⟩:=aJ hM ev2
  refine ⟨sm,_,e,v,rfl,rfl,SqL.of (k9 _ _ gs nst),ev,wl,vs,v,rfl,rfl,k9 _ _ gw nwt,aG (by lia),?_⟩
  exact hnx v l H9 k9 tt9 (hl.mono (k9.tk tt))
end
theorem yE (F:Fun K "_law_way" "_law_way" iX f fd) (G:Gb mg) (GD:FnOk P w K mg base CX0 1 f2 fd2 ["tape","many"] bo) (bD:Binds K fd2 ["tape","many"] []) (kD:W.keepIn K (.ref f2)=true) (mD:mg "_law_digit"=some (.ref f2)):FnOk P w K mg base CX0 2 f fd ["tape","edges"] uq:=by
 refine F.ok scWay (fun vs H Q E h=>?_) (fun cdv A outer s H vs Q E hr h=>?_)
 ·obtain ⟨tp,el,es,lks,rfl,_⟩:=h
  rfl
 obtain ⟨tp,el,es,lks,rfl,gel,hE,hlen,tt,q⟩:=h
 have hr1:=hr.mono (show 1<=1 by decide)
 have hu:=cF hr
 have hu0:=hr1.units0
 obtain ⟨t,ht,hnext⟩:=xT (P:=P) (w:=w) (K:=K) (mg:=mg) (base:=base) (f:=f) (cdv:=cdv) (A:=A) (outer:=outer) (s:=s) (H0:=H) (E:=E) G GD bD kD mD hr1
 refine ⟨_,ae (aY (aw (fE hu0) (pv 1) (aU ac) (ay _)) (ai (ax (aU ac))) aK)
  (ae (aq (i:=2) scWay.nd rfl (Or.inl rfl) (a7 bq (ak GD hr1 rfl mD kD bD .nil av (aa (pv 0) (aa ad ac))) ad (ay _)))
  (ae (aq (i:=3) scWay.nd rfl (Or.inl rfl) (aU (aa (ao (r:=cI K) aS (pv 1) (ak GD hr1 rfl mD kD bD .nil av (aa (pv 0) (aa (aF (r:=de K) aA rfl G.len PySem.boot_len (aa (pv 1) ac)) ac))) (fun _ _=>rfl)) ac)))
  (ae (bg PassesOwn.never rfl (br rfl G.range (aa ad ac)) (aH (i:=4) scWay.nd rfl (Or.inl rfl))
   (ae (aq (i:=5) scWay.nd rfl (Or.inr rfl) (ao (r:=cI K) aS (pv 3) (dY c7 ad) (fun _ _=>rfl)))
  (ae (eN (i:=6) (sc0:=ag iX) (N0:=ky) (ys:=[]) (fr:=[]) rfl scWay.nd rfl (Or.inl rfl) (bu (pv 3)) rfl rfl cok (fun C s H ex=>(ao (r:=aC K) al (pv 0) ad (fun _ _=>rfl))))
  (ae (aY (aw (j1 (Nat.lt_of_le_of_lt (Nat.add_le_add_left (by decide:1<=16) _) hu)) (ao (r:=aC K) al (pv 5) ad (fun _ _=>rfl)) (pv 6) (by with_unfolding_all rfl)) (ai (ax (cy (sc0:=ag iX) (N0:=ky) (ys:=[]) (fr:=[]) rfl (bu (aN bJ (pv 3) (aV (dH PySem.F.plainAttrs_list PySem.F.slot_list_index PySem.F.type_list_index (oD hu) (pv 6) (aa (ao (r:=aC K) al (pv 5) ad (fun _ _=>rfl)) ac))) aZ)) rfl rfl cok (fun C s H ex=>(ao (r:=aC K) al (pv 0) ad (fun _ _=>rfl)))))) aK)
  (ae (fZ (i:=7) (sc0:=ag iX) (N0:=ky) (ys:=["last"]) (fr:=[5]) rfl scWay.nd rfl (Or.inl rfl) (bu (pv 1)) rfl rfl cok (fun C s H ex=>aw (j2 hu0) (ao (r:=aC K) al (pv 0) ad (fun _ _=>rfl)) (ao (r:=aC K) al (pv 1) ad (fun _ _=>rfl)) (ay _)) (fun C s H ex=>pv 0))
  (ae (fZ (i:=8) (sc0:=ag iX) (N0:=ky) (ys:=["last"]) (fr:=[5]) rfl scWay.nd rfl (Or.inl rfl) (bu (pv 7)) rfl rfl cok (fun C s H ex=>aw bq (ao (r:=aC K) al (ao (r:=aC K) al (pv 0) ad (fun _ _=>rfl)) ad (fun _ _=>rfl)) (ao (r:=aC K) al (ao (r:=aC K) al (pv 1) ad (fun _ _=>rfl)) ad (fun _ _=>rfl)) (ay _)) (fun C s H ex=>pv 0))
  (ae (fZ (i:=8) (sc0:=ag iX) (N0:=ky) (ys:=["last"]) (fr:=[5]) rfl scWay.nd rfl (Or.inl rfl) (bu (pv 8)) rfl rfl cok (fun C s H ex=>aw bq (ao (r:=aC K) al (pv 0) ad (fun _ _=>rfl)) (ao (r:=aC K) al (pv 1) ad (fun _ _=>rfl)) (ay _)) (fun C s H ex=>pv 0))
  (ae (aY (PW.pt (hV (dE (pv 2)) (fA (aw (i5 hu0) (pv 8) (aU ac) (ay _))))) (ai (aq (i:=7) scWay.nd rfl (Or.inl rfl) (pv 8))) aK) ht))))))))
  (ai (ax (cy (sc0:=ag iX) (N0:=ky) (ys:=[]) (fr:=[]) rfl (bu (pv 3)) rfl rfl cok (fun C s H ex=>(ao (r:=aC K) al (pv 0) ad (fun _ _=>rfl))))))))),?_⟩
 have les:lks.length=es.length:=Paired.length hE
 have net:el≠tp:=fun e=>by
  obtain ⟨t,h⟩:=tt
  rw [e,h]at gel
  cases gel
  cases hE with
  | cons a _=>
   obtain ⟨_,_,_,_,_,e,_⟩:=a
   cases e
 refine ⟨_,rfl,(by show 0<=sizeLine;decide),fun p0 hp0=>?_⟩
 have s0:=af hp0 (.lst [])
 have g0:(upd H p0 (.lst [])) p0=some (.lst []):=ab
 have tt0:=tt.same s0
 generalize upd H p0 (.lst [])=H0 at s0 g0 tt0 ⊢
 refine ⟨el,p0,es,rfl,rfl,SqL.of (s0 _ _ gel),SqL.of g0,_,rfl,?_⟩
 cases es with
 | nil=>
  refine bt ⟨(by show 0<=sizeLine;decide),fun p1 hp1=>?_⟩
  have s1:=af hp1 (.lst [])
  exact q p1 [] [] _ (s0.free hp1) (Kp.refl.same (s0.trans s1)) (tt0.same s1) ab .nil (by decide)
 | cons z0 zr=>
 refine bh ⟨_,rfl,tp,2,rfl,tt0,by decide,by decide,fun e t1 e0 e1=>?_⟩
 have k1:Kp tp H (upd H0 tp (.lst [.int t1])):=(Kp.refl.same s0).trans Kp.tape
 have tt1:Tp (upd H0 tp (.lst [.int t1])) tp:=⟨t1,ab⟩
 generalize upd H0 tp (.lst [.int t1])=H1 at k1 tt1 ⊢
 refine ⟨rfl,?_⟩
 generalize decide (V.int e=V.int 0)=near
 refine ⟨_,rfl,_,rfl,_,rfl,el,_,rfl,.inl (SqL.of (k1 _ _ gel net)),tp,_,rfl,tt1,(by show (0:Int) < ((z0::zr).length:Int);rw [List.length_cons];lia),(by lia),fun e t2 e0 e1=>?_⟩
 have k2:Kp tp H (upd H1 tp (.lst [.int t2])):=k1.trans Kp.tape
 have tt2:Tp (upd H1 tp (.lst [.int t2])) tp:=⟨t2,ab⟩
 generalize upd H1 tp (.lst [.int t2])=H2 at k2 tt2 ⊢
 obtain ⟨v,ev,ev2⟩:=eY (xs:=z0::zr) e0 e1
 obtain ⟨l,_,hl⟩:=aJ hE ev2
 refine ⟨el,_,e,v,rfl,rfl,SqL.of (k2 _ _ gel net),ev,(by show 1<=sizeLine;decide),fun wl hwl=>?_⟩
 have nwt:=cK tt2 hwl
 have hwl0:H wl=none:=k2.free tt2 hwl
 have s3:=af hwl (.lst [v])
 have g3:(upd H2 wl (.lst [v])) wl=some (.lst ([]++[v])):=ab
 have tt3:=tt2.same s3
 generalize upd H2 wl (.lst [v])=H3 at s3 g3 tt3 ⊢
 have k3:=k2.same s3
 have hl3:=hl.mono (k3.tk tt)
 refine ⟨_,rfl,by decide,by decide,?_⟩
 refine cB (fun i Z H'=> ∃ o4 o5 o6 o7 o8 vi v li l,Z=[some (.ref tp),some (.ref el),some (.bl near),some (.ref wl),o4,o5,o6,o7,o8]/\Kp tp H H'/\Tp H' tp/\H' wl=some (.lst (vi++[v]))/\Paired (RepEd H') (li++[l]) (vi++[v])/\RepEd H' l v/\vi.length<=i)
  ⟨none,none,none,none,none,[],v,[],l,rfl,k3,tt3,g3,.cons hl3 .nil,hl3,Nat.le_refl _⟩ ?_ ?_
 ·rintro i Z H4 hi ⟨o4,o5,o6,o7,o8,vi,v,li,l,rfl,k4,tt4,gw,hP,hl4,lv⟩
  have hi:i<24:=hi
  have lvs:(vi++[v]).length=vi.length+1:=by rw [List.length_append];rfl
  have lls:(li++[l]).length=(vi++[v]).length:=Paired.length hP
  obtain ⟨a,pt,pr,sta,ca,rfl,ha,hpt,hpr,hst,hca⟩:=id hl4
  refine ⟨_,rfl,1,rfl,wl,_,-1,.ref a,rfl,rfl,SqL.of gw,wn _ _,?_⟩
  refine ⟨_,rfl,wl,rfl,⟨_,SqL.of gw⟩,?_⟩
  refine cs (by lia) hP (cZ gw) (cY gw) (dG gw) (fun H l v=> ∃ b,v=.ref b/\H b=some (.tup ((ktw l).map kV))) (fun t ⟨b,e,h⟩=>⟨b,e,t _ _ h⟩) (fun l' v' H' k _ hR s' hk=>?_) ?_
  ·obtain ⟨a,pt,pr,st,c,rfl,ha,hpt,hpr,hst,hc⟩:=hR.mono (au s')
   exact ⟨_,rfl,a,_,0,.ref pt,rfl,rfl,SqT.of ha,bi,hk _ H' (Same.refl _) ⟨pt,rfl,hpt⟩⟩
  intro tl zs H5 htl s5 gtl hz
  have hks:=ly hz
  have lzs:(li++[l]).length=zs.length:=Paired.length hz
  have gw5:=s5 _ _ gw
  have tt5:=tt4.same s5
  have k5:=k4.same s5
  refine ⟨_,rfl,a,_,1,.ref pr,rfl,rfl,SqT.of (s5 _ _ ha),ar (j:=1) rfl,_,rfl,pr,tl,krw l,zs,_,rfl,rfl,s5 _ _ hpr,SqL.of gtl,hks,_,rfl,?_⟩
  rw [if_neg Bool.false_ne_true]
  by_cases c:krw l∈(li++[l]).map ktw
  ·rw [decide_eq_true c]
   refine bt ⟨_,rfl,_,rfl,.inl ⟨rfl,_,SqL.of gtl⟩,_,rfl,a,_,1,.ref pr,rfl,rfl,SqT.of (s5 _ _ ha),ar (j:=1) rfl,tl,zs,.ref pr,rfl,rfl,gtl,by lia,.inr ⟨pr,krw l,_,rfl,s5 _ _ hpr,hks,c⟩,fun j hj=>?_⟩
   refine ⟨_,rfl,wl,_,rfl,SqL.of gw5,fun p6 hp6=>?_⟩
   rw [vY]
   have s6:=af hp6 (.lst ((vi++[V.ref a]).drop j))
   have g6:(upd H5 p6 (.lst ((vi++[V.ref a]).drop j))) p6=some (.lst ((vi++[V.ref a]).drop j)):=ab
   have hP6:=dC j (Paired.mapP hP fun _ _ h=>h.mono (au (s5.trans s6)))
   have tt6:=tt5.same s6
   generalize upd H5 p6 (.lst ((vi++[V.ref a]).drop j))=H6 at s6 g6 tt6 hP6 ⊢
   have l6:((vi++[V.ref a]).drop j).length<=25:=by rw [List.length_drop];lia
   refine ⟨p6,rfl,⟨_,SqL.of g6⟩,?_⟩
   refine cs (by lia) hP6 (cZ g6) (cY g6) (dG g6) (fun H l v=>RepK3 H l.stp v) (fun t h=>h.mono t) (fun l v H' k _ hR s' hk=>nu hR s' hk) ?_
   intro p7 ys H7 hp7 s7 g7 hy
   have k6:=k5.same s6
   refine q p7 ys (((li++[l]).drop j).map Lk.stp) H7 (k6.free tt6 hp7) (k6.same s7) (tt6.same s7) g7 (fC hy) (by rw [List.length_map,List.length_drop];lia)
  rw [decide_eq_false c]
  have gel5:=k5 _ _ gel net
  have hE5:=Paired.mapP hE fun _ _ h=>h.mono (k5.tk tt)
  refine bh ⟨_,rfl,el,rfl,⟨_,SqL.of gel5⟩,?_⟩
  refine fG (by lia) hE5 (cZ gel5) (cY gel5) (dG gel5) (fun l'=>decide (ktw l'=krw l)) RepEd (fun t h=>h.mono t) (fun l' v' H' k _ hR s' hk=>?_) (fun l' v' H' k _ hR _ s' hk=>⟨_,rfl,hk _ H' (Same.refl _) (hR.mono (au s'))⟩) ?_
  ·obtain ⟨a',pt',pr',st',c',rfl,ha',hpt',hpr',hst',hc'⟩:=hR.mono (au s')
   have S:=s5.trans s'
   refine ⟨_,rfl,a',_,0,.ref pt',rfl,rfl,SqT.of ha',bi,_,rfl,a,_,1,.ref pr,rfl,rfl,SqT.of (S _ _ ha),ar (j:=1) rfl,pt',pr,ktw l',krw l,rfl,rfl,hpt',S _ _ hpr,_,rfl,?_⟩
   rw [if_pos rfl]
   exact hk H' (Same.refl _)
  intro sm zs6 H6 hsm s6 gsm hM6
  have lM6:=Paired.length hM6
  have lf6:=List.length_filter_le (fun l'=>decide (ktw l'=krw l)) lks
  generalize lks.filter (fun l'=>decide (ktw l'=krw l))=ms at *
  refine ⟨_,rfl,sm,rfl,⟨_,SqL.of gsm⟩,?_⟩
  refine fG (by lia) hM6 (cZ gsm) (cY gsm) (dG gsm) (fun l'=>decide (l'.fr.name=l.fr.name)) RepEd (fun t h=>h.mono t) (fun l' v' H' k _ hR s' hk=>?_) (fun l' v' H' k _ hR _ s' hk=>⟨_,rfl,hk _ H' (Same.refl _) (hR.mono (au s'))⟩) ?_
  ·obtain ⟨a',pt',pr',st',c',rfl,ha',hpt',hpr',hst',hc'⟩:=hR.mono (au s')
   have S:=(s5.trans s6).trans s'
   refine ⟨_,rfl,a',_,4,.ref st',rfl,rfl,SqT.of ha',ar (j:=4) rfl,st',_,0,.str l'.fr.name,rfl,rfl,SqT.of hst',bi,_,rfl,a,_,4,.ref sta,rfl,rfl,SqT.of (S _ _ ha),ar (j:=4) rfl,sta,_,0,.str l.fr.name,rfl,rfl,SqT.of (S _ _ hst),bi,rfl,_,rfl,?_⟩
   rw [show decide (V.str l'.fr.name=V.str l.fr.name)=decide (l'.fr.name=l.fr.name)from decide_eq_decide.mpr ⟨fun z=>V.str.inj z,fun z=>by rw [z]⟩]
   exact hk H' (Same.refl _)
  intro sp zs7 H7 hsp s7 gsp hM7
  have lM7:=Paired.length hM7
  have lf7:=List.length_filter_le (fun l'=>decide (l'.fr.name=l.fr.name)) ms
  refine ⟨_,rfl,sp,rfl,⟨_,SqL.of gsp⟩,?_⟩
  refine fG (by lia) hM7 (cZ gsp) (cY gsp) (dG gsp) (fun l'=>decide (l'.r.pl=l.r.pl)) RepEd (fun t h=>h.mono t) (fun l' v' H' k _ hR s' hk=>?_) (fun l' v' H' k _ hR _ s' hk=>⟨_,rfl,hk _ H' (Same.refl _) (hR.mono (au s'))⟩) ?_
  ·obtain ⟨a',pt',pr',st',c',rfl,ha',hpt',hpr',hst',hc'⟩:=hR.mono (au s')
   have S:=((s5.trans s6).trans s7).trans s'
   refine ⟨_,rfl,a',_,5,.int l'.r.pl,rfl,rfl,SqT.of ha',ar (j:=5) rfl,_,rfl,a,_,5,.int l.r.pl,rfl,rfl,SqT.of (S _ _ ha),ar (j:=5) rfl,rfl,_,rfl,?_⟩
   rw [show decide (V.int l'.r.pl=V.int l.r.pl)=decide (l'.r.pl=l.r.pl)from decide_eq_decide.mpr ⟨fun z=>V.int.inj z,fun z=>by rw [z]⟩]
   exact hk H' (Same.refl _)
  intro sq zs8 H8 hsq s8 gsq hM8
  have lM8:=Paired.length hM8
  have lf8:=List.length_filter_le (fun l'=>decide (l'.r.pl=l.r.pl)) (ms.filter fun l'=>decide (l'.fr.name=l.fr.name))
  generalize (ms.filter fun l'=>decide (l'.fr.name=l.fr.name)).filter (fun l'=>decide (l'.r.pl=l.r.pl))=ms8 at *
  have S58:=(s6.trans s7).trans s8
  have S48:=s5.trans S58
  have k8:=k5.same S58
  have tt8:=tt5.same S58
  have nsm:=cK tt5 hsm
  have nsq:=cK (tt5.same (s6.trans s7)) hsq
  have go: ∀ (sx:Addr) (zx:List V) (mx:List Lk) (D':cH) (H9:Hp),(∀ Z H',(∃ o4 o5 o6 o7 o8 vi v li l,Z=[some (.ref tp),some (.ref el),some (.bl near),some (.ref wl),o4,o5,o6,o7,o8]/\Kp tp H H'/\Tp H' tp/\H' wl=some (.lst (vi++[v]))/\Paired (RepEd H') (li++[l]) (vi++[v])/\RepEd H' l v/\vi.length<=i+1)->D'.nx Z H')->(∀ v H',Q v H'->D'.rt v H')->Same H8 H9->H9 sx=some (.lst zx)->sx≠tp->Paired (RepEd H9) mx zx->zx.length<=1800-> ∀ o4 o5 o6 o8,
    t D' [some (.ref tp),some (.ref el),some (.bl near),some (.ref wl),o4,o5,o6,some (.ref sx),o8] H9:=fun sx zx mx D' H9 hD hDr s9 gx nx hx lx o4 o5 o6 o8=>by
   have S49:=S48.trans s9
   have k9:=k8.same s9
   have tt9:=tt8.same s9
   have hP9:=Paired.mapP hP fun _ _ h=>h.mono (au S49)
   refine hnext D' tp wl sx (vi++[.ref a]) zx (li++[l]) mx _ _ _ _ _ _ H9 tt9 nwt (S49 _ _ gw) hP9 (by lia) gx nx hx lx (fun p ys ss H' hp k' tt' g' hy ls=>hDr _ _ (q p ys ss H' (k9.free tt9 hp) (k9.trans k') tt' g' hy ls)) fun v' l' H' k' tt' hl'=>hD _ _ ?_
   have gw':=k' _ _ (S49 _ _ gw) nwt
   have tk':TK H' (upd H' wl (.lst (vi++[.ref a]++[v']))):=TK.lst gw'
   refine ⟨_,_,_,_,_,vi++[.ref a],v',li++[l],l',rfl,?_,?_,ab,Paired.snoc (Paired.mapP hP9 fun _ _ h=>h.mono ((k'.tk tt9).trans tk')) (hl'.mono tk'),hl'.mono tk',by lia⟩
   ·intro b oo h n
    rw [am (aj h hwl0)]
    exact k' _ _ (k9 _ _ h n) n
   ·obtain ⟨t',e'⟩:=tt'
    exact ⟨t',by rw [am (Ne.symm nwt)];exact e'⟩
  refine ⟨_,rfl,near,rfl,?_⟩
  have gsm8:=(s7.trans s8) _ _ gsm
  have hM68:=Paired.mapP hM6 fun _ _ h=>h.mono (au (s7.trans s8))
  cases near with
  | false=>exact bh (bh (go sm zs6 ms _ H8 (fun Z H' h=>h) (fun v H' h=>h) (Same.refl _) gsm8 nsm hM68 (by lia) _ _ _ _))
  | true=>
   refine bt ⟨_,rfl,(by show 0<=sizeLine;decide),fun p9 hp9=>?_⟩
   have s9:=af hp9 (.lst [])
   have g9:(upd H8 p9 (.lst [])) p9=some (.lst []):=ab
   generalize upd H8 p9 (.lst [])=H9 at s9 g9 ⊢
   refine ⟨sq,p9,zs8,rfl,rfl,SqL.of (s9 _ _ gsq),SqL.of g9,_,rfl,?_⟩
   refine cU (fun _=>?_) (fun _=>go sm zs6 ms _ H9 (fun Z H' h=>h) (fun v H' h=>h) s9 (s9 _ _ gsm8) nsm (Paired.mapP hM68 fun _ _ h=>h.mono (au s9)) (by lia) _ _ _ _)
   exact ⟨_,rfl,go sq zs8 ms8 _ H9 (fun Z H' h=>h) (fun v H' h=>h) s9 (s9 _ _ gsq) nsq (Paired.mapP hM8 fun _ _ h=>h.mono (au s9)) (by lia) _ _ _ _⟩
 ·rintro Z H4 ⟨o4,o5,o6,o7,o8,vi,v,li,l,rfl,k4,tt4,gw,hP,hl4,lv⟩
  have lv:vi.length<=24:=lv
  have lvs:(vi++[v]).length=vi.length+1:=by rw [List.length_append];rfl
  have lls:(li++[l]).length=(vi++[v]).length:=Paired.length hP
  refine ⟨_,rfl,wl,rfl,⟨_,SqL.of gw⟩,?_⟩
  refine cs (by lia) hP (cZ gw) (cY gw) (dG gw) (fun H l v=>RepK3 H l.stp v) (fun t h=>h.mono t) (fun l v H' k _ hR s' hk=>nu hR s' hk) ?_
  intro p7 ys H7 hp7 s7 g7 hy
  exact q p7 ys ((li++[l]).map Lk.stp) H7 (k4.free tt4 hp7) (k4.same s7) (tt4.same s7) g7 (fC hy) (by rw [List.length_map];lia)
theorem hX {α β:Type} {R:α->β->Prop}: ∀ {a:List α} {b:List β} {c:List α} {d:List β},Paired R a b->Paired R c d->Paired R (a++c) (b++d)
 | _,_,_,_,.nil,h=>h
 | _,_,_,_,.cons x t,h=>.cons x (hX t h)
theorem jx {α β:Type} {R:α->β->Prop}: ∀ {l:List α} {r:List β} (k:Nat),Paired R l r->Paired R (l.take k) (r.take k)
 | _,_,0,h=>.nil
 | _,_,k+1,.nil=>.nil
 | _,_,k+1,.cons x t=>.cons x (jx k t)
theorem uW {α β:Type} {R:α->β->Prop}: ∀ {l:List α} {r:List β},Paired R l r->Paired R l.reverse r.reverse
 | _,_,.nil=>.nil
 | _,_,.cons x t=>by rw [List.reverse_cons,List.reverse_cons];exact hX (uW t) (.cons x .nil)
def l5:Sp:=fun vs H Q _=> ∃ (tp el wl:Addr) (bv:V) (bk:Bk) (es ws:List V) (lks:List Lk) (ss:List Stp),vs=[.ref tp,bv,.ref el,.ref wl]/\RepB H bk bv/\BkT bk/\1<=bk.forms.length/\H el=some (.lst es)/\Paired (RepEd H) lks es/\lks.length<=1800/\H wl=some (.lst ws)/\Paired (RepK3 H) ss ws/\ss.length<=25/\Tp H tp/\
 ∀ p ys ss' H',Kp tp H H'->Tp H' tp->H' p=some (.lst ys)->Paired (RepK3 H') ss' ys->ss'.length<=60->Q (.ref p) H'
def OEnd (D:cH) (tp:Addr) (H:Hp):Prop:= ∀ p ys (ss:List Stp) H',Kp tp H H'->Tp H' tp->H' p=some (.lst ys)->Paired (RepK3 H') ss ys->ss.length<=60->D.rt (.ref p) H'
theorem OEnd.mono {D:cH} {tp:Addr} {H H':Hp} (k:Kp tp H H') (h:OEnd D tp H):OEnd D tp H':=fun p ys ss H2 k2=>h p ys ss H2 (k.trans k2)
theorem oJ {n:Nat} (h:n<=60):n<=sizeLine:=Nat.le_of_lt (aG (by lia))
section
variable {P:Program} {w:World} {K:W.Frag} {mg:Str->Option Value} {base:Heap} {f f2 f3 f4 f5 f6 f7 f8 f9:Addr} {fd fd2 fd3 fd4 fd5 fd6 fd7 fd8 fd9:FuncData} {cdv:Value} {A:Around} {outer:List Env} {s:Shared} {H0:Hp} {E:XK}
abbrev nF:List Str:=["tape","book","edges","way","form","one","kind","at","name","number","read","rest","here"]
theorem scOther:aB nF ["tape","book","edges","way"] (ag fW):=fsc
theorem yu: ∃ t,PSs (cV CX0 P w K mg base nF "_law_other" (ag fW) f cdv A outer s H0 E).nox ((bV fW).drop 8) t/\
  ∀ (D:cH) (tp wl fa oa c rl:Addr) (fr:Frm) (ks rd:List Key) (k1 k2:Key) (ws:List V) (ss:List Stp) (e:Int) (k:Nat) (o1 o2 o12:Option V) (H:Hp),Tp H tp->RepF H fr (.ref fa)->H oa=some (.tup (ks.map kV))->H wl=some (.lst ws)->Paired (RepK3 H) ss ws->ss.length<=25->0<=e->e<=8->H c=some (.tup (rd.map kV))->H rl=some (.lst (ws.drop (k+1)))->OEnd D tp H->
   t D [some (.ref tp),o1,o2,some (.ref wl),some (.ref fa),some (.ref oa),some (.int e),some (.int (k:Int)),some (kV k1),some (kV k2),some (.ref c),some (.ref rl),o12] H:=by
 refine ⟨_,ae (aY (aw fK (pv 6) ad (ay _)) (ai (ax (ao (r:=cI K) aS (aU (aa (aE dn (aN bJ (pv 3) (aV (pv 7)) aZ) (aN bJ (pv 3) aZ (aV (pv 7)))) (aa (aE dn (pv 3) (pv 3)) (aa (mX (pv 3) (dY c7 ad)) (aa (aE dn (aN bJ (pv 3) aZ (aV (pv 7))) (pv 11)) ac))))) (pv 6) (fun _ _=>rfl)))) aK)
  (ae (aq (i:=12) scOther.nd rfl (Or.inl rfl) (aU (aa (aP (aa (ao (r:=aC K) al (pv 4) ad (fun _ _=>rfl)) (aa (pv 9) (aa (pv 10) ac)))) (aa (aP (aa (pv 8) (aa (dY c7 ad) (aa (pv 10) ac)))) (aa (aP (aa (pv 8) (aa ad (aa (pv 10) ac)))) ac)))))
  (ae (aq (i:=12) scOther.nd rfl (Or.inl rfl) (aE dn (pv 12) (aU (aa (aP (aa (pv 8) (aa (pv 9) (aa (pv 5) ac)))) (aa (aP (aa aX (aa ad (aa (pv 10) ac)))) ac)))))
  (ai (ax (aE dn (aE dn (aN bJ (pv 3) aZ (aV (pv 7))) (aU (aa (ao (r:=cI K) aS (pv 12) (aE fD (pv 6) ad) (fun _ _=>rfl)) ac))) (pv 11)))))),?_⟩
 intro D tp wl fa oa c rl fr ks rd k1 k2 ws ss e k o1 o2 o12 H tt hRF hoa gw hP lss e0 e8 hc grl hE
 have lws:ss.length=ws.length:=Paired.length hP
 refine ⟨_,rfl,_,_,rfl,rfl,_,rfl,?_⟩
 by_cases ck:e<4
 ·rw [decide_eq_true ck]
  refine bt ⟨_,rfl,_,rfl,_,rfl,wl,ws,rfl,SqL.of gw,fun p1 h1=>?_⟩
  rw [vY]
  have s1:=af h1 (.lst (ws.drop k))
  have g1:(upd H p1 (.lst (ws.drop k))) p1=some (.lst (ws.drop k)):=ab
  generalize upd H p1 (.lst (ws.drop k))=H1 at s1 g1 ⊢
  refine ⟨_,rfl,_,rfl,_,rfl,wl,ws,rfl,SqL.of (s1 _ _ gw),fun p2 h2=>?_⟩
  rw [qu]
  have s2:=af h2 (.lst (ws.take k))
  have g2:(upd H1 p2 (.lst (ws.take k))) p2=some (.lst (ws.take k)):=ab
  generalize upd H1 p2 (.lst (ws.take k))=H2 at s2 g2 ⊢
  refine ⟨p1,p2,_,_,rfl,rfl,s2 _ _ g1,g2,(by rw [<- List.length_append,iq];exact oJ (by lia)),fun p3 h3=>?_⟩
  have s3:=af h3 (.lst (ws.drop k++ws.take k))
  have g3:(upd H2 p3 (.lst (ws.drop k++ws.take k))) p3=some (.lst (ws.drop k++ws.take k)):=ab
  generalize upd H2 p3 (.lst (ws.drop k++ws.take k))=H3 at s3 g3 ⊢
  have S3:=(s1.trans s2).trans s3
  refine ⟨_,rfl,_,rfl,wl,wl,ws,ws,rfl,rfl,S3 _ _ gw,S3 _ _ gw,oJ (by lia),fun p4 h4=>?_⟩
  have s4:=af h4 (.lst (ws++ws))
  have g4:(upd H3 p4 (.lst (ws++ws))) p4=some (.lst (ws++ws)):=ab
  generalize upd H3 p4 (.lst (ws++ws))=H4 at s4 g4 ⊢
  have S4:=S3.trans s4
  refine ⟨_,rfl,1,rfl,wl,ws,-1,rfl,rfl,SqL.of (S4 _ _ gw),(by decide),fun p5 h5=>?_⟩
  rw [iR]
  have s5:=af h5 (.lst ws.reverse)
  have g5:(upd H4 p5 (.lst ws.reverse)) p5=some (.lst ws.reverse):=ab
  generalize upd H4 p5 (.lst ws.reverse)=H5 at s5 g5 ⊢
  have S5:=S4.trans s5
  refine ⟨_,rfl,_,rfl,_,rfl,wl,ws,rfl,SqL.of (S5 _ _ gw),fun p6 h6=>?_⟩
  rw [qu]
  have s6:=af h6 (.lst (ws.take k))
  have g6:(upd H5 p6 (.lst (ws.take k))) p6=some (.lst (ws.take k)):=ab
  generalize upd H5 p6 (.lst (ws.take k))=H6 at s6 g6 ⊢
  have S6:=S5.trans s6
  refine ⟨_,rfl,p6,rl,_,_,rfl,rfl,g6,S6 _ _ grl,(by rw [List.length_take,List.length_drop];exact oJ (by lia)),fun p7 h7=>?_⟩
  have s7:=af h7 (.lst (ws.take k++ws.drop (k+1)))
  have g7:(upd H6 p7 (.lst (ws.take k++ws.drop (k+1)))) p7=some (.lst (ws.take k++ws.drop (k+1))):=ab
  generalize upd H6 p7 (.lst (ws.take k++ws.drop (k+1)))=H7 at s7 g7 ⊢
  refine ⟨(by show 4<=sizeLine;decide),fun p8 h8=>?_⟩
  have s8:=af h8 (.lst [.ref p3,.ref p4,.ref p5,.ref p7])
  have g8:(upd H7 p8 (.lst [.ref p3,.ref p4,.ref p5,.ref p7])) p8=some (.lst [.ref p3,.ref p4,.ref p5,.ref p7]):=ab
  generalize upd H7 p8 (.lst [.ref p3,.ref p4,.ref p5,.ref p7])=H8 at s8 g8 ⊢
  have S8:=(S6.trans s7).trans s8
  have fin: ∀ (p:Addr) (ys:List V) (ss':List Stp),H8 p=some (.lst ys)->Paired (RepK3 H) ss' ys->ss'.length<=60->D.rt (.ref p) H8:=fun p ys ss' g h l=>hE p ys ss' H8 (Kp.refl.same S8) (tt.same S8) g (Paired.mapP h fun _ _ h=>h.mono (au S8)) l
  rcases (show e=0\/e=1\/e=2\/e=3 by lia)with rfl | rfl | rfl | rfl
  ·exact ⟨_,rfl,p8,_,0,_,rfl,rfl,SqL.of g8,bi,fin p3 _ _ (s8 _ _ (s7 _ _ (s6 _ _ (s5 _ _ (s4 _ _ g3))))) (hX (dC k hP) (jx k hP)) (by rw [iq];lia)⟩
  ·exact ⟨_,rfl,p8,_,1,_,rfl,rfl,SqL.of g8,ar (j:=1) rfl,fin p4 _ _ (s8 _ _ (s7 _ _ (s6 _ _ (s5 _ _ g4)))) (hX hP hP) (by rw [List.length_append];lia)⟩
  ·exact ⟨_,rfl,p8,_,2,_,rfl,rfl,SqL.of g8,ar (j:=2) rfl,fin p5 _ _ (s8 _ _ (s7 _ _ (s6 _ _ g5))) (uW hP) (by rw [List.length_reverse];lia)⟩
  ·exact ⟨_,rfl,p8,_,3,_,rfl,rfl,SqL.of g8,ar (j:=3) rfl,fin p7 _ _ (s8 _ _ g7) (hX (jx k hP) (dC (k+1) hP)) (by rw [List.length_append,List.length_take,List.length_drop];lia)⟩
 ·rw [decide_eq_false ck]
  obtain ⟨fa',pa,ra,rv,ef,hfa,_⟩:=id hRF
  cases ef
  refine bh ⟨_,rfl,fa,_,0,.str fr.name,rfl,rfl,SqT.of hfa,bi,_,rfl,_,rfl,(by show 3<=sizeLine;decide),fun p1 h1=>?_⟩
  have s1:=af h1 (.tup [.str fr.name,kV k2,.ref c])
  have g1:(upd H p1 (.tup [.str fr.name,kV k2,.ref c])) p1=some (.tup [.str fr.name,kV k2,.ref c]):=ab
  generalize upd H p1 (.tup [.str fr.name,kV k2,.ref c])=H1 at s1 g1 ⊢
  refine ⟨_,rfl,1,rfl,_,rfl,(by show 3<=sizeLine;decide),fun p2 h2=>?_⟩
  have s2:=af h2 (.tup [kV k1,.int (-1),.ref c])
  have g2:(upd H1 p2 (.tup [kV k1,.int (-1),.ref c])) p2=some (.tup [kV k1,.int (-1),.ref c]):=ab
  generalize upd H1 p2 (.tup [kV k1,.int (-1),.ref c])=H2 at s2 g2 ⊢
  refine ⟨_,rfl,_,rfl,(by show 3<=sizeLine;decide),fun p3 h3=>?_⟩
  have s3:=af h3 (.tup [kV k1,.int 12,.ref c])
  have g3:(upd H2 p3 (.tup [kV k1,.int 12,.ref c])) p3=some (.tup [kV k1,.int 12,.ref c]):=ab
  generalize upd H2 p3 (.tup [kV k1,.int 12,.ref c])=H3 at s3 g3 ⊢
  refine ⟨(by show 3<=sizeLine;decide),fun p4 h4=>?_⟩
  have s4:=af h4 (.lst [.ref p1,.ref p2,.ref p3])
  have g4:(upd H3 p4 (.lst [.ref p1,.ref p2,.ref p3])) p4=some (.lst [.ref p1,.ref p2,.ref p3]):=ab
  generalize upd H3 p4 (.lst [.ref p1,.ref p2,.ref p3])=H4 at s4 g4 ⊢
  refine ⟨_,rfl,_,rfl,_,rfl,_,rfl,(by show 3<=sizeLine;decide),fun p5 h5=>?_⟩
  have s5:=af h5 (.tup [kV k1,kV k2,.ref oa])
  have g5:(upd H4 p5 (.tup [kV k1,kV k2,.ref oa])) p5=some (.tup [kV k1,kV k2,.ref oa]):=ab
  generalize upd H4 p5 (.tup [kV k1,kV k2,.ref oa])=H5 at s5 g5 ⊢
  refine ⟨_,rfl,(by show 3<=sizeLine;decide),fun p6 h6=>?_⟩
  have s6:=af h6 (.tup [.str "zzz",.int 0,.ref c])
  have g6:(upd H5 p6 (.tup [.str "zzz",.int 0,.ref c])) p6=some (.tup [.str "zzz",.int 0,.ref c]):=ab
  generalize upd H5 p6 (.tup [.str "zzz",.int 0,.ref c])=H6 at s6 g6 ⊢
  refine ⟨(by show 2<=sizeLine;decide),fun p7 h7=>?_⟩
  have s7:=af h7 (.lst [.ref p5,.ref p6])
  have g7:(upd H6 p7 (.lst [.ref p5,.ref p6])) p7=some (.lst [.ref p5,.ref p6]):=ab
  generalize upd H6 p7 (.lst [.ref p5,.ref p6])=H7 at s7 g7 ⊢
  refine ⟨p4,p7,_,_,rfl,rfl,s7 _ _ (s6 _ _ (s5 _ _ g4)),g7,(by show 5<=sizeLine;decide),fun p8 h8=>?_⟩
  have s8:=af h8 (.lst ([V.ref p1,.ref p2,.ref p3]++[.ref p5,.ref p6]))
  have g8:(upd H7 p8 (.lst ([V.ref p1,.ref p2,.ref p3]++[.ref p5,.ref p6]))) p8=some (.lst ([V.ref p1,.ref p2,.ref p3]++[.ref p5,.ref p6])):=ab
  generalize upd H7 p8 (.lst ([V.ref p1,.ref p2,.ref p3]++[.ref p5,.ref p6]))=H8 at s8 g8 ⊢
  have S58:=((s5.trans s6).trans s7).trans s8
  have S28:=(s3.trans s4).trans S58
  have S8:=(s1.trans s2).trans S28
  have hh:Paired (RepK3 H8) [(rd,(.inr fr.name,k2)),(rd,(k1,.inl (-1))),(rd,(k1,.inl 12)),(ks,(k1,k2)),(rd,(.inr "zzz",.inl 0))] ([V.ref p1,.ref p2,.ref p3]++[.ref p5,.ref p6]):=
   .cons ⟨p1,c,rfl,(s2.trans S28) _ _ g1,S8 _ _ hc⟩ (.cons ⟨p2,c,rfl,S28 _ _ g2,S8 _ _ hc⟩ (.cons ⟨p3,c,rfl,(s4.trans S58) _ _ g3,S8 _ _ hc⟩ (.cons ⟨p5,oa,rfl,((s6.trans s7).trans s8) _ _ g5,S8 _ _ hoa⟩ (.cons ⟨p6,c,rfl,(s7.trans s8) _ _ g6,S8 _ _ hc⟩ .nil))))
  refine ⟨_,rfl,_,rfl,_,rfl,wl,ws,rfl,SqL.of (S8 _ _ gw),fun p9 h9=>?_⟩
  rw [qu]
  have s9:=af h9 (.lst (ws.take k))
  have g9:(upd H8 p9 (.lst (ws.take k))) p9=some (.lst (ws.take k)):=ab
  generalize upd H8 p9 (.lst (ws.take k))=H9 at s9 g9 ⊢
  obtain ⟨v,ev,ev2⟩:=eY (xs:=[V.ref p1,.ref p2,.ref p3]++[.ref p5,.ref p6]) (d:=e-4) (by lia) (by show e-4<5;lia)
  obtain ⟨st,_,hst⟩:=aJ hh ev2
  refine ⟨_,rfl,_,rfl,_,_,rfl,rfl,p8,_,e-4,v,rfl,rfl,SqL.of (s9 _ _ g8),ev,(by show 1<=sizeLine;decide),fun p10 h10=>?_⟩
  have s10:=af h10 (.lst [v])
  have g10:(upd H9 p10 (.lst [v])) p10=some (.lst [v]):=ab
  generalize upd H9 p10 (.lst [v])=H10 at s10 g10 ⊢
  refine ⟨p9,p10,_,_,rfl,rfl,s10 _ _ g9,g10,(by rw [List.length_take];exact oJ (by show _+1<=60;lia)),fun p11 h11=>?_⟩
  have s11:=af h11 (.lst (ws.take k++[v]))
  have g11:(upd H10 p11 (.lst (ws.take k++[v]))) p11=some (.lst (ws.take k++[v])):=ab
  generalize upd H10 p11 (.lst (ws.take k++[v]))=H11 at s11 g11 ⊢
  have S9:=((S8.trans s9).trans s10).trans s11
  refine ⟨_,rfl,p11,rl,_,_,rfl,rfl,g11,S9 _ _ grl,(by rw [List.length_append,List.length_take,List.length_drop];exact oJ (by show min k ws.length+1+_<=60;lia)),fun p12 h12=>?_⟩
  have s12:=af h12 (.lst (ws.take k++[v]++ws.drop (k+1)))
  have S12:=S9.trans s12
  have tk:=au S12
  refine hE p12 _ (ss.take k++[st]++ss.drop (k+1)) _ (Kp.refl.same S12) (tt.same S12) ab (hX (hX (Paired.mapP (jx k hP) fun _ _ h=>h.mono tk) (.cons (hst.mono (au (((s9.trans s10).trans s11).trans s12))) .nil)) (Paired.mapP (dC (k+1) hP) fun _ _ h=>h.mono tk)) (by rw [List.length_append,List.length_append,List.length_take,List.length_drop];show min k ss.length+1+_<=60;lia)
theorem yw (G:Gb mg) (GD:FnOk P w K mg base CX0 1 f2 fd2 ["tape","many"] bo) (bD:Binds K fd2 ["tape","many"] []) (kD:W.keepIn K (.ref f2)=true) (mD:mg "_law_digit"=some (.ref f2))
  (hr1:Room 1 (cV CX0 P w K mg base nF "_law_other" (ag fW) f cdv A outer s H0 E).nox.A): ∃ t,PSs (cV CX0 P w K mg base nF "_law_other" (ag fW) f cdv A outer s H0 E).nox ((bV fW).drop 3) t/\
  ∀ (D:cH) (tp wl fa oa:Addr) (fr:Frm) (ks:List Key) (ws:List V) (ss:List Stp) (o1 o2 o6 o7 o8 o9 o10 o11 o12:Option V) (H:Hp),Tp H tp->RepF H fr (.ref fa)->H oa=some (.tup (ks.map kV))->H wl=some (.lst ws)->wl≠tp->Paired (RepK3 H) ss ws->ss.length<=25->OEnd D tp H->
   t D [some (.ref tp),o1,o2,some (.ref wl),some (.ref fa),some (.ref oa),o6,o7,o8,o9,o10,o11,o12] H:=by
 have hu0:=hr1.units0
 obtain ⟨t,ht,hnext⟩:=yu (P:=P) (w:=w) (K:=K) (mg:=mg) (base:=base) (f:=f) (cdv:=cdv) (A:=A) (outer:=outer) (s:=s) (H0:=H0) (E:=E)
 refine ⟨_,ae (aq (i:=6) scOther.nd rfl (Or.inl rfl) (ak GD hr1 rfl mD kD bD .nil av (aa (pv 0) (aa ad ac))))
  (ae (aY (PW.pt (jU (aw (fE hu0) (pv 3) (aU ac) (ay _)) (hU (aw bq (pv 6) ad (ay _))))) (ai (ax (aU (aa (aP (aa (ao (r:=aC K) al (pv 4) ad (fun _ _=>rfl)) (aa (aE fD (ak GD hr1 rfl mD kD bD .nil av (aa (pv 0) (aa ad ac))) ad) (aa (pv 5) ac)))) ac)))) aK)
  (ae (aq (i:=7) scOther.nd rfl (Or.inl rfl) (ak GD hr1 rfl mD kD bD .nil av (aa (pv 0) (aa (aF (r:=de K) aA rfl G.len PySem.boot_len (aa (pv 3) ac)) ac))))
  (ae (pV (ao (r:=cI K) aS (pv 3) (pv 7) (fun _ _=>rfl)) (eU rfl (aT (aH (i:=8) scOther.nd rfl (Or.inl rfl)) (aT (aH (i:=9) scOther.nd rfl (Or.inl rfl)) (aT (aH (i:=10) scOther.nd rfl (Or.inl rfl)) dv)))))
  (ae (aq (i:=11) scOther.nd rfl (Or.inl rfl) (aN bJ (pv 3) (aV (aE bf (pv 7) ad)) aZ)) ht)))),?_⟩
 intro D tp wl fa oa fr ks ws ss o1 o2 o6 o7 o8 o9 o10 o11 o12 H tt hRF hoa gw nwt hP lss hE
 have lws:ss.length=ws.length:=Paired.length hP
 refine ⟨_,rfl,tp,10,rfl,tt,by decide,by decide,fun e t1 e0 e1=>?_⟩
 have k1:Kp tp H (upd H tp (.lst [.int t1])):=Kp.tape
 have tt1:Tp (upd H tp (.lst [.int t1])) tp:=⟨t1,ab⟩
 generalize upd H tp (.lst [.int t1])=H1 at k1 tt1 ⊢
 refine ⟨_,rfl,(by show 0<=sizeLine;decide),fun p2 h2=>?_⟩
 have s2:=af h2 (.lst [])
 have g2:(upd H1 p2 (.lst [])) p2=some (.lst []):=ab
 generalize upd H1 p2 (.lst [])=H2 at s2 g2 ⊢
 have k2:=k1.same s2
 have tt2:=tt1.same s2
 have tk2:=k2.tk tt
 refine ⟨wl,p2,ws,rfl,rfl,SqL.of (k2 _ _ gw nwt),SqL.of g2,_,rfl,?_⟩
 have one: ∀ D':cH,D'.rt=D.rt->xV (xY (ir (zB (ir (tOp (aC K) (jF 4) (tC (.int 0))) (ir (tOp (rI0 fun i j=>.int (i-j)) (qN bo [] E0 (ir (jF 0) (ir (tC (.int 3)) rX))) (tC (.int 1))) (ir (jF 5) rX)))) rX)) D' [some (.ref tp),o1,o2,some (.ref wl),some (.ref fa),some (.ref oa),some (.int e),o7,o8,o9,o10,o11,o12] H2:=fun D' eD=>by
  obtain ⟨fa',pa,ra,rv,ef,hfa,_⟩:=hRF.mono tk2
  cases ef
  refine ⟨_,rfl,fa,_,0,.str fr.name,rfl,rfl,SqT.of hfa,bi,_,rfl,tp,3,rfl,tt2,by decide,by decide,fun d t3 d0 d1=>?_⟩
  have k3:Kp tp H (upd H2 tp (.lst [.int t3])):=k2.trans Kp.tape
  have tt3:Tp (upd H2 tp (.lst [.int t3])) tp:=⟨t3,ab⟩
  generalize upd H2 tp (.lst [.int t3])=H3 at k3 tt3 ⊢
  refine ⟨_,_,rfl,rfl,_,rfl,(by show 3<=sizeLine;decide),fun p4 h4=>?_⟩
  have s4:=af h4 (.tup [.str fr.name,.int (d-1),.ref oa])
  have g4:(upd H3 p4 (.tup [.str fr.name,.int (d-1),.ref oa])) p4=some (.tup [.str fr.name,.int (d-1),.ref oa]):=ab
  generalize upd H3 p4 (.tup [.str fr.name,.int (d-1),.ref oa])=H4 at s4 g4 ⊢
  refine ⟨(by show 1<=sizeLine;decide),fun p5 h5=>?_⟩
  have s5:=af h5 (.lst [.ref p4])
  have k5:=k3.same (s4.trans s5)
  rw [eD]
  exact hE p5 _ [(ks,(.inr fr.name,.inl (d-1)))] _ k5 ((tt3.same s4).same s5) ab (.cons ⟨p4,oa,rfl,s5 _ _ g4,k5.tk tt _ _ hoa⟩ .nil) (by show 1<=60;decide)
 cases ws with
 | nil=>exact bt (bt (one _ rfl))
 | cons w0 wr=>
 refine bh ⟨_,rfl,rfl,_,rfl,?_⟩
 by_cases c9:e=9
 ·rw [decide_eq_true (by rw [c9])]
  exact bt (one _ rfl)
 rw [decide_eq_false (fun z=>c9 (V.int.inj z))]
 refine bh ⟨_,rfl,_,rfl,wl,_,rfl,.inl (SqL.of (k2 _ _ gw nwt)),tp,_,rfl,tt2,(by show (0:Int) < ((w0::wr).length:Int);rw [List.length_cons];lia),(by lia),fun d t3 d0 d1=>?_⟩
 have k3:Kp tp H (upd H2 tp (.lst [.int t3])):=k2.trans Kp.tape
 have tt3:Tp (upd H2 tp (.lst [.int t3])) tp:=⟨t3,ab⟩
 generalize upd H2 tp (.lst [.int t3])=H3 at k3 tt3 ⊢
 obtain ⟨k,rfl⟩: ∃ k:Nat,d=(k:Int):=⟨d.toNat,by lia⟩
 have hkl:k< (w0::wr).length:=by lia
 have gw3:=k3 _ _ gw nwt
 have hx:(w0::wr)[k]? =some (w0::wr)[k]:=List.getElem?_eq_getElem hkl
 obtain ⟨stp,_,b,c,eb,hb,hc⟩:=aJ hP hx
 rw [eb]at hx
 have tk3:=k3.tk tt
 refine ⟨_,rfl,_,rfl,wl,_,k,.ref b,rfl,rfl,SqL.of gw3,ar hx,?_⟩
 refine ⟨b,_,rfl,SqT.of (tk3 _ _ hb),rfl,_,_,rfl,_,_,rfl,_,_,rfl,rfl,?_⟩
 refine ⟨_,rfl,_,rfl,_,_,rfl,rfl,_,rfl,wl,_,rfl,SqL.of gw3,fun p4 h4=>?_⟩
 rw [show cW (w0::wr) (some ((k:Int) +1)) none=(w0::wr).drop (k+1)from vY _ (k+1)]
 have s4:=af h4 (.lst ((w0::wr).drop (k+1)))
 have g4:(upd H3 p4 (.lst ((w0::wr).drop (k+1)))) p4=some (.lst ((w0::wr).drop (k+1))):=ab
 generalize upd H3 p4 (.lst ((w0::wr).drop (k+1)))=H4 at s4 g4 ⊢
 have k4:=k3.same s4
 have tk4:=k4.tk tt
 exact hnext D tp wl fa oa c p4 fr ks stp.1 stp.2.1 stp.2.2 (w0::wr) ss e k _ _ _ H4 (tt3.same s4) (hRF.mono tk4) (tk4 _ _ hoa) (s4 _ _ gw3) (Paired.mapP hP fun _ _ h=>h.mono tk4) lss e0 (by lia) (tk4 _ _ hc) g4 (hE.mono k4)
end
theorem vd (F:Fun K "_law_other" "_law_other" fW f fd) (G:Gb mg) (GD:FnOk P w K mg base CX0 1 f2 fd2 ["tape","many"] bo) (bD:Binds K fd2 ["tape","many"] []) (kD:W.keepIn K (.ref f2)=true) (mD:mg "_law_digit"=some (.ref f2)):FnOk P w K mg base CX0 2 f fd ["tape","book","edges","way"] l5:=by
 refine F.ok scOther (fun vs H Q E h=>?_) (fun cdv A outer s H vs Q E hr h=>?_)
 ·obtain ⟨tp,el,wl,bv,bk,es,ws,lks,ss,rfl,_⟩:=h
  rfl
 obtain ⟨tp,el,wl,bv,bk,es,ws,lks,ss,rfl,hB,hT,hf1,gel,hE,hle,gw,hP,lss,tt,q⟩:=h
 have hr1:=hr.mono (show 1<=1 by decide)
 have hu0:=hr1.units0
 obtain ⟨t,ht,hnext⟩:=yw (P:=P) (w:=w) (K:=K) (mg:=mg) (base:=base) (f:=f) (cdv:=cdv) (A:=A) (outer:=outer) (s:=s) (H0:=H) (E:=E) G GD bD kD mD hr1
 refine ⟨_,ae (aq (i:=4) scOther.nd rfl (Or.inl rfl) (ao (r:=aC K) al (ao (r:=aC K) al (pv 1) ad (fun _ _=>rfl)) (ak GD hr1 rfl mD kD bD .nil av (aa (pv 0) (aa (aF (r:=de K) aA rfl G.len PySem.boot_len (aa (ao (r:=aC K) al (pv 1) ad (fun _ _=>rfl)) ac)) ac))) (fun _ _=>rfl)))
  (ae (aq (i:=5) scOther.nd rfl (Or.inl rfl) (aP (aa aX (aa aX ac))))
  (ae (aY (aw (i5 hu0) (pv 2) (aU ac) (ay _)) (ai (aq (i:=5) scOther.nd rfl (Or.inl rfl) (ao (r:=aC K) al (ao (r:=aC K) al (ao (r:=cI K) aS (pv 2) (ak GD hr1 rfl mD kD bD .nil av (aa (pv 0) (aa (aF (r:=de K) aA rfl G.len PySem.boot_len (aa (pv 2) ac)) ac))) (fun _ _=>rfl)) ad (fun _ _=>rfl)) ad (fun _ _=>rfl)))) aK) ht)),?_⟩
 have les:lks.length=es.length:=Paired.length hE
 obtain ⟨ba,sa,fva,fv,rfl,hba,hsa,hfva,hF⟩:=id hB
 have lF:bk.forms.length=fv.length:=hF.len
 have few:=hT.g.few
 have nof: ∀ {xs:List V} {x:Addr},H x=some (.lst xs)->(∀ y∈xs,∃ b,y=.ref b)->x≠tp:=fun {xs x} h hx e=>by
  obtain ⟨t,h'⟩:=tt
  rw [e,h']at h
  cases h
  obtain ⟨b,e⟩:=hx _ List.mem_cons_self
  cases e
 have nwt:wl≠tp:=nof gw fun y hy=>by
  obtain ⟨i,hi⟩:=List.getElem?_of_mem hy
  obtain ⟨_,_,b,c,e,_⟩:=aJ hP hi
  exact ⟨b,e⟩
 have net:el≠tp:=nof gel fun y hy=>by
  obtain ⟨i,hi⟩:=List.getElem?_of_mem hy
  obtain ⟨_,_,b,_,_,_,_,e,_⟩:=aJ hE hi
  exact ⟨b,e⟩
 refine ⟨_,rfl,ba,_,2,.ref fva,rfl,rfl,SqT.of hba,ar (j:=2) rfl,_,rfl,_,rfl,ba,_,2,.ref fva,rfl,rfl,SqT.of hba,ar (j:=2) rfl,fva,fv,rfl,.inr (SqT.of hfva),tp,_,rfl,tt,by lia,by lia,fun e t1 e0 e1=>?_⟩
 have k1:Kp tp H (upd H tp (.lst [.int t1])):=Kp.tape
 have tt1:Tp (upd H tp (.lst [.int t1])) tp:=⟨t1,ab⟩
 generalize upd H tp (.lst [.int t1])=H1 at k1 tt1 ⊢
 obtain ⟨v,ev,ev2⟩:=eY (xs:=fv) e0 e1
 obtain ⟨fr,_,hRF⟩:=aJ hF ev2
 obtain ⟨fa,pa,ra,rv,rfl,hfa⟩:=id hRF
 refine ⟨fva,fv,e,.ref fa,rfl,rfl,SqT.of (k1.tk tt _ _ hfva),ev,?_⟩
 refine ⟨(by show 2<=sizeLine;decide),fun p2 h2=>?_⟩
 have s2:=af h2 (.tup [.str "own",.str "zzz"])
 have g2:(upd H1 p2 (.tup [.str "own",.str "zzz"])) p2=some (.tup (([.inr "own",.inr "zzz"]:List Key).map kV)):=ab
 generalize upd H1 p2 (.tup [.str "own",.str "zzz"])=H2 at s2 g2 ⊢
 refine ⟨_,rfl,(by show 0<=sizeLine;decide),fun p3 h3=>?_⟩
 have s3:=af h3 (.lst [])
 have g3:(upd H2 p3 (.lst [])) p3=some (.lst []):=ab
 generalize upd H2 p3 (.lst [])=H3 at s3 g3 ⊢
 have k3:=k1.same (s2.trans s3)
 have tt3:=(tt1.same s2).same s3
 refine ⟨el,p3,es,rfl,rfl,SqL.of (k3 _ _ gel net),SqL.of g3,_,rfl,?_⟩
 have go: ∀ (oa:Addr) (ks:List Key) (D':cH) (H4:Hp),(∀ v H',Q v H'->D'.rt v H')->Kp tp H H4->Tp H4 tp->H4 oa=some (.tup (ks.map kV))-> ∀ o6 o7 o8 o9 o10 o11 o12,t D' [some (.ref tp),some (.ref ba),some (.ref el),some (.ref wl),some (.ref fa),some (.ref oa),o6,o7,o8,o9,o10,o11,o12] H4:=fun oa ks D' H4 hD k4 tt4 hoa o6 o7 o8 o9 o10 o11 o12=>
  hnext D' tp wl fa oa fr ks ws ss _ _ _ _ _ _ _ _ _ H4 tt4 (hRF.mono (k4.tk tt)) hoa (k4 _ _ gw nwt) nwt (Paired.mapP hP fun _ _ h=>h.mono (k4.tk tt)) lss fun p ys ss' H' k' tt' g' h' l'=>hD _ _ (q p ys ss' H' (k4.trans k') tt' g' h' l')
 cases es with
 | nil=>exact bh (go p2 _ _ H3 (fun v H' h=>h) k3 tt3 (s3 _ _ g2) _ _ _ _ _ _ _)
 | cons z0 zr=>
  refine bt ⟨_,rfl,_,rfl,_,rfl,el,_,rfl,.inl (SqL.of (k3 _ _ gel net)),tp,_,rfl,tt3,(by show (0:Int) < ((z0::zr).length:Int);rw [List.length_cons];lia),(by lia),fun d t2 d0 d1=>?_⟩
  have k4:Kp tp H (upd H3 tp (.lst [.int t2])):=k3.trans Kp.tape
  have tt4:Tp (upd H3 tp (.lst [.int t2])) tp:=⟨t2,ab⟩
  generalize upd H3 tp (.lst [.int t2])=H4 at k4 tt4 ⊢
  obtain ⟨x,ex,ex2⟩:=eY (xs:=z0::zr) d0 d1
  obtain ⟨l,_,hl⟩:=aJ hE ex2
  obtain ⟨a,pt,pr,st,c,rfl,ha,hpt,hpr,hst,hc⟩:=hl.mono (k4.tk tt)
  exact ⟨el,_,d,.ref a,rfl,rfl,SqL.of (k4 _ _ gel net),ex,a,_,4,.ref st,rfl,rfl,SqT.of ha,ar (j:=4) rfl,st,_,2,.ref c,rfl,rfl,SqT.of hst,ar (j:=2) rfl,go c l.ks _ H4 (fun v H' h=>h) k4 tt4 hc _ _ _ _ _ _ _⟩
end My
namespace L2
open PySem PySem.Spec PyProof.Rows
inductive CT where
 | s (x:Str)
 | i (n:Int)
 | t (l:List CT)
noncomputable def rL (g:Expr->Option CT):List Expr->Option (List CT)
 | []=>some []
 | e::r=>match g e,rL g r with
  | some c,some l=>some (c::l)
  | _,_=>none
noncomputable def qw:Nat->Expr->Option CT
 | 0,_=>none
 | _+1,.Constant (.str x) _ _=>some (.s x)
 | _+1,.Constant (.int i) _ _=>some (.i i)
 | _+1,.UnaryOp .USub (.Constant (.int i) _ _) _=>some (.i (-i))
 | n+1,.Tuple es _ _=>if es.length<=100 then match rL (qw n) es with
  | some l=>some (.t l)
  | none=>none else none
 | _+1,_=>none
noncomputable def RepC (H:Hp):Nat->CT->V->Prop
 | 0,_,_=>False
 | _+1,.s x,v=>v=.str x
 | _+1,.i n,v=>v=.int n
 | k+1,.t l,v=> ∃ a vs,v=.ref a/\H a=some (.tup vs)/\Paired (RepC H k) l vs
theorem RepC.mono {H H':Hp} (s: ∀ b o,H b=some o->H' b=some o): ∀ {k:Nat} {c:CT} {v:V},RepC H k c v->RepC H' k c v
 | 0,_,_,h=>h
 | _+1,.s _,_,h=>h
 | _+1,.i _,_,h=>h
 | _+1,.t _,_,⟨a,vs,e,h1,h2⟩=>⟨a,vs,e,s _ _ h1,Paired.mapP h2 fun _ _ r=>r.mono s⟩
def tK (n:Nat) (c:CT):TE:=fun _ H Q=> ∀ v H',(∀ b o,H b=some o->H' b=some o)->RepC H' n c v->Q v H'
def tKs (n:Nat) (l:List CT):TA:=fun _ H Q=> ∀ vs H',(∀ b o,H b=some o->H' b=some o)->Paired (RepC H' n) l vs->Q vs H'
theorem qv {n:Nat} {e:Expr} {c:CT} (h:qw n e=some c):nc e=true:=by
 cases n with
 | zero=>cases h
 | succ n=>cases e <;> first | rfl | cases h
theorem xN {X:Cx}: ∀ (n:Nat) {e:Expr} {c:CT},qw n e=some c->PE X e (tK n c)
 | 0,_,_,h=>by cases h
 | n+1,e,c,h=>by
  have hs: ∀ {es:List Expr} {l:List CT},rL (qw n) es=some l->PA X es (tKs n l)/\l.length=es.length:=by
   intro es
   induction es with
   | nil=>
    intro l h
    cases h
    exact ⟨fun pos pins s Z H Q I q=>ac pos pins s Z H Q I (q [] H (fun _ _ h=>h) .nil),rfl⟩
   | cons e r ih=>
    intro l h
    unfold rL at h
    split at h
    ·rename_i c l' h1 h2
     cases h
     obtain ⟨i1,i2⟩:=ih h2
     refine ⟨fun pos pins s Z H Q I q=>pac (xN n h1) i1 (qv h1) pos pins s Z H Q I fun v H1 s1 r1 vs H2 s2 r2=>q (v::vs) H2 (fun b o e=>s2 _ _ (s1 _ _ e)) (.cons (r1.mono s2) r2),by rw [List.length_cons,List.length_cons,i2]⟩
    ·cases h
  unfold qw at h
  split at h
  ·cases h
  ·cases h;exact fun pins s Z H Q I q=>aX pins s Z H Q I (q _ H (fun _ _ h=>h) rfl)
  ·cases h;exact fun pins s Z H Q I q=>ad pins s Z H Q I (q _ H (fun _ _ h=>h) rfl)
  ·cases h;exact fun pins s Z H Q I q=>dY c7 ad pins s Z H Q I ⟨_,rfl,q _ H (fun _ _ h=>h) rfl⟩
  ·rename_i n' es _ _ heq
   split at h
   ·rename_i h100
    split at h
    ·rename_i l hl
     cases h
     have hn:n'=n:=by lia
     subst hn
     obtain ⟨i1,i2⟩:=hs hl
     refine fun pins s Z H Q I q=>aP i1 pins s Z H Q I fun vs H1 s1 r1=>⟨?_,fun p hp=>q (.ref p) _ (fun b o e=>by rw [am (aj (s1 _ _ e) hp)];exact s1 _ _ e) ⟨p,vs,rfl,ab,Paired.mapP r1 fun _ _ r=>r.mono fun b o e=>by rw [am (aj e hp)];exact e⟩⟩
     have:=Paired.length r1
     exact Nat.le_trans (by lia:vs.length<=100) (by show 100<=sizeLine;decide)
    ·cases h
   ·cases h
  ·cases h
end L2
namespace My
open PySem L2
noncomputable def vt:Bk:=⟨2,[⟨"a",[],[]⟩],[⟨"f",⟨"a",[],[]⟩,[],[]⟩]⟩
theorem yH:BkT vt:=by
 refine ⟨⟨⟨by decide,by decide,?_,?_,?_⟩,by decide,?_,?_,?_⟩,?_⟩
 ·show (["a"]:List Str).Nodup
  simp
 ·intro x hx
  rw [List.mem_singleton.mp hx]
  show cQ "a"=true
  decide +kernel
 ·intro x hx
  rw [List.mem_singleton.mp hx]
  exact ⟨.nil,fun y hy=>(by cases hy),by decide,by decide⟩
 ·show (["f"]:List Str).Nodup
  simp
 ·intro x hx
  rw [List.mem_singleton.mp hx]
  show cQ "f"=true
  decide +kernel
 ·intro x hx
  rw [List.mem_singleton.mp hx]
  exact ⟨List.mem_cons_self,fun y hy=>(by cases hy),by decide⟩
 ·intro x hx
  rw [List.mem_singleton.mp hx]
  exact ⟨rfl,fun y hy=>(by cases hy),fun y hy=>(by cases hy)⟩
def jJ:Sp:=fun vs H Q E=> ∃ bk,qU bk vs H Q E
inductive nS (K:W.Frag) (vs:List V) (H:Hp) (Q:VK) (E_:XK):Prop
 | mk: ∀ (a:Addr) (ns:List Int),(vs=[.ref a])->(SqL K H a (ns.map V.int))->(ns.length<=63)->(∀ H',Q (.bl true) H')->nS K vs H Q E_
def pD:Sp:=fun vs H Q _=>vs=[]/\ ∀ v H',Same H H'->RepB H' vt v->Q v H'
theorem vM {m m':Sz} (h: ∀ x,aL m x=aL m' x):aM m=aM m':=by
 funext fr
 unfold aM
 simp only [h]
theorem lU {H:Hp}: ∀ {ss:List Stp} {ys:List V},Paired (RepK3 H) ss ys->Paired (AlkT H 2) ys ys
 | _,_,.nil=>.nil
 | _,_,.cons ⟨b,c,e,hb,hc⟩ t=>by
  have key: ∀ (n:Nat) (k:Key),AlkT H n (kV k) (kV k):=fun n k=>by
   have l:(∃ z,kV k=.str z/\kV k=.str z)\/ ∃ i,kV k=.int i/\kV k=.int i:=by
    cases k with
    | inl i=>exact .inr ⟨i,rfl,rfl⟩
    | inr z=>exact .inl ⟨z,rfl,rfl⟩
   cases n with
   | zero=>exact l
   | succ n=>exact .inl l
  have keys: ∀ (l:List Key),Paired (AlkT H 0) (l.map kV) (l.map kV):=fun l=>by
   induction l with
   | nil=>exact .nil
   | cons k l ih=>exact .cons (key 0 k) ih
  rw [e]
  exact .cons (.inr ⟨b,b,_,_,rfl,rfl,hb,hb,.cons (key 1 _) (.cons (key 1 _) (.cons (.inr ⟨c,c,_,_,rfl,rfl,hc,hc,keys _⟩) .nil))⟩) (lU t)
theorem bn {α β:Type} {F:α->β->Prop} {a:α} {l:List α} {r:List β} (h:Paired F (a::l) r): ∃ y r',r=y::r'/\F a y/\Paired F l r':=by
 cases h with
 | cons x t=>exact ⟨_,_,rfl,x,t⟩
noncomputable def ctN:CT:=.t [.i 2,.t [.t [.s "a",.t [],.t []]],.t [.t [.s "f",.s "a",.t [],.t []]]]
noncomputable def rZ:Stmt:=(bV nX).getD 0 (.Pass ⟨0,0,0,0⟩)
noncomputable def xJ:Stmt->Expr
 | .Return (some e) _=>e
 | _=>.Constant .none 0 ⟨0,0,0,0⟩
noncomputable def zK:Stmt->Pos
 | .Return _ p=>p
 | _=>⟨0,0,0,0⟩
theorem AS:qw 8 (xJ rZ)=some ctN:=by kernel_rfl
theorem AO:rZ=.Return (some (xJ rZ)) (zK rZ):=by kernel_rfl
theorem zY {α:Type} {l:List α} {d:α} (h:l.length=1):l=[l.getD 0 d]:=by
 match l,h with
 | [_],_=>rfl
theorem Ap:bV nX=[rZ]:=zY (by decide +kernel)
theorem yo {X:Cx} {st:Stmt} {n:Nat} {e:Expr} {p:Pos} {c:CT} (h:st=.Return (some e) p) (hc:qw n e=some c):PS X st (xV (tK n c)):=by
 subst h
 exact ax (xN n hc)
theorem yf:aB [] [] (ag nX):=fsc
theorem wU (F:Fun K "_law_none" "_law_none" nX f fd):FnOk P w K mg base CX0 1 f fd [] pD:=by
 refine F.ok yf (fun vs H Q E h=>?_) (fun cdv A outer s H vs Q E hr h=>?_)
 ·obtain ⟨rfl,_⟩:=h
  rfl
 obtain ⟨rfl,q⟩:=h
 rw [Ap]
 have e0:=AO
 have c0:=AS
 generalize rZ=st0 at e0 c0 ⊢
 refine ⟨_,ai (yo e0 c0),?_⟩
 intro v H1 s1 hc
 obtain ⟨W,vs,rfl,gW,hp⟩:=hc
 obtain ⟨y1,r1,rfl,q1,hp⟩:=bn hp
 obtain ⟨y2,r2,rfl,q2,hp⟩:=bn hp
 obtain ⟨y3,r3,rfl,q3,hp⟩:=bn hp
 cases hp
 have q1:y1=.int 2:=q1
 subst q1
 obtain ⟨S,vs,rfl,gS,hp⟩:=q2
 obtain ⟨y4,r4,rfl,q4,hp⟩:=bn hp
 cases hp
 obtain ⟨A,vs,rfl,gA,hp⟩:=q4
 obtain ⟨z1,r1,rfl,a1,hp⟩:=bn hp
 obtain ⟨z2,r2,rfl,a2,hp⟩:=bn hp
 obtain ⟨z3,r3,rfl,a3,hp⟩:=bn hp
 cases hp
 have a1:z1=.str "a":=a1
 subst a1
 obtain ⟨e1,vs,rfl,g1,hp⟩:=a2
 cases hp
 obtain ⟨e2,vs,rfl,g2,hp⟩:=a3
 cases hp
 obtain ⟨G,vs,rfl,gG,hp⟩:=q3
 obtain ⟨y4,r4,rfl,q4,hp⟩:=bn hp
 cases hp
 obtain ⟨F1,vs,rfl,gF,hp⟩:=q4
 obtain ⟨z1,r1,rfl,a1,hp⟩:=bn hp
 obtain ⟨z2,r2,rfl,a2,hp⟩:=bn hp
 obtain ⟨z3,r3,rfl,a3,hp⟩:=bn hp
 obtain ⟨z4,r4,rfl,a4,hp⟩:=bn hp
 cases hp
 have a1:z1=.str "f":=a1
 subst a1
 have a2:z2=.str "a":=a2
 subst a2
 obtain ⟨e3,vs,rfl,g3,hp⟩:=a3
 cases hp
 obtain ⟨e4,vs,rfl,g4,hp⟩:=a4
 cases hp
 exact q (.ref W) H1 s1 ⟨W,S,G,[.ref F1],rfl,gW,⟨[.ref A],gS,.cons ⟨A,e1,e2,rfl,gA,g1,g2⟩ .nil⟩,gG,.cons ⟨F1,e3,e4,[],rfl,gF,g3,g4,.nil⟩ .nil⟩
section
variable {P:Program} {w:World} {K:W.Frag} {mg:Str->Option Value} {base:Heap} {f f2 f3 f4 f5 f6 f7 f8 f9 f10 f11 f12 f13:Addr} {fd fd2 fd3 fd4 fd5 fd6 fd7 fd8 fd9 fd10 fd11 fd12 fd13:FuncData} {cdv:Value} {A:Around} {outer:List Env} {s:Shared} {H0:Hp} {E:XK}
abbrev tY:List Str:=["script","book","tape","edges","by_step","k","way","turn","some","handed","found"]
theorem scLaw:aB tY ["script"] (ag fg):=fsc
noncomputable def lawIn:List Stmt:=fF ((fF ((bV fg).getD 6 (.Pass ⟨0,0,0,0⟩))).getD 2 (.Pass ⟨0,0,0,0⟩))
theorem yL (hlist:mg "list"=none)
  (GK:FnOk P w K mg base CX0 7 f8 fd8 ["book","steps"] jt) (bK:Binds K fd8 ["book","steps"] []) (kK:W.keepIn K (.ref f8)=true) (mK:mg "is_stuck"=some (.ref f8))
  (GI:FnOk P w K mg base CX0 1 f12 fd12 ["found","due"] l3) (bI:Binds K fd12 ["found","due"] []) (kI:W.keepIn K (.ref f12)=true) (mI:mg "_law_said"=some (.ref f12))
  (GR:FnOk P w K mg base CX0 1 f13 fd13 ["by_step","steps"] jJ) (bR:Binds K fd13 ["by_step","steps"] []) (kR:W.keepIn K (.ref f13)=true) (mR:mg "_law_are_round"=some (.ref f13))
  (hr7:Room 7 (cV CX0 P w K mg base tY "law" (ag fg) f cdv A outer s H0 E).nox.A): ∃ t,PSs (cV CX0 P w K mg base tY "law" (ag fg) f cdv A outer s H0 E).nox (lawIn.drop 2) t/\
  ∀ (D:cH) (bk:Bk) (bv:V) (d p:Addr) (kvs:List (Stp×V)) (ys:List V) (ss:List Stp) (m:Sz) (o0 o2 o3 o5 o6 o7 o9 o10:Option V) (H:Hp),RepB H bk bv->BkT bk->FixS bk m->H d=some (.dP kvs)->Paired (EdE H) (dq (bk.forms.filter (aM m))) kvs->H p=some (.lst ys)->Paired (RepK3 H) ss ys->ss.length<=60->
   (∀ o9 o10 H',Same H H'->D.nx [o0,some bv,o2,o3,some (.ref d),o5,o6,o7,some (.ref p),o9,o10] H')->t D [o0,some bv,o2,o3,some (.ref d),o5,o6,o7,some (.ref p),o9,o10] H:=by
 have hr1:=hr7.mono (show 1<=7 by decide)
 have hu:=cF hr7
 have hu3:(cV CX0 P w K mg base tY "law" (ag fg) f cdv A outer s H0 E).nox.A.units+ (2+1) <cLine:=Nat.lt_of_le_of_lt (Nat.add_le_add_left (by decide:3<=16) _) hu
 refine ⟨_,ae (aq (i:=9) scLaw.nd rfl (Or.inl rfl) (bj (r:=mz K) ny rfl hlist (by decide +kernel) (aa (pv 8) ac)))
  (ae (aq (i:=10) scLaw.nd rfl (Or.inl rfl) (ak GK hr7 rfl mK kK bK .nil av (aa (pv 1) (aa (pv 9) ac))))
  (ai (aY (PW.pt (jU (i4 (dE (ak GI hr1 rfl mI kI bI .nil av (aa (pv 10) (aa (ak GR hr1 rfl mR kR bR .nil av (aa (pv 4) (aa (pv 8) ac))) ac))))) (hU (aw (yy (n:=2) hu3) (pv 9) (pv 8) (ay _))))) lq aK))),?_⟩
 intro D bk bv d p kvs ys ss m o0 o2 o3 o5 o6 o7 o9 o10 H hB hT hfix gd hP gp hss lss hD
 refine ⟨_,rfl,p,ys,rfl,.inl (SqL.of gp),fun l hl=>?_⟩
 have s1:=af hl (.lst ys)
 have g1:(upd H l (.lst ys)) l=some (.lst ys):=ab
 generalize upd H l (.lst ys)=H1 at s1 g1 ⊢
 have hss1:=Paired.mapP hss fun _ _ h=>h.mono (au s1)
 refine ⟨_,rfl,_,rfl,bv,bk,l,ys,ss,rfl,hB.mono (au s1),hT,g1,hss1,by lia,fun m' H2 hfix' s2=>?_⟩
 rw [vM (y6 hT.g hfix' hfix)]
 have S2:=s1.trans s2
 have hss2:=Paired.mapP hss fun _ _ h=>h.mono (au S2)
 refine ⟨_,rfl,_,rfl,_,rfl,bk,d,p,kvs,_,ys,ss,rfl,S2 _ _ gd,Paired.mapP hP fun _ _ h=>h.mono (au S2),hT,fun l hl=>vA hT hl,S2 _ _ gp,hss2,by lia,fun H3 s3=>?_⟩
 refine ⟨_,_,rfl,?_⟩
 rw [decide_eq_true rfl]
 have S3:=S2.trans s3
 refine ⟨true,rfl,bh ⟨_,rfl,_,rfl,l,p,ys,ys,rfl,rfl,s3 _ _ (s2 _ _ g1),S3 _ _ gp,lU (Paired.mapP hss fun _ _ h=>h.mono (au S3)),_,rfl,bh (hD _ _ H3 S3)⟩⟩
theorem xf (G:Gb mg) (hlist:mg "list"=none)
  (GE:FnOk P w K mg base CX0 17 f6 fd6 ["book"] l9) (bE:Binds K fd6 ["book"] []) (kE:W.keepIn K (.ref f6)=true) (mE:mg "_law_edges"=some (.ref f6))
  (GS:FnOk P w K mg base CX0 1 f7 fd7 ["edges"] jN) (bS:Binds K fd7 ["edges"] []) (kS:W.keepIn K (.ref f7)=true) (mS:mg "_law_by_step"=some (.ref f7))
  (GK:FnOk P w K mg base CX0 7 f8 fd8 ["book","steps"] jt) (bK:Binds K fd8 ["book","steps"] []) (kK:W.keepIn K (.ref f8)=true) (mK:mg "is_stuck"=some (.ref f8))
  (GO:FnOk P w K mg base CX0 1 f9 fd9 [] pD) (bO:Binds K fd9 [] []) (kO:W.keepIn K (.ref f9)=true) (mO:mg "_law_none"=some (.ref f9))
  (GT:FnOk P w K mg base CX0 2 f3 fd3 ["script","k"] (iS K)) (bT:Binds K fd3 ["script","k"] []) (kT:W.keepIn K (.ref f3)=true) (mT:mg "_law_tape"=some (.ref f3))
  (GW:FnOk P w K mg base CX0 2 f10 fd10 ["tape","edges"] uq) (bW:Binds K fd10 ["tape","edges"] []) (kW:W.keepIn K (.ref f10)=true) (mW:mg "_law_way"=some (.ref f10))
  (GQ:FnOk P w K mg base CX0 2 f11 fd11 ["tape","book","edges","way"] l5) (bQ:Binds K fd11 ["tape","book","edges","way"] []) (kQ:W.keepIn K (.ref f11)=true) (mQ:mg "_law_other"=some (.ref f11))
  (GI:FnOk P w K mg base CX0 1 f12 fd12 ["found","due"] l3) (bI:Binds K fd12 ["found","due"] []) (kI:W.keepIn K (.ref f12)=true) (mI:mg "_law_said"=some (.ref f12))
  (GR:FnOk P w K mg base CX0 1 f13 fd13 ["by_step","steps"] jJ) (bR:Binds K fd13 ["by_step","steps"] []) (kR:W.keepIn K (.ref f13)=true) (mR:mg "_law_are_round"=some (.ref f13))
  (hr:Room 17 (cV CX0 P w K mg base tY "law" (ag fg) f cdv A outer s H0 E).nox.A): ∃ t,PSs (cV CX0 P w K mg base tY "law" (ag fg) f cdv A outer s H0 E).nox ((bV fg).drop 3) t/\
  ∀ (D:cH) (a:Addr) (ns:List Int) (bv:V) (bk:Bk) (o2 o3 o4 o5 o6 o7 o8 o9 o10:Option V) (H:Hp),SqL K H a (ns.map V.int)->ns.length<=63->RepB H bk bv->BkT bk->1<=bk.forms.length->(∀ H',D.rt (.bl true) H')->t D [some (.ref a),some bv,o2,o3,o4,o5,o6,o7,o8,o9,o10] H:=by
 have hr7:=hr.mono (show 7<=17 by decide)
 have hr1:=hr.mono (show 1<=17 by decide)
 have hr2:=hr.mono (show 2<=17 by decide)
 obtain ⟨ti,hi,hin⟩:=yL (P:=P) (w:=w) (K:=K) (mg:=mg) (base:=base) (f:=f) (cdv:=cdv) (A:=A) (outer:=outer) (s:=s) (H0:=H0) (E:=E) hlist GK bK kK mK GI bI kI mI GR bR kR mR hr7
 refine ⟨_,ae (aq (i:=3) scLaw.nd rfl (Or.inl rfl) (ak GE hr rfl mE kE bE .nil av (aa (pv 1) ac)))
  (ae (aq (i:=4) scLaw.nd rfl (Or.inl rfl) (ak GS hr1 rfl mS kS bS .nil av (aa (pv 3) ac)))
  (ae (aY (PW.pt (jU (aw jm (ak GK hr7 rfl mK kK bK .nil av (aa (pv 1) (aa (aU ac) ac))) eg (ay _)) (hU (aw jm (ak GK hr7 rfl mK kK bK .nil av (aa (uU GO hr1 rfl mO kO bO .nil av) (aa (aU ac) ac))) eg (ay _))))) lq aK)
  (ae (bg PassesOwn.never rfl (sG rfl G.range (aa ad (aa (aF (lN rfl) rfl G.max (by decide +kernel) (aa ad (aa (aF (je rfl) rfl G.min (by decide +kernel) (aa ad (aa (aF (r:=de K) aA rfl G.len PySem.boot_len (aa (pv 0) ac)) ac))) ac))) ac))) (aH (i:=5) scLaw.nd rfl (Or.inl rfl))
   (ae (aq (i:=2) scLaw.nd rfl (Or.inl rfl) (ak GT hr2 rfl mT kT bT .nil av (aa (pv 0) (aa (pv 5) ac))))
  (ae (aq (i:=6) scLaw.nd rfl (Or.inl rfl) (ak GW hr2 rfl mW kW bW .nil av (aa (pv 2) (aa (pv 3) ac))))
  (ai (bg PassesOwn.never rfl (br rfl G.range (aa ad ac)) (aH (i:=7) scLaw.nd rfl (Or.inl rfl))
   (ae (aq (i:=8) scLaw.nd rfl (Or.inl rfl) (pv 6))
  (ae (aY (aw iB (pv 7) ad (ay _)) (ai (aq (i:=8) scLaw.nd rfl (Or.inl rfl) (ak GQ hr2 rfl mQ kQ bQ .nil av (aa (pv 2) (aa (pv 1) (aa (pv 3) (aa (pv 6) ac))))))) aK) hi)))))))
  (ai (ax eg))))),?_⟩
 intro D a ns bv bk o2 o3 o4 o5 o6 o7 o8 o9 o10 H hS hlen hB hT hf1 hD
 refine ⟨_,rfl,bv,bk,rfl,hB,hT,fun el es m H1 hfix hel s1 gel hEd=>?_⟩
 have nd:((dq (bk.forms.filter (aM m))).map Lk.stp).Nodup:=rB (List.Nodup.sublist (List.Sublist.map _ List.filter_sublist) hT.g.nd)
 have l18:(dq (bk.forms.filter (aM m))).length<=1800:=by
  have h1:=iE (fs:=bk.forms.filter (aM m)) fun fr hf=>⟨fun r hr'=>((hT.fr fr (List.mem_filter.mp hf).1).fm r hr').2,eM hT (List.mem_filter.mp hf).1⟩
  have h2:=List.length_filter_le (aM m) bk.forms
  have h3:=hT.g.few
  lia
 refine ⟨_,rfl,el,es,_,rfl,gel,hEd,nd,l18,fun d kvs H2 hd s2 gd hP=>?_⟩
 have S2:=s1.trans s2
 refine ⟨_,rfl,(by show 0<=sizeLine;decide),fun p3 h3=>?_⟩
 have s3:=af h3 (.lst [])
 have g3:(upd H2 p3 (.lst [])) p3=some (.lst []):=ab
 generalize upd H2 p3 (.lst [])=H3 at s3 g3 ⊢
 refine ⟨bv,bk,p3,[],[],rfl,hB.mono (au (S2.trans s3)),hT,g3,.nil,by decide,fun m4 H4 _ s4=>⟨_,_,rfl,rfl,_,rfl,bh ?_⟩⟩
 refine ⟨rfl,fun v5 H5 s5 hN=>⟨(by show 0<=sizeLine;decide),fun p6 h6=>?_⟩⟩
 have s6:=af h6 (.lst [])
 have g6:(upd H5 p6 (.lst [])) p6=some (.lst []):=ab
 generalize upd H5 p6 (.lst [])=H6 at s6 g6 ⊢
 refine ⟨v5,vt,p6,[],[],rfl,hN.mono (au s6),yH,g6,.nil,by decide,fun m7 H7 _ s7=>⟨_,_,rfl,rfl,_,rfl,bh ?_⟩⟩
 have S27:Same H2 H7:=(((s3.trans s4).trans s5).trans s6).trans s7
 have S7:=S2.trans S27
 have gd7:=S27 _ _ gd
 have hP7:=Paired.mapP hP fun _ _ h=>h.mono (au S27)
 have gel7:=S27 _ _ (s2 _ _ gel)
 have hEd7:=Paired.mapP hEd fun _ _ h=>h.mono (au (s2.trans S27))
 have hB7:=hB.mono (au S7)
 have hS7:=S7.seq hS
 have hll:(ns.map V.int).length=ns.length:=List.length_map _
 refine ⟨_,rfl,a,_,rfl,.inl hS7,28,_,rfl,20,_,rfl,12,_,rfl,?_,?_⟩
 ·rw [hll]
  refine ⟨by decide,by decide,?_,?_⟩ <;> split <;> split <;> lia
 rw [hll]
 refine cB (fun i Z H'=> ∃ o2 o5 o6 o7 o8 o9 o10,Z=[some (.ref a),some bv,o2,some (.ref el),some (.ref d),o5,o6,o7,o8,o9,o10]/\Same H7 H') ⟨_,_,_,_,_,_,_,rfl,Same.refl _⟩ ?_ ?_
 ·rintro i Z H8 hi ⟨o2,o5,o6,o7,o8,o9,o10,rfl,S8⟩
  have hi8:i<17:=by
   have:((if (if (ns.length:Int) <28 then (ns.length:Int)else 28) >20 then (if (ns.length:Int) <28 then (ns.length:Int)else 28)else 20) -12).toNat<=16:=by split <;> split <;> lia
   lia
  refine ⟨_,rfl,_,rfl,a,ns,_,rfl,S8.seq hS7,hlen,by lia,by lia,fun tp t0 htp=>?_⟩
  have s9:=af htp (.lst [.int t0])
  have tt9:Tp (upd H8 tp (.lst [.int t0])) tp:=⟨t0,ab⟩
  generalize upd H8 tp (.lst [.int t0])=H9 at s9 tt9 ⊢
  have S9:=S8.trans s9
  have tp7:H7 tp=none:=S8.free htp
  have kp7: ∀ {H':Hp},Kp tp H9 H'->Same H7 H':=fun k b o h=>k _ _ (S9 _ _ h) (aj h tp7)
  refine ⟨_,rfl,_,rfl,tp,el,es,_,rfl,S9 _ _ gel7,Paired.mapP hEd7 fun _ _ h=>h.mono (au S9),l18,tt9,fun wl ws ss HA hwl kA ttA gw hW lss=>?_⟩
  have nwt:=cK tt9 hwl
  refine ⟨_,rfl,by decide,by decide,?_⟩
  refine cB (fun j Z H'=> ∃ o7 o8 o9 o10,Z=[some (.ref a),some bv,some (.ref tp),some (.ref el),some (.ref d),some (.int (12+ (i:Int))),some (.ref wl),o7,o8,o9,o10]/\Kp tp H9 H'/\Tp H' tp/\H' wl=some (.lst ws)/\Paired (RepK3 H') ss ws) ⟨_,_,_,_,rfl,kA,ttA,gw,hW⟩ ?_ ?_
  ·rintro j Z HB hj ⟨o7,o8,o9,o10,rfl,kB',ttB,gwB,hWB⟩
   have SB:=kp7 kB'
   have go: ∀ (D':cH) (p:Addr) (ys:List V) (ss':List Stp) (HC:Hp),(∀ Z H',(∃ o7 o8 o9 o10,Z=[some (.ref a),some bv,some (.ref tp),some (.ref el),some (.ref d),some (.int (12+ (i:Int))),some (.ref wl),o7,o8,o9,o10]/\Kp tp H9 H'/\Tp H' tp/\H' wl=some (.lst ws)/\Paired (RepK3 H') ss ws)->D'.nx Z H')->Kp tp HB HC->Tp HC tp->HC p=some (.lst ys)->Paired (RepK3 HC) ss' ys->ss'.length<=60-> ∀ o7 o9 o10,
     ti D' [some (.ref a),some bv,some (.ref tp),some (.ref el),some (.ref d),some (.int (12+ (i:Int))),some (.ref wl),o7,some (.ref p),o9,o10] HC:=fun D' p ys ss' HC hD' kC ttC gp hp lp o7 o9 o10=>by
    have SC:=kp7 (kB'.trans kC)
    refine hin D' bk bv d p kvs ys ss' m _ _ _ _ _ _ _ _ HC (hB7.mono (au SC)) hT hfix (SC _ _ gd7) (Paired.mapP hP7 fun _ _ h=>h.mono (au SC)) gp hp lp fun o9 o10 HD sD=>?_
    have kD:=kC.same sD
    exact hD' _ _ ⟨_,_,_,_,rfl,kB'.trans kD,ttC.same sD,kD _ _ gwB nwt,Paired.mapP hWB fun _ _ h=>h.mono (kD.tk ttB)⟩
   refine ⟨_,rfl,?_⟩
   refine ⟨_,rfl,_,_,rfl,rfl,_,rfl,?_⟩
   refine cU (fun _=>?_) (fun _=>go _ wl ws ss HB (fun Z H' h=>h) Kp.refl ttB gwB hWB (by lia) _ _ _)
   exact ⟨_,rfl,_,rfl,_,rfl,_,rfl,tp,el,wl,bv,bk,es,ws,_,ss,rfl,hB7.mono (au SB),hT,hf1,SB _ _ gel7,Paired.mapP hEd7 fun _ _ h=>h.mono (au SB),l18,gwB,hWB,lss,ttB,fun p ys ss' HC kC ttC gp hp lp=>go _ p ys ss' HC (fun Z H' h=>h) kC ttC gp hp lp _ _ _⟩
  ·rintro Z HB ⟨o7,o8,o9,o10,rfl,kB',ttB,gwB,hWB⟩
   exact ⟨_,_,_,_,_,_,_,rfl,kp7 kB'⟩
 ·rintro Z H8 ⟨o2,o5,o6,o7,o8,o9,o10,rfl,S8⟩
  exact hD H8
end
theorem FnOk.exA {P:Program} {w:World} {K:W.Frag} {mg:Str->Option Value} {base:Heap} {CX:CXT} {k:Nat} {f:Addr} {fd:FuncData} {ps:List Str} {α:Type} {sp:α->Sp} (h: ∀ a,FnOk P w K mg base CX k f fd ps (sp a)):FnOk P w K mg base CX k f fd ps (fun vs H Q E=> ∃ a,sp a vs H Q E):=
 ⟨fun vs H Q E ⟨a,z⟩=>(h a).len vs H Q E z,fun A o s H args us vs Q E r e b v ⟨a,z⟩=>(h a).run A o s H args us vs Q E r e b v z⟩
theorem yG (F:Fun K "law" "law" fg f fd) (G:Gb mg) (hlist:mg "list"=none)
  (GB:FnOk P w K mg base CX0 6 f2 fd2 ["script","start","few"] (pF K)) (bB:Binds K fd2 ["script","start","few"] []) (kB:W.keepIn K (.ref f2)=true) (mB:mg "_law_book"=some (.ref f2))
  (GT:FnOk P w K mg base CX0 2 f3 fd3 ["script","k"] (iS K)) (bT:Binds K fd3 ["script","k"] []) (kT:W.keepIn K (.ref f3)=true) (mT:mg "_law_tape"=some (.ref f3))
  (GD:FnOk P w K mg base CX0 1 f4 fd4 ["tape","many"] bo) (bD:Binds K fd4 ["tape","many"] []) (kD:W.keepIn K (.ref f4)=true) (mD:mg "_law_digit"=some (.ref f4))
  (GC:FnOk P w K mg base CX0 17 f5 fd5 ["tape","book","often"] nV) (bC:Binds K fd5 ["tape","book","often"] []) (kC:W.keepIn K (.ref f5)=true) (mC:mg "_law_calmed"=some (.ref f5))
  (GE:FnOk P w K mg base CX0 17 f6 fd6 ["book"] l9) (bE:Binds K fd6 ["book"] []) (kE:W.keepIn K (.ref f6)=true) (mE:mg "_law_edges"=some (.ref f6))
  (GS:FnOk P w K mg base CX0 1 f7 fd7 ["edges"] jN) (bS:Binds K fd7 ["edges"] []) (kS:W.keepIn K (.ref f7)=true) (mS:mg "_law_by_step"=some (.ref f7))
  (GK:FnOk P w K mg base CX0 7 f8 fd8 ["book","steps"] jt) (bK:Binds K fd8 ["book","steps"] []) (kK:W.keepIn K (.ref f8)=true) (mK:mg "is_stuck"=some (.ref f8))
  (GO:FnOk P w K mg base CX0 1 f9 fd9 [] pD) (bO:Binds K fd9 [] []) (kO:W.keepIn K (.ref f9)=true) (mO:mg "_law_none"=some (.ref f9))
  (GW:FnOk P w K mg base CX0 2 f10 fd10 ["tape","edges"] uq) (bW:Binds K fd10 ["tape","edges"] []) (kW:W.keepIn K (.ref f10)=true) (mW:mg "_law_way"=some (.ref f10))
  (GQ:FnOk P w K mg base CX0 2 f11 fd11 ["tape","book","edges","way"] l5) (bQ:Binds K fd11 ["tape","book","edges","way"] []) (kQ:W.keepIn K (.ref f11)=true) (mQ:mg "_law_other"=some (.ref f11))
  (GI:FnOk P w K mg base CX0 1 f12 fd12 ["found","due"] l3) (bI:Binds K fd12 ["found","due"] []) (kI:W.keepIn K (.ref f12)=true) (mI:mg "_law_said"=some (.ref f12))
  (GR:FnOk P w K mg base CX0 1 f13 fd13 ["by_step","steps"] jJ) (bR:Binds K fd13 ["by_step","steps"] []) (kR:W.keepIn K (.ref f13)=true) (mR:mg "_law_are_round"=some (.ref f13)):
  FnOk P w K mg base CX0 18 f fd ["script"] (nS K):=by
 refine F.ok scLaw (fun vs H Q E h=>?_) (fun cdv A outer s H vs Q E hr h=>?_)
 ·obtain ⟨a,ns,rfl,_⟩:=h
  rfl
 obtain ⟨a,ns,rfl,hS,hlen,q⟩:=h
 have hr1:=hr.mono (show 1<=17 by decide)
 have hr2:=hr.mono (show 2<=17 by decide)
 have hr6:=hr.mono (show 6<=17 by decide)
 obtain ⟨t,ht,hnx⟩:=xf (P:=P) (w:=w) (K:=K) (mg:=mg) (base:=base) (f:=f) (cdv:=cdv) (A:=A) (outer:=outer) (s:=s) (H0:=H) (E:=E) G hlist GE bE kE mE GS bS kS mS GK bK kK mK GO bO kO mO GT bT kT mT GW bW kW mW GQ bQ kQ mQ GI bI kI mI GR bR kR mR hr
 refine ⟨_,ae (aq (i:=1) scLaw.nd rfl (Or.inl rfl) (ak GB hr6 rfl mB kB bB .nil av (aa (pv 0) (aa ad (aa eg ac)))))
  (ae (aq (i:=2) scLaw.nd rfl (Or.inl rfl) (ak GT hr2 rfl mT kT bT .nil av (aa (pv 0) (aa ad ac))))
  (ae (aY (aw bq (ak GD hr1 rfl mD kD bD .nil av (aa (pv 2) (aa ad ac))) ad (ay _)) (ai (aq (i:=1) scLaw.nd rfl (Or.inl rfl) (ak GC hr rfl mC kC bC .nil av (aa (pv 2) (aa (pv 1) (aa (aE bf ad (ak GD hr1 rfl mD kD bD .nil av (aa (pv 2) (aa ad ac)))) ac)))))) aK) ht)),?_⟩
 refine ⟨_,rfl,a,ns,1,false,rfl,hS,hlen,by decide,by decide,fun bv bk H1 hB hok s1=>?_⟩
 have hf1:1<=bk.forms.length:=Nat.le_trans hok.so.1 hok.more
 have hT:=wg hok
 refine ⟨_,rfl,a,ns,0,rfl,s1.seq hS,hlen,by decide,by decide,fun tp t0 htp=>?_⟩
 have s2:=af htp (.lst [.int t0])
 have tt2:Tp (upd H1 tp (.lst [.int t0])) tp:=⟨t0,ab⟩
 generalize upd H1 tp (.lst [.int t0])=H2 at s2 tt2 ⊢
 have kp: ∀ {H':Hp},Kp tp H2 H'->Same H1 H':=fun k b o h=>k _ _ (s2 _ _ h) (aj h htp)
 refine ⟨_,rfl,tp,2,rfl,tt2,by decide,by decide,fun e t1 e0 e1=>?_⟩
 have k3:Kp tp H2 (upd H2 tp (.lst [.int t1])):=Kp.tape
 have tt3:Tp (upd H2 tp (.lst [.int t1])) tp:=⟨t1,ab⟩
 generalize upd H2 tp (.lst [.int t1])=H3 at k3 tt3 ⊢
 refine ⟨rfl,_,rfl,?_⟩
 refine cU (fun _=>?_) (fun _=>hnx _ a ns bv bk _ _ _ _ _ _ _ _ _ H3 ((s1.trans (kp k3)).seq hS) hlen (hB.mono (au (kp k3))) hT hf1 q)
 refine ⟨_,rfl,_,rfl,_,rfl,tp,4,rfl,tt3,by decide,by decide,fun e t2 e0 e1=>?_⟩
 have k4:Kp tp H2 (upd H3 tp (.lst [.int t2])):=k3.trans Kp.tape
 have tt4:Tp (upd H3 tp (.lst [.int t2])) tp:=⟨t2,ab⟩
 generalize upd H3 tp (.lst [.int t2])=H4 at k4 tt4 ⊢
 refine ⟨_,_,rfl,rfl,tp,bv,bk,2+e,rfl,hB.mono (au (kp k4)),hT,tt4,by lia,by lia,fun v bk' H5 k5 tt5 hB5 hT5 hl5=>?_⟩
 exact hnx _ a ns v bk' _ _ _ _ _ _ _ _ _ H5 ((s1.trans (kp (k4.trans k5))).seq hS) hlen hB5 hT5 (by lia) q
theorem xw {P:Program} {w:World} {K:W.Frag} {aD:Addr} {h1 h2 h3 h4 h5 h6:Int} {t1 t2 t3 t4 t5 t6 u1 u2 u3 u4 u5 u6:Tok} {ep:Nat}
  (lD:K.lookup aD=some ⟨.type "dict",none,.dict #[⟨h1,.str "plus" t1,.int 2 u1⟩,⟨h2,.str "less" t2,.int 2 u2⟩,⟨h3,.str "times" t3,.int 2 u3⟩,⟨h4,.str "least" t4,.int 2 u4⟩,⟨h5,.str "most" t5,.int 2 u5⟩,⟨h6,.str "when" t6,.int 3 u6⟩] ep,#[]⟩)
  (e1:h1=hashStr w "plus") (e2:h2=hashStr w "less") (e3:h3=hashStr w "times") (e4:h4=hashStr w "least") (e5:h5=hashStr w "most") (e6:h6=hashStr w "when") (nD:(aD==sysModules)=false):xH P w K aD lI:=by
 refine ⟨nD,fun h X=>⟨[(.inr "plus",.int 2 u1),(.inr "less",.int 2 u2),(.inr "times",.int 2 u3),(.inr "least",.int 2 u4),(.inr "most",.int 2 u5),(.inr "when",.int 3 u6)],?_,?_⟩⟩
 ·exact .cons ⟨rfl,_,rfl⟩ (.cons ⟨rfl,_,rfl⟩ (.cons ⟨rfl,_,rfl⟩ (.cons ⟨rfl,_,rfl⟩ (.cons ⟨rfl,_,rfl⟩ (.cons ⟨rfl,_,rfl⟩ .nil)))))
 ·refine ⟨_,_,_,X _ _ lD,⟨rfl,rfl,rfl⟩,rfl,?_,?_,by dsimp only [List.map];decide +kernel⟩
  ·intro e he
   simp only [List.mem_toArray,List.mem_cons,List.not_mem_nil,or_false]at he
   rcases he with rfl | rfl | rfl | rfl | rfl | rfl
   ·exact ⟨.inr "plus",bZ "plus" t1,e1⟩
   ·exact ⟨.inr "less",bZ "less" t2,e2⟩
   ·exact ⟨.inr "times",bZ "times" t3,e3⟩
   ·exact ⟨.inr "least",bZ "least" t4,e4⟩
   ·exact ⟨.inr "most",bZ "most" t5,e5⟩
   ·exact ⟨.inr "when",bZ "when" t6,e6⟩
  ·exact .cons (bZ "plus" t1) rfl (.cons (bZ "less" t2) rfl (.cons (bZ "times" t3) rfl (.cons (bZ "least" t4) rfl (.cons (bZ "most" t5) rfl (.cons (bZ "when" t6) rfl .nil)))))
theorem zk {α:Type} {l:List α} (h:l.length=0):l=[]:=List.length_eq_zero_iff.mp h
theorem cc {α:Type} {l:List α} (h:l.length=1): ∃ a,l=[a]:=by
 match l,h with
 | [a],_=>exact ⟨a,rfl⟩
theorem cE {α:Type} {l:List α} (h:l.length=2): ∃ a b,l=[a,b]:=by
 match l,h with
 | [a,b],_=>exact ⟨a,b,rfl⟩
theorem nz {α:Type} {l:List α} (h:l.length=3): ∃ a b c,l=[a,b,c]:=by
 match l,h with
 | [a,b,c],_=>exact ⟨a,b,c,rfl⟩
theorem wm {α:Type} {l:List α} (h:l.length=4): ∃ a b c d,l=[a,b,c,d]:=by
 match l,h with
 | [a,b,c,d],_=>exact ⟨a,b,c,d,rfl⟩
theorem wj {α:Type} {l:List α} (h:l.length=5): ∃ a b c d e,l=[a,b,c,d,e]:=by
 match l,h with
 | [a,b,c,d,e],_=>exact ⟨a,b,c,d,e,rfl⟩
theorem zj {α:Type} {l:List α} (h:l.length=6): ∃ a b c d e f,l=[a,b,c,d,e,f]:=by
 match l,h with
 | [a,b,c,d,e,f],_=>exact ⟨a,b,c,d,e,f,rfl⟩
theorem uH {K:W.Frag} {aR:Addr} {od:Option Addr} {sl:Array (Option Value)} {t1 t2:Tok} {m:Nat} (l:K.lookup aR=some ⟨.type "tuple",od,.seq #[.str "own" t1,.str "part" t2] m,sl⟩): ∀ H,SqT K H aR [.str "own",.str "part"]:=
 fun H=>.inr ⟨_,_,_,l,rfl,rfl,(show 2<=sizeLine by decide),.cons ⟨_,rfl⟩ (.cons ⟨_,rfl⟩ .nil)⟩
/-- what is told of a def -/
structure Df (K:W.Frag) (nm:Str) (st:Stmt) (f:Addr) (fd:FuncData):Prop where
 a:PySem.W.nsIn K mainGlobals nm=some (some (.ref f))
 k:W.keepIn K (.ref f)=true
 F:Fun K nm nm st f fd
theorem Df.m {K:W.Frag} {nm:Str} {st:Stmt} {f:Addr} {fd:FuncData} {h:Heap} {mg:Str->Option Value} (d:Df K nm st f fd) (X:K.In h) (G:h.Ns mainGlobals mg):mg nm=some (.ref f):=PySem.W.mg_of X G d.a
theorem Df.of {K:W.Frag} {nm:Str} {st:Stmt} {f:Addr} {oc:Value} {od an:Option Addr} {osl:Array (Option Value)} {kV doc pm cdv ct:Value} (a:PySem.W.nsIn K mainGlobals nm=some (some (.ref f))) (k:W.keepIn K (.ref f)=true)
  (l:K.lookup f=some ⟨oc,od,.func (PySem.W.fnOf nm nm (iJ st) (bV st) (ag st) .none kV doc pm an cdv ct),osl⟩) (c:PySem.W.codeIn K cdv nm=true):Df K nm st f (PySem.W.fnOf nm nm (iJ st) (bV st) (ag st) .none kV doc pm an cdv ct):=
 ⟨a,k,⟨⟨oc,od,kV,doc,pm,an,cdv,ct,osl,rfl,l,c⟩,k⟩⟩
theorem all_mk {l:PySem.W.OpenLaw} {w:World} {K:W.Frag} {h:Heap} {mg:Str->Option Value} {fa aD aR f1 f2 f3 f4 f5 f6 f7 f8 f9 f10 f11 f12 f13 f14 f15 f16 f17 f18 f19 f20 f21 f22 f23 f24 f25 f26 f27 f28 f29 f30 f31 f32 f33 f34 f35 f36 f37 f38 f39 f40 f41 f42 f43 f44 f45 f46 f47 f48 f49 f50 f51 f52 f53:Addr} {r1 r2 r3 r4 r5 r6 r7 r8 r9 r10 r11 r12 r13 r14 r15 r16 r17 r18 r19 r20 r21 r22 r23 r24 r25 r26 r27 r28 r29 r30 r31 r32 r33 r34 r35 r36 r37 r38 r39 r40 r41 r42 r43 r44 r45 r46 r47 r48 r49 r50 r51 r52 r53:FuncData} (X:K.In h) (G:h.Ns mainGlobals mg) (hfa:mg "law"=some (.ref fa))
  {odR:Option Addr} {slR:Array (Option Value)} {w1 w2 t1 t2 t3 t4 t5 t6 u1 u2 u3 u4 u5 u6  :Tok} {h1 h2 h3 h4 h5 h6:Int} {ep mR:Nat}
  (d1:Df K "inner_of" pQ f1 r1)
  (d2:Df K "tuples_of" mj f2 r2)
  (d3:Df K "readings_of" pL f3 r3)
  (d4:Df K "sorts_of" jO f4 r4)
  (d5:Df K "forms_of" jS f5 r5)
  (d6:Df K "sort_of_form" fV f6 r6)
  (d7:Df K "parts_of" jQ f7 r7)
  (d8:Df K "rules_of" jP f8 r8)
  (d9:Df K "keys_of" jw f9 r9)
  (d10:Df K "key_of" pP f10 r10)
  (d11:Df K "sort_at" ml f11 r11)
  (d12:Df K "least_sizes" fY f12 r12)
  (d13:Df K "sizes_one_round_on" gE f13 r13)
  (d14:Df K "grown_forms" gH f14 r14)
  (d15:Df K "least_size_by" ju f15 r15)
  (d16:Df K "forms_that_live" iY f16 r16)
  (d17:Df K "is_stuck" dB f17 r17)
  (d18:Df K "links_by_step" pM f18 r18)
  (d19:Df K "worth_told" pI f19 r19)
  (d20:Df K "worth_read" pJ f20 r20)
  (d21:Df K "worth_at_key" mi f21 r21)
  (d22:Df K "is_late" mv f22 r22)
  (d23:Df K "is_read_there" gY f23 r23)
  (d24:Df K "_law_cell_at" uE f24 r24)
  (d25:Df K "_law_tape" uB f25 r25)
  (d26:Df K "_law_digit" pS f26 r26)
  (d27:Df K "_law_names" fX f27 r27)
  (d28:Df K "_law_number" mn f28 r28)
  (d29:Df K "_law_leaf" uD f29 r29)
  (d30:Df K "_law_formula" fh f30 r30)
  (d31:Df K "_law_sorts" pK f31 r31)
  (d32:Df K "_law_targets" fU f32 r32)
  (d33:Df K "_law_readings" dW f33 r33)
  (d34:Df K "_law_form" pO f34 r34)
  (d35:Df K "_law_book" fJ f35 r35)
  (d36:Df K "_law_least" jR f36 r36)
  (d37:Df K "_law_read" mq f37 r37)
  (d38:Df K "_law_live" iZ f38 r38)
  (d39:Df K "_law_downs" mr f39 r39)
  (d40:Df K "_law_is_late" pN f40 r40)
  (d41:Df K "_law_edges" pR f41 r41)
  (d42:Df K "_law_without" fS f42 r42)
  (d43:Df K "_law_calmed" cX f43 r43)
  (d44:Df K "_law_is_beside" my f44 r44)
  (d45:Df K "_law_are_round" gI f45 r45)
  (d46:Df K "_law_said" uC f46 r46)
  (d47:Df K "_law_line_of" jv f47 r47)
  (d48:Df K "_law_with_reading" mh f48 r48)
  (d49:Df K "_law_none" nX f49 r49)
  (d50:Df K "_law_by_step" mw f50 r50)
  (d51:Df K "_law_way" iX f51 r51)
  (d52:Df K "_law_other" fW f52 r52)
  (d53:Df K "law" fg f53 r53)
  (z1:PySem.W.nsIn K mainGlobals "isinstance"=some none)
  (z2:PySem.W.nsIn K mainGlobals "int"=some none)
  (z3:PySem.W.nsIn K mainGlobals "bool"=some none)
  (z4:PySem.W.nsIn K mainGlobals "str"=some none)
  (z5:PySem.W.nsIn K mainGlobals "tuple"=some none)
  (z6:PySem.W.nsIn K mainGlobals "len"=some none)
  (z7:PySem.W.nsIn K mainGlobals "all"=some none)
  (z8:PySem.W.nsIn K mainGlobals "range"=some none)
  (z9:PySem.W.nsIn K mainGlobals "max"=some none)
  (z10:PySem.W.nsIn K mainGlobals "min"=some none)
  (z11:PySem.W.nsIn K mainGlobals "list"=some none)
  (z12:PySem.W.nsIn K mainGlobals "sum"=some none)
  (z13:PySem.W.nsIn K mainGlobals "zip"=some none)
  (z14:PySem.W.nsIn K mainGlobals "enumerate"=some none)
  (z15:PySem.W.nsIn K mainGlobals "any"=some none)
  (aI:PySem.W.nsIn K mainGlobals "INNER_COUNTS"=some (some (.ref aD)))
  (lD:K.lookup aD=some ⟨.type "dict",none,.dict #[⟨h1,.str "plus" t1,.int 2 u1⟩,⟨h2,.str "less" t2,.int 2 u2⟩,⟨h3,.str "times" t3,.int 2 u3⟩,⟨h4,.str "least" t4,.int 2 u4⟩,⟨h5,.str "most" t5,.int 2 u5⟩,⟨h6,.str "when" t6,.int 3 u6⟩] ep,#[]⟩)
  (e1:h1=hashStr w "plus")    (e2:h2=hashStr w "less")    (e3:h3=hashStr w "times")    (e4:h4=hashStr w "least")    (e5:h5=hashStr w "most")    (e6:h6=hashStr w "when")
  (nD:(aD==sysModules)=false)
  (aQ:PySem.W.nsIn K mainGlobals "READINGS"=some (some (.ref aR))) (lR:K.lookup aR=some ⟨.type "tuple",odR,.seq #[.str "own" w1,.str "part" w2] mR,slR⟩):
  ∃ fd:FuncData,(∀ (s:Shared) (v:Value),BindsTo s fd ⟨[v],[]⟩ [("script",v)])/\ ∀ base:Heap,K.In base->base.Ns mainGlobals mg->FnOk l.prog w K mg base CX0 18 fa fd ["script"] (nS K):=by
 have e:=hfa.symm.trans (d53.m X G)
 cases e
 have b1:=d1.F.binds (ps:=["formula"]) fun _ _ _ _ _ _ us hl=>by obtain ⟨x,rfl⟩:=cc hl;rfl
 have m1:=d1.m X G
 have b2:=d2.F.binds (ps:=["formula"]) fun _ _ _ _ _ _ us hl=>by obtain ⟨x,rfl⟩:=cc hl;rfl
 have m2:=d2.m X G
 have b3:=d3.F.binds (ps:=["formula"]) fun _ _ _ _ _ _ us hl=>by obtain ⟨x,rfl⟩:=cc hl;rfl
 have m3:=d3.m X G
 have b4:=d4.F.binds (ps:=["book"]) fun _ _ _ _ _ _ us hl=>by obtain ⟨x,rfl⟩:=cc hl;rfl
 have m4:=d4.m X G
 have b5:=d5.F.binds (ps:=["book"]) fun _ _ _ _ _ _ us hl=>by obtain ⟨x,rfl⟩:=cc hl;rfl
 have m5:=d5.m X G
 have b6:=d6.F.binds (ps:=["form"]) fun _ _ _ _ _ _ us hl=>by obtain ⟨x,rfl⟩:=cc hl;rfl
 have m6:=d6.m X G
 have b7:=d7.F.binds (ps:=["form"]) fun _ _ _ _ _ _ us hl=>by obtain ⟨x,rfl⟩:=cc hl;rfl
 have m7:=d7.m X G
 have b8:=d8.F.binds (ps:=["form"]) fun _ _ _ _ _ _ us hl=>by obtain ⟨x,rfl⟩:=cc hl;rfl
 have m8:=d8.m X G
 have b9:=d9.F.binds (ps:=["form"]) fun _ _ _ _ _ _ us hl=>by obtain ⟨x,rfl⟩:=cc hl;rfl
 have m9:=d9.m X G
 have b10:=d10.F.binds (ps:=["reading"]) fun _ _ _ _ _ _ us hl=>by obtain ⟨x,rfl⟩:=cc hl;rfl
 have m10:=d10.m X G
 have b11:=d11.F.binds (ps:=["form","at"]) fun _ _ _ _ _ _ us hl=>by obtain ⟨x,y,rfl⟩:=cE hl;rfl
 have m11:=d11.m X G
 have b12:=d12.F.binds (ps:=["book"]) fun _ _ _ _ _ _ us hl=>by obtain ⟨x,rfl⟩:=cc hl;rfl
 have m12:=d12.m X G
 have b13:=d13.F.binds (ps:=["book","before"]) fun _ _ _ _ _ _ us hl=>by obtain ⟨x,y,rfl⟩:=cE hl;rfl
 have m13:=d13.m X G
 have b14:=d14.F.binds (ps:=["book","sizes"]) fun _ _ _ _ _ _ us hl=>by obtain ⟨x,y,rfl⟩:=cE hl;rfl
 have m14:=d14.m X G
 have b15:=d15.F.binds (ps:=["form","sizes"]) fun _ _ _ _ _ _ us hl=>by obtain ⟨x,y,rfl⟩:=cE hl;rfl
 have m15:=d15.m X G
 have b16:=d16.F.binds (ps:=["book"]) fun _ _ _ _ _ _ us hl=>by obtain ⟨x,rfl⟩:=cc hl;rfl
 have m16:=d16.m X G
 have b17:=d17.F.binds (ps:=["book","steps"]) fun _ _ _ _ _ _ us hl=>by obtain ⟨x,y,rfl⟩:=cE hl;rfl
 have m17:=d17.m X G
 have b18:=d18.F.binds (ps:=["book"]) fun _ _ _ _ _ _ us hl=>by obtain ⟨x,rfl⟩:=cc hl;rfl
 have m18:=d18.m X G
 have b19:=d19.F.binds (ps:=["link"]) fun _ _ _ _ _ _ us hl=>by obtain ⟨x,rfl⟩:=cc hl;rfl
 have m19:=d19.m X G
 have b20:=d20.F.binds (ps:=["link"]) fun _ _ _ _ _ _ us hl=>by obtain ⟨x,rfl⟩:=cc hl;rfl
 have m20:=d20.m X G
 have b21:=d21.F.binds (ps:=["form","key"]) fun _ _ _ _ _ _ us hl=>by obtain ⟨x,y,rfl⟩:=cE hl;rfl
 have m21:=d21.m X G
 have b22:=d22.F.binds (ps:=["link"]) fun _ _ _ _ _ _ us hl=>by obtain ⟨x,rfl⟩:=cc hl;rfl
 have m22:=d22.m X G
 have b23:=d23.F.binds (ps:=["one","other"]) fun _ _ _ _ _ _ us hl=>by obtain ⟨x,y,rfl⟩:=cE hl;rfl
 have m23:=d23.m X G
 have b24:=d24.F.binds (ps:=["script","k"]) fun _ _ _ _ _ _ us hl=>by obtain ⟨x,y,rfl⟩:=cE hl;rfl
 have m24:=d24.m X G
 have b25:=d25.F.binds (ps:=["script","k"]) fun _ _ _ _ _ _ us hl=>by obtain ⟨x,y,rfl⟩:=cE hl;rfl
 have m25:=d25.m X G
 have b26:=d26.F.binds (ps:=["tape","many"]) fun _ _ _ _ _ _ us hl=>by obtain ⟨x,y,rfl⟩:=cE hl;rfl
 have m26:=d26.m X G
 have b27:=d27.F.binds (ps:=["tape","many"]) fun _ _ _ _ _ _ us hl=>by obtain ⟨x,y,rfl⟩:=cE hl;rfl
 have m27:=d27.m X G
 have b28:=d28.F.binds (ps:=["tape"]) fun _ _ _ _ _ _ us hl=>by obtain ⟨x,rfl⟩:=cc hl;rfl
 have m28:=d28.m X G
 have b29:=d29.F.binds (ps:=["tape","readings"]) fun _ _ _ _ _ _ us hl=>by obtain ⟨x,y,rfl⟩:=cE hl;rfl
 have m29:=d29.m X G
 have b30:=d30.F.binds (ps:=["tape","readings"]) fun _ _ _ _ _ _ us hl=>by obtain ⟨x,y,rfl⟩:=cE hl;rfl
 have m30:=d30.m X G
 have b31:=d31.F.binds (ps:=["tape","few"]) fun _ _ _ _ _ _ us hl=>by obtain ⟨x,y,rfl⟩:=cE hl;rfl
 have m31:=d31.m X G
 have b32:=d32.F.binds (ps:=["sorts","own","parts"]) fun _ _ _ _ _ _ us hl=>by obtain ⟨x,y,z,rfl⟩:=nz hl;rfl
 have m32:=d32.m X G
 have b33:=d33.F.binds (ps:=["sorts","own","parts","mode","j"]) fun _ _ _ _ _ _ us hl=>by obtain ⟨x,y,z,u,v,rfl⟩:=wj hl;rfl
 have m33:=d33.m X G
 have b34:=d34.F.binds (ps:=["tape","sorts","name","own","parts","mode"]) fun _ _ _ _ _ _ us hl=>by obtain ⟨x,y,z,u,v,w,rfl⟩:=zj hl;rfl
 have m34:=d34.m X G
 have b35:=d35.F.binds (ps:=["script","start","few"]) fun _ _ _ _ _ _ us hl=>by obtain ⟨x,y,z,rfl⟩:=nz hl;rfl
 have m35:=d35.m X G
 have b36:=d36.F.binds (ps:=["book"]) fun _ _ _ _ _ _ us hl=>by obtain ⟨x,rfl⟩:=cc hl;rfl
 have m36:=d36.m X G
 have b37:=d37.F.binds (ps:=["formula"]) fun _ _ _ _ _ _ us hl=>by obtain ⟨x,rfl⟩:=cc hl;rfl
 have m37:=d37.m X G
 have b38:=d38.F.binds (ps:=["book"]) fun _ _ _ _ _ _ us hl=>by obtain ⟨x,rfl⟩:=cc hl;rfl
 have m38:=d38.m X G
 have b39:=d39.F.binds (ps:=["book"]) fun _ _ _ _ _ _ us hl=>by obtain ⟨x,rfl⟩:=cc hl;rfl
 have m39:=d39.m X G
 have b40:=d40.F.binds (ps:=["downs","form","at","word","one"]) fun _ _ _ _ _ _ us hl=>by obtain ⟨x,y,z,u,v,rfl⟩:=wj hl;rfl
 have m40:=d40.m X G
 have b41:=d41.F.binds (ps:=["book"]) fun _ _ _ _ _ _ us hl=>by obtain ⟨x,rfl⟩:=cc hl;rfl
 have m41:=d41.m X G
 have b42:=d42.F.binds (ps:=["formula","some"]) fun _ _ _ _ _ _ us hl=>by obtain ⟨x,y,rfl⟩:=cE hl;rfl
 have m42:=d42.m X G
 have b43:=d43.F.binds (ps:=["tape","book","often"]) fun _ _ _ _ _ _ us hl=>by obtain ⟨x,y,z,rfl⟩:=nz hl;rfl
 have m43:=d43.m X G
 have b44:=d44.F.binds (ps:=["downs","form","at","one"]) fun _ _ _ _ _ _ us hl=>by obtain ⟨x,y,z,u,rfl⟩:=wm hl;rfl
 have m44:=d44.m X G
 have b45:=d45.F.binds (ps:=["by_step","steps"]) fun _ _ _ _ _ _ us hl=>by obtain ⟨x,y,rfl⟩:=cE hl;rfl
 have m45:=d45.m X G
 have b46:=d46.F.binds (ps:=["found","due"]) fun _ _ _ _ _ _ us hl=>by obtain ⟨x,y,rfl⟩:=cE hl;rfl
 have m46:=d46.m X G
 have b47:=d47.F.binds (ps:=["tape","rules","at"]) fun _ _ _ _ _ _ us hl=>by obtain ⟨x,y,z,rfl⟩:=nz hl;rfl
 have m47:=d47.m X G
 have b48:=d48.F.binds (ps:=["formula","one"]) fun _ _ _ _ _ _ us hl=>by obtain ⟨x,y,rfl⟩:=cE hl;rfl
 have m48:=d48.m X G
 have b49:=d49.F.binds (ps:=[]) fun _ _ _ _ _ _ us hl=>by cases zk hl;rfl
 have m49:=d49.m X G
 have b50:=d50.F.binds (ps:=["edges"]) fun _ _ _ _ _ _ us hl=>by obtain ⟨x,rfl⟩:=cc hl;rfl
 have m50:=d50.m X G
 have b51:=d51.F.binds (ps:=["tape","edges"]) fun _ _ _ _ _ _ us hl=>by obtain ⟨x,y,rfl⟩:=cE hl;rfl
 have m51:=d51.m X G
 have b52:=d52.F.binds (ps:=["tape","book","edges","way"]) fun _ _ _ _ _ _ us hl=>by obtain ⟨x,y,z,u,rfl⟩:=wm hl;rfl
 have m52:=d52.m X G
 have Gb0:Gb mg:=⟨PySem.W.mg_none_of X G z1,PySem.W.mg_none_of X G z2,PySem.W.mg_none_of X G z3,PySem.W.mg_none_of X G z4,PySem.W.mg_none_of X G z5,PySem.W.mg_none_of X G z6,PySem.W.mg_none_of X G z7,PySem.W.mg_none_of X G z8,PySem.W.mg_none_of X G z9,PySem.W.mg_none_of X G z10⟩
 have D:xH l.prog w K aD lI:=xw lD e1 e2 e3 e4 e5 e6 nD
 have mI:=PySem.W.mg_of X G aI
 have mQ:=PySem.W.mg_of X G aQ
 have hR:=uH lR
 have v11:=PySem.W.mg_none_of X G z11
 have v12:=PySem.W.mg_none_of X G z12
 have v13:=PySem.W.mg_none_of X G z13
 have v14:=PySem.W.mg_none_of X G z14
 have v15:=PySem.W.mg_none_of X G z15
 have F53:=d53.F
 obtain ⟨_,_,kV,dc,pm,an,cd,ct,_,rfl,_,_⟩:=d53.F.ex
 refine ⟨PySem.W.fnOf "law" "law" (iJ fg) (bV fg) (ag fg) .none kV dc pm an cd ct,fun s v=>.of_eq rfl,fun base _ _=>?_⟩
 have g_inner:=vo (base:=base) d1.F mI D
 have g_tuples:=sK d2.F g_inner b1 d1.k m1
 have g_reads:=vc d3.F v11 mQ hR g_tuples b2 d2.k m2
 have g_sortsOf:=pZ (P:=l.prog) (w:=w) (mg:=mg) (base:=base) d4.F
 have g_forms:=qd (P:=l.prog) (w:=w) (mg:=mg) (base:=base) d5.F
 have g_sortf:=kw (P:=l.prog) (w:=w) (mg:=mg) (base:=base) d6.F
 have g_parts:=qc (P:=l.prog) (w:=w) (mg:=mg) (base:=base) d7.F
 have g_rules:=qb (P:=l.prog) (w:=w) (mg:=mg) (base:=base) d8.F
 have g_keys:=sW d9.F g_rules b8 d8.k m8
 have g_keyOf:=vn (P:=l.prog) (w:=w) (mg:=mg) (base:=base) d10.F
 have g_sortAt:=sL d11.F g_sortf b6 d6.k m6 g_parts b7 d7.k m7
 have g_sizeBy:=sM d15.F v12 g_parts b7 d7.k m7
 have g_grownF:=sY d14.F Gb0 g_forms b5 d5.k m5 g_parts b7 d7.k m7
 have g_oneRound:=ox d13.F Gb0 g_sortsOf b4 d4.k m4 g_grownF b14 d14.k m14 g_sortf b6 d6.k m6 g_sizeBy b15 d15.k m15
 have g_leastS:=sU d12.F g_oneRound b13 d13.k m13
 have g_thatLive:=ow d16.F g_grownF b14 d14.k m14 g_leastS b12 d12.k m12
 have g_wAt:=yF d21.F g_sortAt b11 d11.k m11
 have g_wTold:=fun bk=>uZ (bk:=bk) d19.F g_wAt b21 d21.k m21
 have g_wRead:=fun bk=>u0 (bk:=bk) d20.F g_wAt b21 d21.k m21
 have g_there:=fun bk=>u7 (bk:=bk) (P:=l.prog) (w:=w) (mg:=mg) (base:=base) d23.F
 have g_isLate:=fun bk=>sX (bk:=bk) d22.F g_keys b9 d9.k m9
 have g_links:=ve d18.F v14 g_thatLive b16 d16.k m16 g_rules b8 d8.k m8 g_reads b3 d3.k m3 g_keyOf b10 d10.k m10
 have g_stuck:=u8 d17.F Gb0 v15 v13 g_links b18 d18.k m18 g_wTold b19 d19.k m19 g_wRead b20 d20.k m20 g_isLate b22 d22.k m22 g_there b23 d23.k m23
 have g_cell:=wV (P:=l.prog) (w:=w) (base:=base) d24.F Gb0
 have g_tape:=wS d25.F g_cell b24 d24.k m24
 have g_digit:=vq (P:=l.prog) (w:=w) (mg:=mg) (base:=base) d26.F
 have g_names:=sP d27.F Gb0 g_digit b26 d26.k m26
 have g_number:=sN d28.F g_digit b26 d26.k m26
 have g_leaf:=fun ρ=>vh (ρ:=ρ) d29.F Gb0 g_digit b26 d26.k m26 g_number b28 d28.k m28
 have g_formula:=fun ρ=>oA d30.F Gb0 g_digit b26 d26.k m26 (g_leaf ρ) b29 d29.k m29
 have g_sorts:=va d31.F Gb0 g_digit b26 d26.k m26 g_names b27 d27.k m27
 have g_targets:=pY (P:=l.prog) (w:=w) (mg:=mg) (base:=base) d32.F Gb0
 have g_lreadings:=mZ d33.F Gb0 g_targets b32 d32.k m32
 have g_lform:=vf d34.F Gb0 g_targets b32 d32.k m32 g_lreadings b33 d33.k m33 g_formula b30 d30.k m30
 have g_book:=wW d35.F Gb0 g_digit b26 d26.k m26 g_lform b34 d34.k m34 g_tape b25 d25.k m25 g_sorts b31 d31.k m31 g_names b27 d27.k m27
 have g_least:=vg (P:=l.prog) (w:=w) (mg:=mg) (base:=base) d36.F Gb0 v12
 have g_lread:=oy (P:=l.prog) (w:=w) (mg:=mg) (base:=base) d37.F b37 m37 15
 have g_lLive:=vj d38.F Gb0 g_least b36 d36.k m36
 have g_lDowns:=sV (P:=l.prog) (w:=w) (mg:=mg) (base:=base) d39.F
 have g_lLate:=fun bk=>vm (bk:=bk) (P:=l.prog) (w:=w) (mg:=mg) (base:=base) d40.F
 have g_beside:=fun bk=>tm (bk:=bk) (P:=l.prog) (w:=w) (mg:=mg) (base:=base) d44.F
 have g_edges:=vp d41.F Gb0 g_lDowns b39 d39.k m39 g_lLive b38 d38.k m38 g_lread b37 d37.k m37 g_lLate b40 d40.k m40 g_beside b44 d44.k m44
 have g_byStep:=tf (P:=l.prog) (w:=w) (mg:=mg) (base:=base) d50.F
 have g_round:=fun bk=>vb (bk:=bk) (P:=l.prog) (w:=w) (mg:=mg) (base:=base) d45.F Gb0
 have g_said:=wT (P:=l.prog) (w:=w) (mg:=mg) (base:=base) d46.F Gb0
 have g_without:=j3 (P:=l.prog) (w:=w) (mg:=mg) (base:=base) d42.F Gb0 b42 m42 15
 have g_withRd:=sJ (P:=l.prog) (w:=w) (mg:=mg) (base:=base) d48.F
 have g_lineOf:=sS d47.F Gb0 g_digit b26 d26.k m26
 have g_calmed:=sZ d43.F Gb0 g_digit b26 d26.k m26 g_withRd b48 d48.k m48 g_lread b37 d37.k m37 g_without b42 d42.k m42 g_lLate b40 d40.k m40 g_beside b44 d44.k m44 g_lineOf b47 d47.k m47 g_lDowns b39 d39.k m39
 have g_way:=yE d51.F Gb0 g_digit b26 d26.k m26
 have g_other:=vd d52.F Gb0 g_digit b26 d26.k m26
 have g_none:=wU (P:=l.prog) (w:=w) (mg:=mg) (base:=base) d49.F
 exact yG F53 Gb0 v11 g_book b35 d35.k m35 g_tape b25 d25.k m25 g_digit b26 d26.k m26 g_calmed b43 d43.k m43 g_edges b41 d41.k m41 g_byStep b50 d50.k m50 g_stuck b17 d17.k m17 g_none b49 d49.k m49 g_way b51 d51.k m51 g_other b52 d52.k m52 g_said b46 d46.k m46 (FnOk.exA g_round) b45 d45.k m45
theorem walk {l:PySem.W.OpenLaw} {q:Program} {loose:List Str} {XP:(Str->Option Value)->Heap->Prop} {YP:World->Heap->Prop} {d:DefRec} {K:Params->PySem.W.Frag} (hn:l.most=some 63) (hdf:d.params.defaults=[])
  (hY: ∀ (w:World) (h:Heap),YP w h->(K w.params).In h)
  (F: ∀ (w:World) (mg:Str->Option Value) (fa:Addr) (h:Heap),(K w.params).In h->h.Ns mainGlobals mg->mg d.name=some (.ref fa)->
   ∃ fd:FuncData,(∀ (s:Shared) (u:Value),BindsTo s fd ⟨[u],[]⟩ [("script",u)])/\ ∀ base:Heap,(K w.params).In base->base.Ns mainGlobals mg->FnOk l.prog w (K w.params) mg base CX0 18 fa fd ["script"] (nS (K w.params))):
  PySem.W.WalkO q loose XP YP l.row.toRowW d [] (fun f vs=>PySem.call f vs):=
 L2.walk_of (n:=63) (k:=18) (x:="script") (CX:=fun _=>CX0) (sp:=fun w=>nS (K w.params)) hn (by decide) hdf ⟨rfl,by decide,by decide⟩ hY F (fun _ _ a ns hl _ hS=>⟨a,ns,rfl,hS,hl,fun _=>rfl⟩) fun _ _ _ _ _ z=>z
end My
open PySem PySem.W PyProof.Rows
set_option maxRecDepth 100000 in
set_option maxHeartbeats 0 in
theorem PySem.Challenge.cw_boughworth_k44_steps_looked_at_holds : PySem.Challenge.rw_boughworth_k44_steps_looked_at.Holds := by
 refine My.parts.c My.parts.a0 My.parts.a1 My.parts.e0 My.parts.e1 My.parts.b0 My.parts.b1 ?_
 delta My.parts
 dsimp only
 k_fill
 refine My.walk (l:=PySem.Challenge.rw_boughworth_k44_steps_looked_at) rfl rfl (fun w h Y=>PySem.W.kIn_of Y) ?F
 case F=>
  intro w mg fa h KX G hmg
  refine' My.all_mk KX G hmg ?d1 ?d2 ?d3 ?d4 ?d5 ?d6 ?d7 ?d8 ?d9 ?d10 ?d11 ?d12 ?d13 ?d14 ?d15 ?d16 ?d17 ?d18 ?d19 ?d20 ?d21 ?d22 ?d23 ?d24 ?d25 ?d26 ?d27 ?d28 ?d29 ?d30 ?d31 ?d32 ?d33 ?d34 ?d35 ?d36 ?d37 ?d38 ?d39 ?d40 ?d41 ?d42 ?d43 ?d44 ?d45 ?d46 ?d47 ?d48 ?d49 ?d50 ?d51 ?d52 ?d53 ?z1 ?z2 ?z3 ?z4 ?z5 ?z6 ?z7 ?z8 ?z9 ?z10 ?z11 ?z12 ?z13 ?z14 ?z15 ?aI ?lD ?e1 ?e2 ?e3 ?e4 ?e5 ?e6 ?nD ?aQ ?lR
  (case d1=>exact My.Df.of (by k_is) (by k_is) (by k_is) (by k_is))
  (case d2=>exact My.Df.of (by k_is) (by k_is) (by k_is) (by k_is))
  (case d3=>exact My.Df.of (by k_is) (by k_is) (by k_is) (by k_is))
  (case d4=>exact My.Df.of (by k_is) (by k_is) (by k_is) (by k_is))
  (case d5=>exact My.Df.of (by k_is) (by k_is) (by k_is) (by k_is))
  (case d6=>exact My.Df.of (by k_is) (by k_is) (by k_is) (by k_is))
  (case d7=>exact My.Df.of (by k_is) (by k_is) (by k_is) (by k_is))
  (case d8=>exact My.Df.of (by k_is) (by k_is) (by k_is) (by k_is))
  (case d9=>exact My.Df.of (by k_is) (by k_is) (by k_is) (by k_is))
  (case d10=>exact My.Df.of (by k_is) (by k_is) (by k_is) (by k_is))
  (case d11=>exact My.Df.of (by k_is) (by k_is) (by k_is) (by k_is))
  (case d12=>exact My.Df.of (by k_is) (by k_is) (by k_is) (by k_is))
  (case d13=>exact My.Df.of (by k_is) (by k_is) (by k_is) (by k_is))
  (case d14=>exact My.Df.of (by k_is) (by k_is) (by k_is) (by k_is))
  (case d15=>exact My.Df.of (by k_is) (by k_is) (by k_is) (by k_is))
  (case d16=>exact My.Df.of (by k_is) (by k_is) (by k_is) (by k_is))
  (case d17=>exact My.Df.of (by k_is) (by k_is) (by k_is) (by k_is))
  (case d18=>exact My.Df.of (by k_is) (by k_is) (by k_is) (by k_is))
  (case d19=>exact My.Df.of (by k_is) (by k_is) (by k_is) (by k_is))
  (case d20=>exact My.Df.of (by k_is) (by k_is) (by k_is) (by k_is))
  (case d21=>exact My.Df.of (by k_is) (by k_is) (by k_is) (by k_is))
  (case d22=>exact My.Df.of (by k_is) (by k_is) (by k_is) (by k_is))
  (case d23=>exact My.Df.of (by k_is) (by k_is) (by k_is) (by k_is))
  (case d24=>exact My.Df.of (by k_is) (by k_is) (by k_is) (by k_is))
  (case d25=>exact My.Df.of (by k_is) (by k_is) (by k_is) (by k_is))
  (case d26=>exact My.Df.of (by k_is) (by k_is) (by k_is) (by k_is))
  (case d27=>exact My.Df.of (by k_is) (by k_is) (by k_is) (by k_is))
  (case d28=>exact My.Df.of (by k_is) (by k_is) (by k_is) (by k_is))
  (case d29=>exact My.Df.of (by k_is) (by k_is) (by k_is) (by k_is))
  (case d30=>exact My.Df.of (by k_is) (by k_is) (by k_is) (by k_is))
  (case d31=>exact My.Df.of (by k_is) (by k_is) (by k_is) (by k_is))
  (case d32=>exact My.Df.of (by k_is) (by k_is) (by k_is) (by k_is))
  (case d33=>exact My.Df.of (by k_is) (by k_is) (by k_is) (by k_is))
  (case d34=>exact My.Df.of (by k_is) (by k_is) (by k_is) (by k_is))
  (case d35=>exact My.Df.of (by k_is) (by k_is) (by k_is) (by k_is))
  (case d36=>exact My.Df.of (by k_is) (by k_is) (by k_is) (by k_is))
  (case d37=>exact My.Df.of (by k_is) (by k_is) (by k_is) (by k_is))
  (case d38=>exact My.Df.of (by k_is) (by k_is) (by k_is) (by k_is))
  (case d39=>exact My.Df.of (by k_is) (by k_is) (by k_is) (by k_is))
  (case d40=>exact My.Df.of (by k_is) (by k_is) (by k_is) (by k_is))
  (case d41=>exact My.Df.of (by k_is) (by k_is) (by k_is) (by k_is))
  (case d42=>exact My.Df.of (by k_is) (by k_is) (by k_is) (by k_is))
  (case d43=>exact My.Df.of (by k_is) (by k_is) (by k_is) (by k_is))
  (case d44=>exact My.Df.of (by k_is) (by k_is) (by k_is) (by k_is))
  (case d45=>exact My.Df.of (by k_is) (by k_is) (by k_is) (by k_is))
  (case d46=>exact My.Df.of (by k_is) (by k_is) (by k_is) (by k_is))
  (case d47=>exact My.Df.of (by k_is) (by k_is) (by k_is) (by k_is))
  (case d48=>exact My.Df.of (by k_is) (by k_is) (by k_is) (by k_is))
  (case d49=>exact My.Df.of (by k_is) (by k_is) (by k_is) (by k_is))
  (case d50=>exact My.Df.of (by k_is) (by k_is) (by k_is) (by k_is))
  (case d51=>exact My.Df.of (by k_is) (by k_is) (by k_is) (by k_is))
  (case d52=>exact My.Df.of (by k_is) (by k_is) (by k_is) (by k_is))
  (case d53=>exact My.Df.of (by k_is) (by k_is) (by k_is) (by k_is))
  (case z1=>k_is)
  (case z2=>k_is)
  (case z3=>k_is)
  (case z4=>k_is)
  (case z5=>k_is)
  (case z6=>k_is)
  (case z7=>k_is)
  (case z8=>k_is)
  (case z9=>k_is)
  (case z10=>k_is)
  (case z11=>k_is)
  (case z12=>k_is)
  (case z13=>k_is)
  (case z14=>k_is)
  (case z15=>k_is)
  (case aI=>k_is)
  (case lD=>k_is)
  (case e1=>first | rfl | k_is)
  (case e2=>first | rfl | k_is)
  (case e3=>first | rfl | k_is)
  (case e4=>first | rfl | k_is)
  (case e5=>first | rfl | k_is)
  (case e6=>first | rfl | k_is)
  (case nD=>first | rfl | decide | k_is)
  (case aQ=>k_is)
  (case lR=>k_is)
