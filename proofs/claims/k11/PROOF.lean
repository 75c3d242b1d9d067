import PyProof.Rows.All
import Wide.All
import OpenK.AllK
import Wide.FinOn
import Lean
import PyProof.EqAt
import PyProof.EqKinds
import PyProof.TupleCall
import PyProof.TupleKey
import PyProof.DictKeyH
import PyProof.SumWalk
import KE.KDictList
import PyProof.NeKinds
import PyProof.Draws
import PyProof.ZipIter
import PyProof.ListMulRoad
import KE.RegKIsAll
import OpenK.KOwn
import PyProof.EnumMake
import PyProof.Rows.StrNews
import Flt.Sum
import PyProof.FitsBits
import PyProof.DictTable
import KE.KItemsList
import PyProof.StrCalls6
import PyProof.ToksMono
import PyProof.StrLawsReplace
import PyProof.StrLawsJoin
import PyProof.Rows.StrSplitJoin
import PyProof.DictValues
import PyProof.DictWalks
import KE.KRevIter
import PyProof.DictItems
import KE.KPairComp
import PyProof.MinMaxWalk
import PyProof.SeqI3
import PyProof.WalkInts
import KE.KLam
import KE.IntBitsLaws
import PySem.Challenge.RW_boughworth_k11_books_made_straight
set_option Elab.async false
set_option linter.all false
set_option bootstrap.genMatcherCode false
set_option compiler.extract_closed false
set_option genSizeOfSpec false
set_option maxRecDepth 100000
set_option maxHeartbeats 4000000
namespace My
open PySem PySem.W PySem.Calls PyProof.Rows
theorem with_hl {P R Q:Prop} (hl:P) (hc:R) (main:Q):Q:=main
structure Parts (Q:Prop):Type where
 {P1:Prop}
 {P2:Prop}
 {P3:Prop}
 {P4:Prop}
 {P5:Prop}
 {P6:Prop}
 {W:Prop}
 a0:P1
 a1:P2
 e0:P3
 e1:P4
 b0:P5
 b1:P6
 c:P1->P2->P3->P4->P5->P6->W->Q
noncomputable def yt (_:Params):Obj:={cls:=Value.type "tuple",data:=Data.seq #[]}
noncomputable def yr (_:Params):Obj:={cls:=Value.none,data:=Data.fields #[]}
noncomputable def yq (_:Params):Obj:={cls:=Value.type "code",data:=Data.fields #[Value.str (Str.ofString "<module>") 182,Value.str (Str.ofString "<module>") 183,Value.str (Str.ofString "/claim/cut.py") 184,Value.int 1 0,Value.int 0 0,Value.int 0 0,Value.int 0 0,Value.int 0 0,Value.ref 11,Value.bool false,Value.int 181 0,Value.ref 12,Value.none,Value.none,Value.none,Value.none,Value.int 185 0,Value.int 1 0,Value.str (Str.ofString "/claim/cut.py") 186]}
noncomputable def yp (_:Params):Obj:={cls:=Value.type "frame",slots:= #[some (Value.ref 13),some (Value.ref 3),some (Value.ref 3),none,some (Value.str (Str.ofString "__main__") 164),none,some (Value.ref 0)]}
noncomputable def xI (P:Params):BT:=(BT.node (boot_o_0 P) (BT.node (boot_o_1 P) (BT.node (boot_o_3 P) (BT.node (boot_o_7 P) BT.nil BT.nil) (BT.node (yt P) BT.nil BT.nil)) (BT.node (boot_o_5 P) (BT.node (boot_o_9 P) BT.nil BT.nil) (BT.node (yq P) BT.nil BT.nil))) (BT.node (boot_o_2 P) (BT.node (boot_o_4 P) (BT.node (boot_o_8 P) BT.nil BT.nil) (BT.node (yr P) BT.nil BT.nil)) (BT.node (boot_o_6 P) (BT.node (boot_o_10 P) BT.nil BT.nil) (BT.node (yp P) BT.nil BT.nil))))
noncomputable def wK (p:Program):Env:={scope:=p.main.scope,locals:=mainNs,globals:=mainNs,cells:=[],code:=.ref 13,frame:=some 14}
noncomputable abbrev hC (p:Program):Code:=.body (behindTheImports p) (wK p)
noncomputable def hSt (w:World) (os:OsState):SharedT:=⟨xI w.params,15,{},#[],{},187,os⟩
abbrev mx:Pos:=⟨0,0,0,0⟩
noncomputable abbrev xJ (p:Program):Thread:=piecesOf (behindTheImports p) (wK p) (hC p) mx [topFrame mx]
noncomputable abbrev tT (p:Program) (n:Nat) (w:World) (os:OsState):Option (Flow×SharedT×Code×Pos):=PySem.W.Fast.tw10110043849684766642 PySem.W.Fast.tw14364793385576792824 p w 11 (some (.ref 6)) 1 n (hSt w os) (xJ p)
theorem yu {p:Program} {w:World} {n₀:Nat} {ann:Option Value} (s:Shared) (c:Code) (pos:Pos):topRun treeTable p w n₀ ann 2 s ⟨doneF .next,c,pos,[topFrame mx]⟩=some s:=by
 obtain ⟨h,g,d,t,o⟩:=s
 kernel_rfl
theorem xK (P:Params):((boot_heap P).isNs mainGlobals&&(#[]:Array GenState).size==0,(boot_heap P).objs.size,(boot_heap P).nsMap mainGlobals "__annotations__")=(true,11,some (.ref 6)):=by kernel_rfl
theorem left_of {p q:Program} {loose:List Str} {Xt:Shared->Bool} {α:Type} {Yf:Shared->α} {Ya:World->α} {N n:Nat} {g0:Bool} {posE:Pos}
  (e:opening p=plainProg p.main.scope.names) (hN:Nat.ble 600 N=true) (f: ∀ s,fenceModules? p s=some s) (le:Nat.ble (12+ (1+ (n+2))) N=true)
  (pre: ∀ (w:World) (os:OsState),topGo treeTable p w 11 (some (.ref 6)) 12 ⟨boot_heap w.params,#[],boot_drawn,boot_toks,os⟩ (topStub p)=some ((hSt w os).abs,⟨denote treeTable (hC p),hC p,mx,[topFrame mx]⟩))
  (block: ∀ (w:World) (os:OsState),segRun treeTable p w 11 (some (.ref 6)) 1 1 (hSt w os).abs (blockOf (behindTheImports p) (wK p) (hC p) mx [topFrame mx])=some (.next,(hSt w os).abs,hC p,mx))
  (runA: ∀ (w:World) (os:OsState),(tT p n w os).map (fun r=>(r.1,r.2.2,(staticsOk (importedModules p.main.body) (boot_heap w.params) r.2.1.abs.heap&&namesBound p r.2.1.abs.heap&&gensDone r.2.1.abs&&laidKept (boot_heap w.params) r.2.1.abs.heap),(openSeen q loose (importedModules p.main.body) Xt g0 r.2.1.abs).1,Yf r.2.1.abs))=some (.next,(hC p,posE),true,(openGood q loose).1,Ya w))
  (runE: ∀ (w:World) (os:OsState),(tT p n w os).map (fun r=>((openSeen q loose (importedModules p.main.body) Xt g0 r.2.1.abs).2.1,(openSeen q loose (importedModules p.main.body) Xt g0 r.2.1.abs).2.2.1))=some ((openGood q loose).2.1,(openGood q loose).2.2.1))
  (runB: ∀ (w:World) (os:OsState),(tT p n w os).map (fun r=>(openSeen q loose (importedModules p.main.body) Xt g0 r.2.1.abs).2.2.2)=some (openGood q loose).2.2.2):LeftO p q loose Xt Yf Ya N g0:=by
 intro w
 obtain ⟨⟨h,gs,d,k,os⟩,e1,e'⟩:=Option.map_eq_some_iff.mp (boot_open e hN f w)
 obtain ⟨rfl,rfl,rfl,rfl⟩:h=boot_heap w.params/\gs= #[]/\d=boot_drawn/\k=boot_toks:=by simpa using e'
 obtain ⟨z1,z2,z3⟩:_/\_/\_:=by simpa only [Prod.mk.injEq]using xK w.params
 have E:segRunT treeTable p w 11 (some (.ref 6)) 1 n (hSt w os) (xJ p)=tT p n w os:=by
  unfold tT
  rw [<- PySem.W.Fast.te10110043849684766642,<- PySem.W.Fast.te14364793385576792824]
 have A:=runA w os
 have B:=runB w os
 have E2:=runE w os
 obtain ⟨⟨fl,x,c,pos⟩,r1,r2⟩:=Option.map_eq_some_iff.mp A
 simp only [Prod.mk.injEq]at r2
 obtain ⟨rfl,⟨rfl,rfl⟩,l1,l2a,yb⟩:=r2
 have l2e:((openSeen q loose (importedModules p.main.body) Xt g0 x.abs).2.1,(openSeen q loose (importedModules p.main.body) Xt g0 x.abs).2.2.1)=((openGood q loose).2.1,(openGood q loose).2.2.1):=by rw [r1]at E2;exact Option.some.inj E2
 have l2d:(openSeen q loose (importedModules p.main.body) Xt g0 x.abs).2.2.2=(openGood q loose).2.2.2:=by rw [r1]at B;exact Option.some.inj B
 have l2:openSeen q loose (importedModules p.main.body) Xt g0 x.abs=openGood q loose:=Prod.ext l2a (Prod.ext (Prod.mk.inj l2e).1 (Prod.ext (Prod.mk.inj l2e).2 l2d))
 have s1:=segRun_of (E.trans r1)
 have t1:=piece_app (rest:=[]) s1 (piece_nil (yu x.abs _ _))
 rw [List.append_nil]at t1
 have t3:=go_top (pre w os) (piece_block (block w os) t1)
 have r:=topRun_mono (N- (12+ (1+ (n+2)))) _ _ _ _ t3
 rw [show 12+ (1+ (n+2)) + (N- (12+ (1+ (n+2))))=N by have:=Nat.le_of_ble_eq_true le;omega]at r
 have t:topFrom treeTable p w N ⟨boot_heap w.params,#[],boot_drawn,boot_toks,os⟩=some x.abs:=by
  unfold topFrom
  dsimp only
  rw [z1,z2,z3,r]
  show (match staticsOk _ _ _&&namesBound _ _&&gensDone _&&laidKept _ _ with | true=>_ | false=>_)=_
  rw [l1]
 unfold openEnds
 rw [e1]
 change Option.map _ (topFrom treeTable p w N _)=_
 rw [t]
 exact congrArg some (Prod.ext l2 yb)
end My
open PySem PySem.W PyProof.Rows in
set_option maxHeartbeats 0 in
noncomputable def My.parts:My.Parts PySem.Challenge.rw_boughworth_k11_books_made_straight.Holds:=by
 apply My.Parts.mk
 case c=>
  intro ha0 ha1 he0 he1 hb0 hb1 hW
  w_on;o_law
  apply My.with_hl
  case main=>
   k_head;(case hw=>w_witness2)
  case hc=>exact hW
  case hl=>
   refine My.left_of (n:=3000) (posE:=⟨332,0,336,15⟩) ?e ?hN ?f ?le ?pre ?block (byRow2 "special-get-raises" ha0 ha1) (byRow2 "special-get-raises" he0 he1) (byRow2 "special-get-raises" hb0 hb1)
   case e=>kernel_rfl
   case hN=>decide
   case f=>intro s;kernel_rfl
   case le=>decide
   case pre=>(intro w os;kernel_rfl)
   case block=>(intro w os;kernel_rfl)
 case a0=>(intro w os;kernel_rfl)
 case a1=>(intro w os;kernel_rfl)
 case e0=>(intro w os;kernel_rfl)
 case e1=>(intro w os;kernel_rfl)
 case b0=>(intro w os;kernel_rfl)
 case b1=>(intro w os;kernel_rfl)
namespace PySem
section
variable {prog:Program} {w:World} {K K2:Type} [DecidableEq K] [DecidableEq K2] {knd:KeyKind prog w K} {kn2:KeyKind prog w K2}
noncomputable def IsPairKey (knd:KeyKind prog w K) (kn2:KeyKind prog w K2) (h:Heap) (p:List K×K2) (a:Addr):Prop:=
 ∃ o items n b v,h.get? a=some o/\o.cls=.type "tuple"/\o.data=.seq items n/\items.toList=[.ref b,v]/\IsTupleKey knd h p.1 b/\kn2.is p.2 v=true
noncomputable def iX (knd:KeyKind prog w K) (kn2:KeyKind prog w K2) (p:List K×K2):Int:=reduceHash (Builtin.Tuple.tupleHashOf [tupleKeyHash knd p.1,kn2.hash p.2])
variable {A:Around} {E:Value->Shared->Prop} {s:Shared}
theorem IsPairKey.typeIs {p:List K×K2} {a:Addr} (x:IsPairKey knd kn2 s.heap p a):s.TypeIs (.ref a) "tuple":=by
 obtain ⟨o,_,_,_,_,e,c,_⟩:=x
 exact ⟨o,e,c⟩
theorem IsPairKey.inj {h:Heap} {p q:List K×K2} {a:Addr} (x:IsPairKey knd kn2 h p a) (y:IsPairKey knd kn2 h q a):p=q:=by
 obtain ⟨o,i,n,b,v,e,_,d,t,k,m⟩:=x
 obtain ⟨o',i',n',b',v',e',_,d',t',k',m'⟩:=y
 rw [e]at e';cases e'
 rw [d]at d';cases d'
 rw [t]at t'
 have h1:b=b'/\v=v':=by simpa using t'
 obtain ⟨rfl,rfl⟩:=h1
 exact Prod.ext (k.inj k') (kn2.inj _ _ _ m m')
theorem IsPairKey.keeps {h h':Heap} {p:List K×K2} {a d:Addr} {o:Obj} {es ep} (x:IsPairKey knd kn2 h p a) (ho:h.get? d=some o) (hd:o.data=.dict es ep) (hs:Heap.SameBut d h h'):IsPairKey knd kn2 h' p a:=by
 obtain ⟨o',i,n,b,v,e,c,dt,t,k,m⟩:=x
 refine ⟨o',i,n,b,v,?_,c,dt,t,k.keeps ho hd hs,m⟩
 have ne:a≠d:=fun z=>by
  subst z
  rw [ho]at e;cases e
  rw [hd]at dt;cases dt
 rw [<- e]
 exact hs.2 a ne
theorem fP {p:List K×K2} {a:Addr} {Q:Int->Shared->Prop} (hu:A.units+8<cLine) (hk:IsPairKey knd kn2 s.heap p a) (h:Q (iX knd kn2 p) {s with toks:=s.toks+ (p.1.length+1+1+1)}):
  wpAny (model prog w) A (pyHash (.ref a)) Q E s:=by
 have hT:=hk.typeIs
 obtain ⟨o,items,n,b,v,ho,_,hd,hi,hb,hv⟩:=hk
 unfold pyHash
 first | unfold pyHashByItsType | skip
 first | refine wpAny_bind (wpAny_cRoomFor_or (.inr (by lia)) ?_) | skip
 refine wpAny_bind (wpAny_specialOf hT F.slot_tuple_hash.lookup ?_)
 show wpAny _ _ (if (some (Value.builtin "tuple.__hash__")==some Value.none)=true then _ else _) Q E s
 rw [if_neg (by rw [beq_builtin_none];exact Bool.false_ne_true)]
 refine wpAny_bind (wpAny_specialOf hT F.slot_tuple_hash.lookup ?_)
 show wpAny _ _ (callSpecialIfBoundUnlessNone? (.ref a) "__hash__" _ >>= _) Q E s
 refine wpAny_bind (wpAny_callSpecialIfBoundUnlessNone?_slot hT F.slot_tuple_hash (wpAny_call_entry F.slot_tuple_hash hT F.entry_tuple_hash ?_ (F.args_tuple_hash_1 _)))
 show wpAny _ _ (Builtin.Tuple.tupleItemsOf (.ref a) >>= _) _ _ s
 refine wpAny_bind (wpAny_tupleItemsOf ho hd ?_)
 refine wpAny_bind ?_
 rw [<- Array.forIn_toList,hi,List.forIn_cons]
 refine wpAny_bind (wpAny_bind (wpAny_pyHash_tuple (by show _<cLine;simp;lia) hb ?_))
 refine wpAny_pure ?_
 show wpAny _ _ (forIn [v] #[tupleKeyHash knd p.1] _) _ _ _
 rw [List.forIn_cons]
 refine wpAny_bind (wpAny_bind (kn2.pyHash hv ?_))
 refine wpAny_pure ?_
 show wpAny _ _ (forIn [] _ _) _ _ _
 rw [List.forIn_nil]
 refine wpAny_pure ?_
 show wpAny _ _ (retInt (Builtin.Tuple.tupleHashOf [tupleKeyHash knd p.1,kn2.hash p.2])) _ _ _
 refine wpAny_ret_mkInt ?_
 generalize hz:Builtin.Tuple.tupleHashOf [tupleKeyHash knd p.1,kn2.hash p.2]=z
 show wpAny _ _ (if (decide (-(2:Int) ^63<=z)&&decide (z<2^63))=true then _ else _) Q E _
 unfold iX reduceHash at h
 rw [hz]at h
 by_cases hr:(decide (-(2:Int) ^63<=z)&&decide (z<2^63))=true
 ·rw [if_pos hr]
  rw [if_pos hr]at h
  exact wpAny_pure (by simpa [Nat.add_assoc]using h)
 ·rw [if_neg hr]
  rw [if_neg hr]at h
  exact wpAny_bind (wpAny_rule (wpAny_pure (by simpa [Nat.add_assoc]using h)))
theorem l5 (m:Nat) {ks:List K} {a:Addr} {Q:Bool->Shared->Prop} (hk:IsTupleKey knd s.heap ks a) (h:Q true s):wpAny (model prog w) A (eqIsQuiet (m+1) (.ref a)) Q E s:=by
 have hT:=hk.typeIs
 obtain ⟨o,items,n,ho,_,hd,hi⟩:=hk
 unfold eqIsQuiet
 refine wpAny_bind (wpAny_specialOf hT F.slot_tuple_eq.lookup ?_)
 show wpAny _ _ (isInstance (.ref a) (.type "tuple") >>= _) _ _ s
 refine wpAny_bind (wpAny_isInstance hT isSubtype_tuple_tuple ?_)
 simp only [Bool.not_true,Bool.false_eq_true,if_false]
 refine wpAny_bind (wpAny_seqItems ho hd (wpAny_bind ?_))
 show wpAny _ _ (forIn items _ _) _ _ s
 rw [<- Array.forIn_toList]
 refine wpAny_forIn_list _ (fun rest r s'=>r.1=none/\s'=s/\ ∀ v∈rest,carriedByValue v=true) _ ?_ ?_ _ _ ⟨rfl,rfl,hi.byValue⟩
 ·rintro v rest r s' ⟨hr,rfl,hall⟩
  rw [eqIsQuiet_byValue _ (hall v List.mem_cons_self)]
  refine wpAny_bind (wpAny_pure ?_)
  simp only [Bool.not_true,Bool.false_eq_true,if_false]
  exact wpAny_pure ⟨rfl,rfl,fun u hu'=>hall u (List.mem_cons_of_mem _ hu')⟩
 ·rintro ⟨r1,r2⟩ s' ⟨hr,rfl,_⟩
  simp only at hr
  subst hr
  exact wpAny_pure h
theorem eF {p:List K×K2} {a:Addr} {Q:Bool->Shared->Prop} (hk:IsPairKey knd kn2 s.heap p a) (h:Q true s):wpAny (model prog w) A (eqIsQuiet 8 (.ref a)) Q E s:=by
 have hT:=hk.typeIs
 obtain ⟨o,items,n,b,v,ho,_,hd,hi,hb,hv⟩:=hk
 unfold eqIsQuiet
 refine wpAny_bind (wpAny_specialOf hT F.slot_tuple_eq.lookup ?_)
 show wpAny _ _ (isInstance (.ref a) (.type "tuple") >>= _) _ _ s
 refine wpAny_bind (wpAny_isInstance hT isSubtype_tuple_tuple ?_)
 simp only [Bool.not_true,Bool.false_eq_true,if_false]
 refine wpAny_bind (wpAny_seqItems ho hd ?_)
 refine wpAny_bind ?_
 show wpAny _ _ (forIn items _ _) _ _ s
 rw [<- Array.forIn_toList,hi,List.forIn_cons]
 refine wpAny_bind (wpAny_bind (l5 6 hb ?_))
 simp only [Bool.not_true,Bool.false_eq_true,if_false]
 refine wpAny_pure ?_
 show wpAny _ _ (forIn [v] (none,()) _) _ _ _
 rw [List.forIn_cons,eqIsQuiet_byValue _ (kn2.byValue _ _ hv)]
 refine wpAny_bind (wpAny_bind (wpAny_pure ?_))
 simp only [Bool.not_true,Bool.false_eq_true,if_false]
 refine wpAny_pure ?_
 show wpAny _ _ (forIn [] _ _) _ _ _
 rw [List.forIn_nil]
 exact wpAny_pure (wpAny_pure h)
theorem lb {p q:List K×K2} {a b:Addr} {R:Fin->Shared->Prop} (hu:A.units+4<cLine) (hx:IsPairKey knd kn2 s.heap p a) (hy:IsPairKey knd kn2 s.heap q b) (h:R (.done (.ret (.bool (decide (p=q))))) s):
  wpAny (model prog w) A (Builtin.«tuple.__eq__» ⟨[.ref a,.ref b],[]⟩) R E s:=by
 have hTb:=hy.typeIs
 obtain ⟨oa,xs,na,a1,v1,hoa,_,hda,hia,hka,hva⟩:=hx
 obtain ⟨ob,ys,nb,b1,v2,hob,_,hdb,hib,hkb,hvb⟩:=hy
 show wpAny _ _ (isInstance (.ref b) (.type "tuple") >>= _) _ _ s
 refine wpAny_bind (wpAny_isInstance hTb isSubtype_tuple_tuple ?_)
 simp only [Bool.not_true,Bool.false_eq_true,if_false]
 refine wpAny_bind (wpAny_tupleItemsOf hoa hda (wpAny_bind (wpAny_tupleItemsOf hob hdb (wpAny_bind ?_))))
 have hs:xs.size=ys.size:=by rw [<- Array.length_toList,<- Array.length_toList,hia,hib];rfl
 rw [hia,hib]
 show wpAny _ _ (forIn [(Value.ref a1,Value.ref b1),(v1,v2)] (none,()) _) _ _ _
 rw [List.forIn_cons]
 refine wpAny_bind (wpAny_bind (wpAny_eqBool_tuple (by lia) hka hkb ?_))
 by_cases h1:p.1=q.1
 ·rw [decide_eq_true h1]
  simp only [Bool.not_true,Bool.false_eq_true,if_false]
  refine wpAny_pure ?_
  show wpAny _ _ (forIn [(v1,v2)] (none,()) _) _ _ _
  rw [List.forIn_cons]
  refine wpAny_bind (wpAny_bind (kn2.eqBool (a:=p.2) (b:=q.2) hva hvb ?_))
  by_cases h2:p.2=q.2
  ·rw [decide_eq_true h2]
   simp only [Bool.not_true,Bool.false_eq_true,if_false]
   refine wpAny_pure ?_
   show wpAny _ _ (forIn [] _ _) _ _ _
   rw [List.forIn_nil]
   rw [decide_eq_true (Prod.ext h1 h2)]at h
   refine wpAny_pure (wpAny_pure ?_)
   show R (.done (.ret (.bool (xs.size==ys.size)))) s
   rw [hs,beq_self_eq_true]
   exact h
  ·rw [decide_eq_false h2]
   simp only [Bool.not_false,if_true]
   rw [decide_eq_false fun e=>h2 (congrArg Prod.snd e)]at h
   exact wpAny_bind (wpAny_pure (wpAny_pure (wpAny_pure (wpAny_pure h))))
 ·rw [decide_eq_false h1]
  simp only [Bool.not_false,if_true]
  rw [decide_eq_false fun e=>h1 (congrArg Prod.fst e)]at h
  exact wpAny_bind (wpAny_pure (wpAny_pure (wpAny_pure (wpAny_pure h))))
theorem fQ {p q:List K×K2} {a b:Addr} {Q:Bool->Shared->Prop} (hu:A.units+8<cLine) (hx:IsPairKey knd kn2 s.heap p a) (hy:IsPairKey knd kn2 s.heap q b) (h:Q (decide (p=q)) s):
  wpAny (model prog w) A (eqBool (.ref a) (.ref b)) Q E s:=by
 unfold eqBool
 try with_reducible refine wpAny_holding ?_
 show wpAny _ _ (if (Value.ref a==Value.ref b)=true then _ else _) Q E s
 by_cases hab:(Value.ref a==Value.ref b)=true
 ·rw [if_pos hab]
  have e:a=b:=by have:=eq_of_beq hab;injection this
  subst e
  obtain rfl:=hx.inj hy
  exact wpAny_bind (wpAny_rule (wpAny_pure (by simpa using h)))
 ·rw [if_neg hab]
  exact wpAny_bind (wpAny_richCompare_same_room (op:=.Eq) hx.typeIs hy.typeIs F.slot_tuple_eq
   (wpAny_call_entry F.slot_tuple_eq hx.typeIs F.entry_tuple_eq (lb (by simp;lia) hx hy ⟨_,rfl,(fun e=>nomatch e),wpAny_truthy_bool h⟩) (F.args_tuple_eq_2 _ _)) (by lia))
end
noncomputable def dI {prog:Program} {w:World} {K K2:Type} [DecidableEq K] [DecidableEq K2] (knd:KeyKind prog w K) (kn2:KeyKind prog w K2):HeapKind prog w (List K×K2) where
 is:=IsPairKey knd kn2
 hash:=iX knd kn2
 draws:=fun p=>p.1.length+1+1+1
 room:=fun A=>A.units+8<cLine
 inj:=fun hx hy=>hx.inj hy
 keeps:=fun x ho hd hs=>x.keeps ho hd hs
 pyHash:=fun hu hk h=>fP hu hk h
 eqBool:=fun hu hx hy h=>fQ hu hx hy h
 quiet:=fun hk h=>eF hk h
end PySem
namespace L2
open PySem PySem.Spec PyProof.Rows
noncomputable abbrev Key:=Sum Int Str
noncomputable def jO:Key->Value->Bool
 | .inl k,v=>Value.isInt k v
 | .inr x,v=>Value.isStrOf x v
noncomputable def yl (w:World):Key->Int
 | .inl k=>hashInt k
 | .inr x=>hashStr w x
theorem bx: ∀ {k:Key} {v:Value},jO k v=true->(∃ i t,k=Sum.inl i/\v=Value.int i t)\/(∃ x t,k=Sum.inr x/\v=Value.str x t)
 | .inl i,v,h=>by
  obtain ⟨t,e⟩:=Value.isInt_shape (k:=i) (v:=v) h
  exact .inl ⟨i,t,rfl,e⟩
 | .inr x,v,h=>by
  obtain ⟨t,e⟩:=Value.isStrOf_shape (x:=x) (v:=v) h
  exact .inr ⟨x,t,rfl,e⟩
theorem qQ (i:Int) (t:Tok):jO (.inl i) (.int i t)=true:=by simp [jO,Value.isInt]
theorem bt (x:Str) (t:Tok):jO (.inr x) (.str x t)=true:=by simp [jO,Value.isStrOf]
theorem wE (a b:Int):decide ((Sum.inl a:Key)=Sum.inl b)=(a==b):=by
 by_cases e:a=b
 ·subst e;simp
 ·have h: ¬ (Sum.inl a:Key)=Sum.inl b:=fun q=>e (Sum.inl.inj q)
  rw [decide_eq_false h]
  exact (beq_eq_false_iff_ne.mpr e).symm
theorem wB (a b:Str):decide ((Sum.inr a:Key)=Sum.inr b)=decide (a=b):=by
 by_cases e:a=b
 ·subst e;simp
 ·have h: ¬ (Sum.inr a:Key)=Sum.inr b:=fun q=>e (Sum.inr.inj q)
  rw [decide_eq_false h,decide_eq_false e]
theorem wD (a:Int) (b:Str):decide ((Sum.inl a:Key)=Sum.inr b)=false:=decide_eq_false (fun q=>nomatch q)
theorem wC (a:Str) (b:Int):decide ((Sum.inr a:Key)=Sum.inl b)=false:=decide_eq_false (fun q=>nomatch q)
noncomputable def aV (prog:Program) (w:World):PySem.KeyKind prog w Key where
 is:=jO
 hash:=yl w
 inj:=fun v a b ha hb=>by
  rcases bx ha with ⟨i,t,rfl,rfl⟩ | ⟨x,t,rfl,rfl⟩
  ·rcases bx hb with ⟨j,u,rfl,e⟩ | ⟨y,u,rfl,e⟩
   ·injection e with e1 _;rw [e1]
   ·exact nomatch e
  ·rcases bx hb with ⟨j,u,rfl,e⟩ | ⟨y,u,rfl,e⟩
   ·exact nomatch e
   ·injection e with e1 _;rw [e1]
 byValue:=fun k v h=>by
  rcases bx h with ⟨i,t,rfl,rfl⟩ | ⟨x,t,rfl,rfl⟩ <;> rfl
 pyHash:=fun hv h=>by
  rcases bx hv with ⟨i,t,rfl,rfl⟩ | ⟨x,t,rfl,rfl⟩
  ·exact wpAny_pyHash_int h
  ·exact wpAny_pyHash_str h
 eqBool:=fun hu hv h=>by
  rcases bx hu with ⟨i,t,rfl,rfl⟩ | ⟨x,t,rfl,rfl⟩
  ·rcases bx hv with ⟨j,u,rfl,rfl⟩ | ⟨y,u,rfl,rfl⟩
   ·rw [wE]at h;exact wpAny_eqBool_int h
   ·rw [wD]at h;exact SeqAt.EqAt.int_str i t y u _ _ _ _ h
  ·rcases bx hv with ⟨j,u,rfl,rfl⟩ | ⟨y,u,rfl,rfl⟩
   ·rw [wC]at h;exact SeqAt.EqAt.str_int x t j u _ _ _ _ h
   ·rw [wB]at h;exact wpAny_eqBool_str h
 «strs» :=fun k x t v h=>by
  rcases bx h with ⟨i,u,rfl,e⟩ | ⟨y,u,rfl,e⟩
  ·exact nomatch e
  ·injection e with e1 _
   subst e1
   cases v <;> rfl
theorem mq (prog:Program) (w:World) (i:Int) (t:Tok):(aV prog w).is (.inl i) (.int i t)=true:=qQ i t
theorem mn (prog:Program) (w:World) (x:Str) (t:Tok):(aV prog w).is (.inr x) (.str x t)=true:=bt x t
inductive V where
 | non | bl (b:Bool) | int (i:Int) | str (x:Str) | byt (b:Array UInt8) | flt (b:UInt64) | ref (a:Addr) | ty (n:String)
 deriving DecidableEq
noncomputable def RelV:V->Value->Prop
 | .non,u=>u=Value.none
 | .bl b,u=>u=Value.bool b
 | .int i,u=> ∃ t,u=Value.int i t
 | .str x,u=> ∃ t,u=Value.str x t
 | .byt b,u=> ∃ t,u=Value.bytes b t
 | .flt b,u=> ∃ t,u=Value.float b t
 | .ref a,u=>u=Value.ref a
 | .ty n,u=>u=Value.type n
noncomputable abbrev Vals:List V->List Value->Prop:=Paired RelV
theorem Vals.length {xs:List V} {us:List Value} (r:Vals xs us):xs.length=us.length:=Paired.length r
theorem Vals.get: ∀ {xs:List V} {us:List Value} {i:Nat} {x:V},Vals xs us->xs[i]? =some x-> ∃ u,us[i]? =some u/\RelV x u
 | _,_,_,_,.nil,e=>by simp at e
 | _,_,0,_,.cons r _,e=>by simp at e;subst e;exact ⟨_,rfl,r⟩
 | _,_,i+1,x,.cons _ t,e=>by
  obtain ⟨u,h1,h2⟩:=Vals.get (i:=i) (x:=x) t (by simpa using e)
  exact ⟨u,by simpa using h1,h2⟩
theorem Vals.set {x:V} {u:Value} (r:RelV x u): ∀ {xs:List V} {us:List Value} (i:Nat),Vals xs us->Vals (xs.set i x) (us.set i u)
 | _,_,_,.nil=>.nil
 | _,_,0,.cons _ t=>.cons r t
 | _,_,i+1,.cons q t=>.cons q (Vals.set r i t)
theorem Vals.append: ∀ {xs ys:List V} {us ws:List Value},Vals xs us->Vals ys ws->Vals (xs++ys) (us++ws)
 | _,_,_,_,.nil,s=>s
 | _,_,_,_,.cons r t,s=>.cons r (Vals.append t s)
theorem Vals.take: ∀ {xs:List V} {us:List Value} (n:Nat),Vals xs us->Vals (xs.take n) (us.take n)
 | _,_,0,_=>.nil
 | _,_,_+1,.nil=>.nil
 | _,_,n+1,.cons r t=>.cons r (Vals.take n t)
theorem Vals.drop: ∀ {xs:List V} {us:List Value} (n:Nat),Vals xs us->Vals (xs.drop n) (us.drop n)
 | _,_,0,r=>r
 | _,_,_+1,.nil=>.nil
 | _,_,n+1,.cons _ t=>Vals.drop n t
theorem Vals.none_of: ∀ {xs:List V} {us:List Value} {i:Nat},Vals xs us->xs[i]? =none->us[i]? =none:=fun {xs us i} r e=>by
 have h1:=r.length
 have h2:xs.length<=i:=List.getElem?_eq_none_iff.mp e
 exact List.getElem?_eq_none_iff.mpr (by lia)
noncomputable def RelO:Option V->Option Value->Prop
 | some v,some u=>RelV v u
 | none,none=>True
 | _,_=>False
noncomputable def KV {κ:Type}:List (κ×V)->List (κ×Value)->Prop:=Paired fun (p:κ×V) (q:κ×Value)=>p.1=q.1/\RelV p.2 q.2
noncomputable def kV:Key->V
 | .inl i=>.int i
 | .inr x=>.str x
inductive HO where
 /-- a list -/
 | lst (xs:List V)
 /-- a tuple (never changes) -/
 | tup (xs:List V)
 /-- a dict whose keys are ints and texts; one whose keys are tuples of ints and texts (the empty one is both) -/
 | dK (kvs:List (Key×V)) | dT (kvs:List (List Key×V)) | dP (kvs:List ((List Key×Key)×V))
 /-- a set of ints: its members, its size -/
 | set (S:Int->Bool) (n:Nat)
 /-- an instance of the class at C, its dict at dx, its attributes -/
 | ins (C dx:Addr) (fs:List (Str×V))
 /-- the dict of the instance at x -/
 | own (x:Addr)
 /-- the dict of an exception -/
 | xd (fs:List (Str×V))
 /-- a bound method, f of x -/
 | met (f x:Addr)
 /-- a range object lo, lo + 1, .. below hi -/
 | rng (lo hi:Int)
 /-- a thing that is known to the object (the script; a dict while a loop walks it): read, never written while it is so -/
 | frz (o:Obj) (u:HO)
 /-- a code object's table -/
 | tbl (ps:Array Value)
 /-- any other thing, by what is true of its one object (a def of one's own: SetO a S n := HO.ext fun h => ..) -/
 | ext (φ:Heap->Prop)
noncomputable abbrev Hp:=Addr->Option HO
noncomputable def upd (H:Hp) (a:Addr) (o:HO):Hp:=fun b=>if b=a then some o else H b
theorem ab {H:Hp} {a:Addr} {o:HO}:upd H a o a=some o:=by unfold upd;rw [if_pos rfl]
theorem ah {H:Hp} {a b:Addr} {o:HO} (h:b≠a):upd H a o b=H b:=by unfold upd;rw [if_neg h]
theorem dv {H:Hp} {a:Addr} {o u:HO}:upd (upd H a o) a u=upd H a u:=by
 funext b;unfold upd;split <;> rfl
theorem vG {H:Hp} {a b:Addr} {o u:HO} (h:H a=some o) (h':H b=some u) (d:o≠u):a≠b:=by
 intro e;subst e;rw [h]at h';exact d (Option.some.inj h')
theorem af {H:Hp} {a b:Addr} {o:HO} (h:H a=some o) (h':H b=none):a≠b:=by
 intro e;subst e;rw [h]at h';cases h'
section
variable (P:Program) (w:World)
noncomputable def ObjOk (H:Hp) (h:Heap) (a:Addr):HO->Prop
 | .lst xs=>xs.length<=sizeLine/\ ∃ (its:List Value) (n:Nat),Vals xs its/\h.get? a=some {cls:=.type "list",data:=.seq its.toArray n}
 | .tup xs=>xs.length<=sizeLine/\ ∃ its:List Value,Vals xs its/\IsTup h a its.toArray
 | .dK kvs=>kvs.length<=sizeLine/\(a==sysModules)=false/\ ∃ vs,KV kvs vs/\h.DictOf (aV P w) a vs
 | .dT kvs=>kvs.length<=sizeLine/\(a==sysModules)=false/\ ∃ xs:List (List Key×Addr×Value),
   Paired (fun (p:List Key×V) (q:List Key×Addr×Value)=>p.1=q.1/\H q.2.1=some (.tup (p.1.map kV))/\RelV p.2 q.2.2) kvs xs/\
   ∃ o es ep,h.get? a=some o/\o.ExactDict/\o.data=.dict es ep/\es.toList=xs.map (entryOfKey (tupleKind (aV P w)))/\(xs.map (·.1)).Nodup
 | .dP kvs=>kvs.length<=sizeLine/\(a==sysModules)=false/\ ∃ xs:List ((List Key×Key)×Addr×Value),
   Paired (fun (p:(List Key×Key)×V) (q:(List Key×Key)×Addr×Value)=>p.1=q.1/\(∃ b,H q.2.1=some (.tup [.ref b,kV p.1.2])/\H b=some (.tup (p.1.1.map kV)))/\RelV p.2 q.2.2) kvs xs/\
   ∃ o es ep,h.get? a=some o/\o.ExactDict/\o.data=.dict es ep/\es.toList=xs.map (entryOfKey (dI (aV P w) (aV P w)))/\(xs.map (·.1)).Nodup
 | .set S n=>h.SetOf (intKind P w) a S n
 | .ins C dx fs=>H dx=some (.own a)/\fs.length<=1000/\dx≠a/\h.get? a=some (PySem.W.instObj C dx)/\
   ∃ mA,h.Ns1 dx mA/\(∀ f,RelO (fs.lookup f) (mA f))/\PySem.Within mA (fs.map (·.1))
 | .own _=> ∃ o,h.get? a=some o
 | .xd fs=> ∃ mA,h.Ns1 a mA/\ ∀ f,RelO (fs.lookup f) (mA f)
 | .rng lo hi=> ∃ t u v,h.get? a=some {cls:=.type "range",data:=.fields #[.int lo t,.int hi u,.int 1 v]}
 | .frz o u=>h.get? a=some o/\ObjOk H h a u
 | .tbl ps=>h.get? a=some {cls:=.none,data:=.fields ps}
 | .met f x=>h.get? a=some (PySem.W.methodObj (.ref f) (.ref x))
 | .ext φ=>φ h/\(∃ o,h.get? a=some o)/\ ∀ h1 h2:Heap,φ h1->(∀ o,h1.get? a=some o->h2.get? a=some o)->φ h2
noncomputable def HOk (H:Hp) (h:Heap):Prop:= ∀ a o,H a=some o->ObjOk P w H h a o
end
section
variable {P:Program} {w:World} {H H':Hp} {h h':Heap} {a:Addr} {o:HO}
theorem ObjOk.lt (x:ObjOk P w H h a o):a<h.objs.size:=by
 cases o with
 | lst xs=>obtain ⟨_,_,_,_,e⟩:=x;exact Heap.lt_size e
 | tup xs=>obtain ⟨_,_,_,p⟩:=x;exact p.lt
 | dK kvs=>obtain ⟨_,_,_,_,o,_,_,e,_⟩:=x;exact Heap.lt_size e
 | dT kvs=>obtain ⟨_,_,_,_,o,_,_,e,_⟩:=x;exact Heap.lt_size e
 | dP kvs=>obtain ⟨_,_,_,_,o,_,_,e,_⟩:=x;exact Heap.lt_size e
 | set S n=>obtain ⟨o,_,_,_,e,_⟩:=x;exact Heap.lt_size e
 | ins C dx fs=>obtain ⟨_,_,_,e,_⟩:=x;exact Heap.lt_size e
 | own y=>obtain ⟨_,e⟩:=x;exact Heap.lt_size e
 | xd fs=>obtain ⟨_,⟨_,_,_,e,_⟩,_⟩:=x;exact Heap.lt_size e
 | rng lo hi=>obtain ⟨_,_,_,e⟩:=x;exact Heap.lt_size e
 | frz ob u=>obtain ⟨e,_⟩:=x;exact Heap.lt_size e
 | tbl ps=>exact Heap.lt_size (show h.get? a=some _ from x)
 | met f y=>exact Heap.lt_size (show h.get? a=some _ from x)
 | ext φ=>obtain ⟨_,⟨_,e⟩,_⟩:=x;exact Heap.lt_size e
theorem Paired.mapP {α β:Type} {F G:α->β->Prop}: ∀ {l₁:List α} {l₂:List β},Paired F l₁ l₂->(∀ a b,F a b->G a b)->Paired G l₁ l₂
 | _,_,.nil,_=>.nil
 | _,_,.cons r t,f=>.cons (f _ _ r) (Paired.mapP t f)
theorem ObjOk.stay (x:ObjOk P w H h a o) (k: ∀ b u,(b=a\/H b=some (.own a))->h.get? b=some u->h'.get? b=some u)
  (ho: ∀ b,H b=some (.own a)->H' b=some (.own a)) (ht: ∀ b xs,H b=some (.tup xs)->H' b=some (.tup xs)):ObjOk P w H' h' a o:=by
 induction o with
 | lst xs=>obtain ⟨z,its,n,r,e⟩:=x;exact ⟨z,its,n,r,k _ _ (.inl rfl) e⟩
 | tup xs=>obtain ⟨z,its,r,ob,e,c⟩:=x;exact ⟨z,its,r,ob,k _ _ (.inl rfl) e,c⟩
 | dK kvs=>obtain ⟨z,y,vs,r,ob,es,ep,e,c⟩:=x;exact ⟨z,y,vs,r,ob,es,ep,k _ _ (.inl rfl) e,c⟩
 | dT kvs=>
  obtain ⟨z,y,xs,r,ob,es,ep,e,c⟩:=x
  exact ⟨z,y,xs,Paired.mapP r fun p q z=>⟨z.1,ht _ _ z.2.1,z.2.2⟩,ob,es,ep,k _ _ (.inl rfl) e,c⟩
 | dP kvs=>
  obtain ⟨z,y,xs,r,ob,es,ep,e,c⟩:=x
  exact ⟨z,y,xs,Paired.mapP r fun p q z=>⟨z.1,let ⟨b,e1,e2⟩:=z.2.1;⟨b,ht _ _ e1,ht _ _ e2⟩,z.2.2⟩,ob,es,ep,k _ _ (.inl rfl) e,c⟩
 | set S n=>obtain ⟨ob,es,ep,t,e,c⟩:=x;exact ⟨ob,es,ep,t,k _ _ (.inl rfl) e,c⟩
 | ins C dx fs=>
  obtain ⟨d,z,ne,e,mA,⟨od,es,ep,e2,c⟩,r⟩:=x
  exact ⟨ho _ d,z,ne,k _ _ (.inl rfl) e,mA,⟨od,es,ep,k _ _ (.inr d) e2,c⟩,r⟩
 | own y=>obtain ⟨ob,e⟩:=x;exact ⟨ob,k _ _ (.inl rfl) e⟩
 | xd fs=>obtain ⟨mA,⟨od,es,ep,e,c⟩,r⟩:=x;exact ⟨mA,⟨od,es,ep,k _ _ (.inl rfl) e,c⟩,r⟩
 | rng lo hi=>obtain ⟨t,u,v,e⟩:=x;exact ⟨t,u,v,k _ _ (.inl rfl) e⟩
 | frz ob u ih=>obtain ⟨e,q⟩:=x;exact ⟨k _ _ (.inl rfl) e,ih q⟩
 | tbl ps=>
  have e:h.get? a=some {cls:=.none,data:=.fields ps}:=x
  show h'.get? a=some {cls:=.none,data:=.fields ps}
  exact k a _ (.inl rfl) e
 | met f y=>
  have e:h.get? a=some (PySem.W.methodObj (.ref f) (.ref y)):=x
  show h'.get? a=some (PySem.W.methodObj (.ref f) (.ref y))
  exact k a _ (.inl rfl) e
 | ext φ=>obtain ⟨p,⟨o,e⟩,st⟩:=x;exact ⟨st _ _ p fun o q=>k _ _ (.inl rfl) q,⟨o,k _ _ (.inl rfl) e⟩,st⟩
theorem HOk.lt (x:HOk P w H h) (e:H a=some o):a<h.objs.size:=(x a o e).lt
theorem HOk.fresh (x:HOk P w H h) (e:h.objs.size<=a):H a=none:=by
 cases q:H a with
 | none=>rfl
 | some u=>exact absurd (Nat.lt_of_lt_of_le (x.lt q) e) (Nat.lt_irrefl _)
theorem HOk.kept (x:HOk P w H h) (k: ∀ b u,h.get? b=some u->h'.get? b=some u):HOk P w H h':=fun a o e=>
 (x a o e).stay (fun b u _ q=>k b u q) (fun _ q=>q) fun _ _ q=>q
theorem HOk.laid (x:HOk P w H h) (k: ∀ b u,h.get? b=some u->h'.get? b=some u) (hp:h.objs.size<=a) (new:ObjOk P w (upd H a o) h' a o):HOk P w (upd H a o) h':=fun b u e=>by
 have hn:=x.fresh hp
 by_cases hb:b=a
 ·subst hb;rw [ab]at e;cases e;exact new
 ·rw [ah hb]at e
  exact (x b u e).stay (fun c v _ q=>k c v q) (fun c q=>by rw [ah (af q hn)];exact q) fun c xs q=>by rw [ah (af q hn)];exact q
end
noncomputable def Rd (H:Hp) (a:Addr) (u:HO):Prop:=H a=some u\/ ∃ o,H a=some (.frz o u)
theorem Rd.ok {P:Program} {w:World} {H:Hp} {h:Heap} {a:Addr} {u:HO} (r:Rd H a u) (x:HOk P w H h):ObjOk P w H h a u:=by
 rcases r with r | ⟨o,r⟩
 ·exact x a u r
 ·obtain ⟨_,q⟩:=x a _ r
  exact q
noncomputable def Mut:Option HO->Prop
 | some (.lst _)=>True
 | some (.dK _)=>True
 | some (.dT _)=>True
 | some (.dP _)=>True
 | some (.set _ _)=>True
 | some (.ins _ _ _)=>True
 | some (.ext _)=>True
 | _=>False
section
variable {P:Program} {w:World} {H:Hp} {h h':Heap} {x e:Addr} {o':HO}
theorem HOk.write (ok:HOk P w H h) (mu:Mut (H x)) (he:e=x\/H e=some (.own x)) (k: ∀ b u,b≠e->h.get? b=some u->h'.get? b=some u) (heo: ∃ u,h'.get? e=some u)
  (new:ObjOk P w (upd H x o') h' x o'):HOk P w (upd H x o') h':=fun b u q=>by
 have nown: ∀ c y,H c=some (.own y)->c≠x:=fun c y r z=>by subst z;rw [r]at mu;exact mu
 have ntup: ∀ c xs,H c=some (.tup xs)->c≠x:=fun c xs r z=>by subst z;rw [r]at mu;exact mu
 by_cases hb:b=x
 ·subst hb;rw [ab]at q;cases q;exact new
 ·rw [ah hb]at q
  by_cases hbe:b=e
  ·have q':H b=some (.own x):=by
    rcases he with z | z
    ·exact absurd (hbe.trans z) hb
    ·rw [hbe];exact z
   rw [q]at q';cases q'
   obtain ⟨v,hv⟩:=heo
   exact ⟨v,by rw [hbe];exact hv⟩
  ·refine (ok b u q).stay (fun c v hc r=>k c v ?_ r) (fun c r=>by rw [ah (nown c b r)];exact r) fun c xs r=>by rw [ah (ntup c xs r)];exact r
   rcases hc with rfl | hc
   ·exact hbe
   ·rintro rfl
    rcases he with z | z
    ·exact nown c b hc z
    ·rw [hc]at z;cases z;exact hb rfl
end
structure Un (fs ex:List Addr) (H H':Hp) (h h':Heap):Prop where
 keep: ∀ b o,h.get? b=some o->H b=none->b∉fs->b∉ex->h'.get? b=some o
 slot: ∀ b o,h.get? b=some o->H b=none->b∈fs->b∉ex-> ∃ sl,h'.get? b=some {o with slots:=sl}
 free: ∀ b o,h.get? b=some o->H b=none->b∉ex->H' b=none
 there: ∀ b o,h.get? b=some o->b∉ex-> ∃ o',h'.get? b=some o'
 tups: ∀ b xs,H b=some (.tup xs)->H' b=some (.tup xs)
 frzs: ∀ b o u,H b=some (.frz o u)->H' b=some (.frz o u)
 tbls: ∀ b ps,H b=some (.tbl ps)-> ∃ more,H' b=some (.tbl (ps++more))
section
variable {fs fs' ex ex':List Addr} {H H1 H2:Hp} {h h1 h2 h':Heap} {a x e:Addr} {o:HO}
theorem Un.any (u:Un fs ex H H1 h h1) {b:Addr} {ob:Obj} (q:h.get? b=some ob) (n:H b=none) (hx:b∉ex): ∃ sl,h1.get? b=some {ob with slots:=sl}:=by
 by_cases hb:b∈fs
 ·exact u.slot b ob q n hb hx
 ·exact ⟨ob.slots,u.keep b ob q n hb hx⟩
theorem Un.kept (k: ∀ b u,h.get? b=some u->h'.get? b=some u):Un fs ex H H h h':=
 ⟨fun b ob q _ _ _=>k b ob q,fun b ob q _ _ _=>⟨ob.slots,k b ob q⟩,fun _ _ _ n _=>n,fun b ob q _=>⟨ob,k b ob q⟩,fun _ _ q=>q,fun _ _ _ q=>q,fun _ ps q=>⟨#[],by rw [q];simp⟩⟩
theorem Un.refl:Un fs ex H H h h:=Un.kept fun _ _ q=>q
theorem Un.laid (k: ∀ b u,h.get? b=some u->h'.get? b=some u) (hp:h.objs.size<=a) (hn:H a=none):Un fs ex H (upd H a o) h h' where
 keep:=fun b u q _ _ _=>k b u q
 slot:=fun b u q _ _ _=>⟨u.slots,k b u q⟩
 free:=fun b u q n _=>by rw [ah (Nat.ne_of_lt (Nat.lt_of_lt_of_le (Heap.lt_size q) hp))];exact n
 there:=fun b u q _=>⟨u,k b u q⟩
 tups:=fun b xs q=>by rw [ah (af q hn)];exact q
 frzs:=fun b u xs q=>by rw [ah (af q hn)];exact q
 tbls:=fun b ps q=>⟨#[],by rw [ah (af q hn),q];simp⟩
theorem Un.write (mu:Mut (H x)) (he:e=x\/H e=some (.own x)) (k: ∀ b u,b≠e->h.get? b=some u->h'.get? b=some u) (heo: ∃ u,h'.get? e=some u):Un fs ex H (upd H x o) h h':=by
 have hx: ∀ b,H b=none->b≠x:=fun b n z=>by subst z;rw [n]at mu;exact mu
 have hb: ∀ b,H b=none->b≠e:=fun b n z=>by
  subst z
  rcases he with r | r
  ·exact hx b n r
  ·rw [n]at r;cases r
 have hm: ∀ b u,H b=some u-> ¬ Mut (some u)->b≠x:=fun b u q nm z=>by subst z;rw [q]at mu;exact nm mu
 refine ⟨fun b u q n _ _=>k b u (hb b n) q,fun b u q n _ _=>⟨u.slots,k b u (hb b n) q⟩,fun b u q n _=>by rw [ah (hx b n)];exact n,fun b u q _=>?_,
  fun b xs q=>by rw [ah (hm b _ q fun z=>z)];exact q,fun b u xs q=>by rw [ah (hm b _ q fun z=>z)];exact q,fun b ps q=>⟨#[],by rw [ah (hm b _ q fun z=>z),q];simp⟩⟩
 by_cases hbe:b=e
 ·subst hbe;exact heo
 ·exact ⟨u,k b u hbe q⟩
end
noncomputable def trk (h:Heap) (H:Hp):List Addr:=(List.range h.objs.size).filter fun a=>(H a).isSome
noncomputable def i8 (h:Heap) (H:Hp):Heap:=PySem.W.hideAll h (trk h H)
theorem qT (h:Heap) (H:Hp):(i8 h H).objs.size=h.objs.size:=PySem.W.hideAll_size _ _
theorem tS {h:Heap} {H:Hp} {b:Addr} {o:Obj} (e:h.get? b=some o) (n:H b=none):(i8 h H).get? b=some o:=
 PySem.W.hideAll_get _ e fun hm=>by
  have q:(H b).isSome=true:=(List.mem_filter.mp hm).2
  rw [n]at q;simp at q
theorem uZ {h:Heap} {H:Hp} {b:Addr} {o:Obj} (e:(i8 h H).get? b=some o):h.get? b=some o/\H b=none:=by
 have e':h.get? b=some o:=PySem.W.of_hideAll (trk h H) e
 refine ⟨e',?_⟩
 cases q:H b with
 | none=>rfl
 | some x=>
  have hm:b∈trk h H:=List.mem_filter.mpr ⟨List.mem_range.mpr (Heap.lt_size e'),by simp [q]⟩
  have z:(i8 h H).get? b=none:=PySem.W.hideAll_none (trk h H) hm
  rw [z]at e;cases e
structure Mod (K:PySem.W.Frag) (mg:Str->Option Value) (base:Heap):Prop where
 kin:K.In base
 glob:base.Ns mainGlobals mg
 blt: ∃ mb,base.Ns builtinsNs mb/\ ∀ x:Str,x≠"__name__"->mb x=bootBuiltins x
 nolimit:base.NoLimit
structure Cx where
 prog:Program
 w:World
 K:PySem.W.Frag
 mg:Str->Option Value
 base:Heap
 A:Around
 N:List Str
 s₀:Shared
 H₀:Hp
 env:Env
 outer:List Env
 stack:List Env
 ex:List Addr
 fn:Str->Bool
 calm:Bool
 pn:List (Addr×Obj)
 xe:Value->Shared->Prop
noncomputable def frs (l:List Env):List Addr:=l.filterMap (·.frame)
noncomputable abbrev Cx.fs (X:Cx):List Addr:=frs X.outer
noncomputable def Vis (sc:Scope) (x:Str):Prop:=sc.names.lookup x=some .local\/sc.names.lookup x=some .cell\/sc.names.lookup x=some .free
noncomputable def Loc (sc:Scope) (x:Str):Prop:=sc.names.lookup x=some .local\/sc.names.lookup x=some .cell
noncomputable def yF (env:Env) (h:Heap) (m:Str->Option Value) (x:Str) (u:Value):Prop:=
 (env.kindOf x=some .local/\m x=some u)\/((env.kindOf x=some .cell\/env.kindOf x=some .free)/\ ∃ c,env.cells.lookup x=some c/\h.IsCell c (some u))
structure Cx.Ok (X:Cx):Prop where
 mod:Mod X.K X.mg X.base
 kind:X.env.scope.kind=.function
 glob:X.env.globals=mainGlobals
 blt:X.env.builtins=builtinsNs
 above:X.s₀.heap.objs.size<=X.env.locals
 inj: ∀ x y c,X.env.cells.lookup x=some c->X.env.cells.lookup y=some c->x=y
 has: ∀ x,(X.env.kindOf x=some .cell\/X.env.kindOf x=some .free)-> ∃ c,X.env.cells.lookup x=some c
 cab: ∀ x c,X.fn x=true->X.env.cells.lookup x=some c->X.s₀.heap.objs.size<=c
 hd:X.calm=true->X.A.handled=none
 frames:X.A.frames=some X.stack
 stk:X.stack=X.outer\/(X.stack=X.env::X.outer/\X.env.frame=some X.env.locals)
 exf: ∀ b∈X.ex,b≠X.env.locals/\ ∀ x c,X.env.cells.lookup x=some c->c≠b
 bs: ∀ b o,X.base.get? b=some o->X.s₀.heap.get? b=some o/\X.H₀ b=none
 bsz:X.base.objs.size<=X.s₀.heap.objs.size
 noex: ∀ b o,X.base.get? b=some o->b∉X.ex
 exfs: ∀ b∈X.ex,b∉X.fs
 funs:X.s₀.heap.FunFrames X.base X.outer
 frf: ∀ b∈X.fs,X.H₀ b=none
structure Inv (X:Cx) (pins:List (Addr×Obj)) (σ:List (Option V)) (H:Hp) (s:Shared):Prop where
 ok:X.Ok
 os:s.os=X.s₀.os
 bare:AllBare s.gens
 base:Un X.fs X.ex X.H₀ H X.s₀.heap s.heap
 loc: ∃ m,s.heap.Ns X.env.locals m/\ ∀ (i:Nat) (x:Str) (v:V),X.N[i]? =some x->σ[i]? =some (some v)->Vis X.env.scope x-> ∃ u,RelV v u/\yF X.env s.heap m x u
 cell: ∀ x c,X.env.cells.lookup x=some c-> ∃ v,s.heap.IsCell c v
 free:H X.env.locals=none
 freeC: ∀ x c,X.env.cells.lookup x=some c->H c=none
 pin: ∀ p∈X.pn++pins,s.heap.get? p.1=some p.2/\H p.1=none/\p.1≠X.env.locals/\p.1∉X.fs/\ ∀ v,p.2.data≠ .cell v
 hok:HOk X.prog X.w H s.heap
 len:σ.length=X.N.length
section
variable {X:Cx} {pins:List (Addr×Obj)} {σ:List (Option V)} {H H':Hp} {s:Shared} {h':Heap}
theorem Cx.Ok.nofr (ok:X.Ok) {b:Addr} {o:Obj} (e:X.base.get? b=some o):b∉X.fs:=fun hb=>by
 have:=(ok.funs.mem hb).1
 rw [e]at this;cases this
theorem Inv.bs (I:Inv X pins σ H s): ∀ b o,X.base.get? b=some o->s.heap.get? b=some o/\H b=none:=fun b o e=>
 ⟨I.base.keep b o (I.ok.bs b o e).1 (I.ok.bs b o e).2 (I.ok.nofr e) (I.ok.noex b o e),I.base.free b o (I.ok.bs b o e).1 (I.ok.bs b o e).2 (I.ok.noex b o e)⟩
theorem Inv.bk (I:Inv X pins σ H s): ∀ b o,X.base.get? b=some o->s.heap.get? b=some o:=fun b o e=>(I.bs b o e).1
theorem Inv.mod (I:Inv X pins σ H s):Mod X.K X.mg X.base:=I.ok.mod
theorem Inv.kIn (I:Inv X pins σ H s):X.K.In s.heap:=I.ok.mod.kin.keeps I.bk
theorem Inv.nolimit (I:Inv X pins σ H s):s.heap.NoLimit:=I.ok.mod.nolimit.keeps I.bk
theorem Inv.lt (I:Inv X pins σ H s):X.env.locals<s.heap.objs.size:=let ⟨_,hn,_⟩:=I.loc;hn.lt
theorem Inv.sz (I:Inv X pins σ H s):X.s₀.heap.objs.size<=s.heap.objs.size:=Nat.le_trans I.ok.above (Nat.le_of_lt I.lt)
theorem Inv.nofs (I:Inv X pins σ H s) {a:Addr} (h:s.heap.objs.size<=a):a∉X.fs:=fun hb=>by
 obtain ⟨_,o,ho,_⟩:=I.ok.funs.mem hb
 exact absurd (Nat.lt_of_lt_of_le (Heap.lt_size ho) (Nat.le_trans I.sz h)) (Nat.lt_irrefl _)
theorem Inv.cne (I:Inv X pins σ H s): ∀ x c,X.env.cells.lookup x=some c->c≠X.env.locals:=fun x c e z=>by
 obtain ⟨v,o,ho,hd⟩:=I.cell x c e
 obtain ⟨m,⟨o',es,ep,ho',hd',_⟩,_⟩:=I.loc
 rw [z,ho']at ho;cases ho;rw [hd']at hd;cases hd
theorem Inv.funs (I:Inv X pins σ H s):s.heap.FunFrames X.base X.outer:=by
 have all: ∀ (l:List Env),(∀ b∈frs l,b∈X.fs)->X.s₀.heap.FunFrames X.base l->s.heap.FunFrames X.base l:=by
  intro l
  induction l with
  | nil=>intro _ _;trivial
  | cons env r ih=>
   intro hs hl
   obtain ⟨hk,⟨L,o,hf,hn,ho,hd⟩,hr⟩:=hl
   have hL:L∈X.fs:=hs L (by unfold frs;rw [List.filterMap_cons,hf];exact List.mem_cons_self)
   obtain ⟨sl,e⟩:=I.base.slot L o ho (I.ok.frf L hL) hL fun z=>I.ok.exfs L z hL
   exact ⟨hk,⟨L,_,hf,hn,e,hd⟩,ih (fun b hb=>hs b (by unfold frs;rw [List.filterMap_cons,hf];exact List.mem_cons_of_mem _ hb)) hr⟩
 exact all X.outer (fun _ hb=>hb) I.ok.funs
theorem Inv.stack (I:Inv X pins σ H s):s.heap.FunFrames X.base X.stack:=by
 rcases I.ok.stk with e | ⟨e,hf⟩
 ·rw [e];exact I.funs
 ·rw [e]
  obtain ⟨m,hn,_⟩:=I.loc
  refine .cons (by rw [I.ok.kind];decide) hf hn ?_ I.funs
  exact Heap.get?_none_of_le (Nat.le_trans I.ok.bsz I.ok.above)
theorem Inv.stkSub (I:Inv X pins σ H s): ∀ b∈frs X.stack,b∈X.env.locals::X.fs:=fun b hb=>by
 rcases I.ok.stk with e | ⟨e,hf⟩
 ·rw [e]at hb;exact List.mem_cons_of_mem _ hb
 ·rw [e]at hb
  unfold frs at hb
  rw [List.filterMap_cons,hf]at hb
  exact hb
theorem Inv.stkFree (I:Inv X pins σ H s): ∀ b∈frs X.stack,H b=none:=fun b hb=>by
 rcases List.mem_cons.mp (I.stkSub b hb)with e | hb
 ·rw [e];exact I.free
 ·obtain ⟨_,o,ho,_⟩:=I.ok.funs.mem hb
  exact I.base.free b o ho (I.ok.frf b hb) fun z=>I.ok.exfs b z hb
theorem Inv.step {g':Array GenState} {t':Nat} {d':Drawn} {ch:List Addr} (I:Inv X pins σ H s)
  (hch: ∀ b∈ch,(b∈X.ex\/X.s₀.heap.objs.size<=b)/\b≠X.env.locals/\(∀ x c,X.env.cells.lookup x=some c->c≠b)/\ ∀ p∈X.pn++pins,p.1≠b)
  (keep: ∀ b o,b≠X.env.locals->b∉X.fs->b∉ch->s.heap.get? b=some o->H b=none->h'.get? b=some o)
  (slot: ∀ b o,b≠X.env.locals->b∈X.fs->b∉ch->s.heap.get? b=some o->H b=none-> ∃ sl,h'.get? b=some {o with slots:=sl}) (free: ∀ b o,b∉ch->s.heap.get? b=some o->H b=none->H' b=none)
  (there: ∀ b o,b∉ch->s.heap.get? b=some o-> ∃ o',h'.get? b=some o')
  (tups: ∀ b xs,H b=some (.tup xs)->H' b=some (.tup xs)) (frzs: ∀ b o u,H b=some (.frz o u)->H' b=some (.frz o u)) (tbls: ∀ b ps,H b=some (.tbl ps)-> ∃ more,H' b=some (.tbl (ps++more)))
  (ns: ∀ m,s.heap.Ns X.env.locals m->h'.Ns X.env.locals m) (hok:HOk X.prog X.w H' h') (hg:AllBare g'):
  Inv X pins σ H' {s with heap:=h',gens:=g',drawn:=d',toks:=t'}:=by
 have neL: ∀ b o,X.s₀.heap.get? b=some o->b≠X.env.locals:=fun b o e=>Nat.ne_of_lt (Nat.lt_of_lt_of_le (Heap.lt_size e) I.ok.above)
 have neC: ∀ b o,X.s₀.heap.get? b=some o->b∉X.ex->b∉ch:=fun b o e hx hb=>by
  rcases (hch b hb).1 with z | z
  ·exact hx z
  ·exact absurd (Nat.lt_of_lt_of_le (Heap.lt_size e) z) (Nat.lt_irrefl _)
 have cellK: ∀ x c,X.env.cells.lookup x=some c-> ∀ v,s.heap.IsCell c v->h'.IsCell c v:=fun x c e v ⟨o,ho,hd⟩=>by
  have nch:c∉ch:=fun z=>(hch c z).2.2.1 x c e rfl
  by_cases hc:c∈X.fs
  ·obtain ⟨sl,q⟩:=slot c o (I.cne x c e) hc nch ho (I.freeC x c e)
   exact ⟨_,q,hd⟩
  ·exact ⟨o,keep c o (I.cne x c e) hc nch ho (I.freeC x c e),hd⟩
 refine ⟨I.ok,I.os,hg,⟨fun b o e n hb hx=>?_,fun b o e n hb hx=>?_,fun b o e n hx=>?_,fun b o e hx=>?_,fun b xs e=>tups b xs (I.base.tups b xs e),fun b o xs e=>frzs b o xs (I.base.frzs b o xs e),fun b ps e=>?_⟩,?_,fun x c e=>?_,?_,fun x c e=>?_,fun p hp=>?_,hok,I.len⟩
 ·exact keep b o (neL b o e) hb (neC b o e hx) (I.base.keep b o e n hb hx) (I.base.free b o e n hx)
 ·obtain ⟨sl,e1⟩:=I.base.slot b o e n hb hx
  obtain ⟨sl',e2⟩:=slot b _ (neL b o e) hb (neC b o e hx) e1 (I.base.free b o e n hx)
  exact ⟨sl',e2⟩
 ·obtain ⟨o',e1⟩:=I.base.there b o e hx
  exact free b o' (neC b o e hx) e1 (I.base.free b o e n hx)
 ·obtain ⟨o',e1⟩:=I.base.there b o e hx
  exact there b o' (neC b o e hx) e1
 ·obtain ⟨m1,e1⟩:=I.base.tbls b ps e
  obtain ⟨m2,e2⟩:=tbls b _ e1
  exact ⟨m1++m2,by rw [e2,Array.append_assoc]⟩
 ·obtain ⟨m,hn,hl⟩:=I.loc
  refine ⟨m,ns m hn,fun i x v e1 e2 e3=>?_⟩
  obtain ⟨u,r,l⟩:=hl i x v e1 e2 e3
  refine ⟨u,r,?_⟩
  rcases l with l | ⟨k,c,e,z⟩
  ·exact .inl l
  ·exact .inr ⟨k,c,e,cellK x c e _ z⟩
 ·obtain ⟨v,z⟩:=I.cell x c e
  exact ⟨v,cellK x c e v z⟩
 ·obtain ⟨m,⟨o,_,_,ho,_⟩,_⟩:=I.loc
  exact free _ o (fun z=>(hch _ z).2.1 rfl) ho I.free
 ·obtain ⟨v,o,ho,hd⟩:=I.cell x c e
  exact free c o (fun z=>(hch c z).2.2.1 x c e rfl) ho (I.freeC x c e)
 ·obtain ⟨e,n,ne,nf,d⟩:=I.pin p hp
  have nch:p.1∉ch:=fun z=>(hch p.1 z).2.2.2 p hp rfl
  exact ⟨keep p.1 p.2 ne nf nch e n,free p.1 p.2 nch e n,ne,nf,d⟩
theorem Inv.un {t':Nat} (I:Inv X pins σ H s) (u:Un X.fs [] H H' s.heap h') (hok:HOk X.prog X.w H' h'):Inv X pins σ H' {s with heap:=h',toks:=t'}:=by
 obtain ⟨m,⟨o,es,ep,ho,r⟩,_⟩:=id I.loc
 obtain ⟨sl,hL⟩:=u.any ho I.free (by simp)
 exact I.step (g':=s.gens) (d':=s.drawn) (ch:=[]) (fun _ z=>nomatch z) (fun b o _ hb _ e n=>u.keep b o e n hb (by simp)) (fun b o _ hb _ e n=>u.slot b o e n hb (by simp)) (fun b o _ e n=>u.free b o e n (by simp)) (fun b o _ e=>u.there b o e (by simp)) u.tups u.frzs u.tbls (fun m' hm=>by
  obtain ⟨o',es',ep',ho',r'⟩:=hm
  rw [ho]at ho';cases ho'
  exact ⟨_,es',ep',hL,r'⟩) hok I.bare
theorem Inv.call {g':Array GenState} {t':Nat} {d':Drawn} {ch:List Addr} (I:Inv X pins σ H s) (u:Un (frs X.stack) ch H H' s.heap h') (hok:HOk X.prog X.w H' h') (hg:AllBare g')
  (hch: ∀ b∈ch,(b∈X.ex\/X.s₀.heap.objs.size<=b)/\b≠X.env.locals/\(∀ x c,X.env.cells.lookup x=some c->c≠b)/\ ∀ p∈X.pn++pins,p.1≠b):
  Inv X pins σ H' {s with heap:=h',gens:=g',drawn:=d',toks:=t'}:=by
 obtain ⟨m,⟨o,es,ep,ho,r⟩,_⟩:=id I.loc
 obtain ⟨sl,hL⟩:=u.any ho I.free fun z=>(hch _ z).2.1 rfl
 exact I.step (ch:=ch) hch (fun b o hL hb hc e n=>u.keep b o e n (fun z=>(List.mem_cons.mp (I.stkSub b z)).elim hL hb) hc) (fun b o _ _ hc e n=>u.any e n hc) (fun b o hc e n=>u.free b o e n hc) (fun b o hc e=>u.there b o e hc) u.tups u.frzs u.tbls (fun m' hm=>by
  obtain ⟨o',es',ep',ho',r'⟩:=hm
  rw [ho]at ho';cases ho'
  exact ⟨_,es',ep',hL,r'⟩) hok hg
theorem Inv.turned {t':Nat} {it:Addr} (I:Inv X pins σ H s) (k: ∀ b o,b≠it->s.heap.get? b=some o->h'.get? b=some o) (hn:H it=none) (hL:it≠X.env.locals)
  (h1:it∈X.ex\/X.s₀.heap.objs.size<=it) (h2: ∀ x c,X.env.cells.lookup x=some c->c≠it) (h3: ∀ p∈X.pn++pins,p.1≠it):Inv X pins σ H {s with heap:=h',toks:=t'}:=by
 have nit: ∀ b u,H b=some u->b≠it:=fun b u e z=>by rw [z,hn]at e;cases e
 refine I.step (g':=s.gens) (d':=s.drawn) (ch:=[it]) (fun b hb=>?_) (fun b o _ _ hc e _=>k b o (fun z=>hc (by simp [z])) e) (fun b o _ _ hc e _=>⟨o.slots,k b o (fun z=>hc (by simp [z])) e⟩) (fun _ _ _ _ n=>n)
  (fun b o hc e=>⟨o,k b o (fun z=>hc (by simp [z])) e⟩) (fun _ _ e=>e) (fun _ _ _ e=>e) (fun b ps e=>⟨#[],by rw [e];simp⟩) (fun m hm=>?_) (fun b u e=>?_) I.bare
 ·have e:b=it:=by simpa using hb
  subst e
  exact ⟨h1,hL,h2,h3⟩
 ·obtain ⟨o,es,ep,ho,r⟩:=hm
  exact ⟨o,es,ep,k _ o (Ne.symm hL) ho,r⟩
 ·refine (I.hok b u e).stay (fun c v hc q=>k c v ?_ q) (fun _ q=>q) fun _ _ q=>q
  rcases hc with z | z
  ·rw [z];exact nit b u e
  ·exact nit c _ z
theorem Inv.tok (I:Inv X pins σ H s) (t:Nat):Inv X pins σ H {s with toks:=t}:=I.un (h':=s.heap) (t':=t) Un.refl I.hok
theorem Inv.kept {t':Nat} (I:Inv X pins σ H s) (k: ∀ b u,s.heap.get? b=some u->h'.get? b=some u):Inv X pins σ H {s with heap:=h',toks:=t'}:=I.un (Un.kept k) (I.hok.kept k)
theorem Inv.laid {a:Addr} {o:HO} {t':Nat} (I:Inv X pins σ H s) (k: ∀ b u,s.heap.get? b=some u->h'.get? b=some u) (hp:s.heap.objs.size<=a) (new:ObjOk X.prog X.w (upd H a o) h' a o):
  Inv X pins σ (upd H a o) {s with heap:=h',toks:=t'}:=I.un (Un.laid k hp (I.hok.fresh hp)) (I.hok.laid k hp new)
theorem Inv.write {x e:Addr} {o:HO} {t':Nat} (I:Inv X pins σ H s) (mu:Mut (H x)) (he:e=x\/H e=some (.own x)) (k: ∀ b u,b≠e->s.heap.get? b=some u->h'.get? b=some u) (heo: ∃ u,h'.get? e=some u)
  (new:ObjOk X.prog X.w (upd H x o) h' x o):Inv X pins σ (upd H x o) {s with heap:=h',toks:=t'}:=I.un (Un.write mu he k heo) (I.hok.write mu he k heo new)
theorem Inv.pins_of {pins':List (Addr×Obj)} (I:Inv X pins σ H s) (h: ∀ p∈pins',s.heap.get? p.1=some p.2/\H p.1=none/\p.1≠X.env.locals/\p.1∉X.fs/\ ∀ v,p.2.data≠ .cell v):Inv X pins' σ H s:=
 ⟨I.ok,I.os,I.bare,I.base,I.loc,I.cell,I.free,I.freeC,fun p hp=>(List.mem_append.mp hp).elim (fun z=>I.pin p (List.mem_append_left _ z)) (h p),I.hok,I.len⟩
theorem i3 {N:List Str} (hN:N.Nodup) {i j:Nat} {x:Str} (a:N[i]? =some x) (b:N[j]? =some x):i=j:=by
 obtain ⟨h1,e1⟩:=List.getElem?_eq_some_iff.mp a
 obtain ⟨h2,e2⟩:=List.getElem?_eq_some_iff.mp b
 exact (List.getElem_inj hN).mp (e1.trans e2.symm)
theorem eX {M:Model} {A:Around} {E:Value->Shared->Prop} {i:Nat} {x:Str} {v:V} {u:Value} {Q:Unit->Shared->Prop} (I:Inv X pins σ H s) (hN:X.N.Nodup) (hi:X.N[i]? =some x) (hx:Loc X.env.scope x) (r:RelV v u)
  (h: ∀ s',Inv X pins (σ.set i (some v)) H s'->(∃ a,Heap.SameBut a s.heap s'.heap/\(a=X.env.locals\/X.env.cells.lookup x=some a))->Q () s') (hf:X.fn x=true\/X.env.scope.names.lookup x=some .local:=by first | exact .inl rfl | exact .inr rfl | assumption):wpAny M A (storeName X.env x u) Q E s:=by
 obtain ⟨m,hn,hl⟩:=id I.loc
 have hcls:(X.env.scope.kind== .class||(X.env.scope.kind== .module&&X.env.locals !=X.env.globals))=false:=by rw [I.ok.kind];rfl
 have hiσ:i<σ.length:=by rw [I.len];exact (List.getElem?_eq_some_iff.mp hi).1
 have cne:=I.cne
 have tracked: ∀ {a:Addr} {h':Heap},(∃ o,s.heap.get? a=some o/\H a=none)->Heap.SameBut a s.heap h'->HOk X.prog X.w H h':=fun {a h'} ha hs b ob e=>by
  obtain ⟨_,_,hfree⟩:=ha
  refine (I.hok b ob e).stay (fun c w' hc q=>(hs.2 c ?_).trans q) (fun _ q=>q) fun _ _ q=>q
  rintro rfl
  rcases hc with rfl | hc
  ·rw [hfree]at e;cases e
  ·rw [hfree]at hc;cases hc
 rcases hx with hk | hk
 ·refine wpAny_storeName_local hk hn (fun h' hn' hs=>?_) hcls
  obtain ⟨oL,_,_,hoL,_⟩:=id hn
  refine h _ ⟨I.ok,I.os,I.bare,⟨fun b o e n hb hx=>?_,fun b o e n hb hx=>?_,I.base.free,fun b o e hx=>?_,I.base.tups,I.base.frzs,I.base.tbls⟩,⟨_,hn',fun j y v' e1 e2 e3=>?_⟩,fun y c e=>?_,I.free,I.freeC,fun p hp=>?_,tracked ⟨oL,hoL,I.free⟩ hs,by simpa using I.len⟩ ⟨_,hs,.inl rfl⟩
  ·exact (hs.2 b (Nat.ne_of_lt (Nat.lt_of_lt_of_le (Heap.lt_size e) I.ok.above))).trans (I.base.keep b o e n hb hx)
  ·obtain ⟨sl,e1⟩:=I.base.slot b o e n hb hx
   exact ⟨sl,(hs.2 b (Nat.ne_of_lt (Nat.lt_of_lt_of_le (Heap.lt_size e) I.ok.above))).trans e1⟩
  ·obtain ⟨o',e1⟩:=I.base.there b o e hx
   exact ⟨o',(hs.2 b (Nat.ne_of_lt (Nat.lt_of_lt_of_le (Heap.lt_size e) I.ok.above))).trans e1⟩
  ·by_cases hj:j=i
   ·subst hj
    rw [hi]at e1;cases e1
    rw [List.getElem?_set_self hiσ]at e2
    cases e2
    exact ⟨u,r,.inl ⟨hk,by simp⟩⟩
   ·rw [List.getElem?_set_ne (Ne.symm hj)]at e2
    obtain ⟨u',r',q⟩:=hl j y v' e1 e2 e3
    refine ⟨u',r',?_⟩
    rcases q with ⟨k,e⟩ | ⟨k,c,e,z⟩
    ·refine .inl ⟨k,?_⟩
     have:y≠x:=fun e=>hj (i3 hN e1 (e▸hi))
     simp [this,e]
    ·exact .inr ⟨k,c,e,z.sameBut hs (cne y c e)⟩
  ·obtain ⟨w',z⟩:=I.cell y c e
   exact ⟨w',z.sameBut hs (cne y c e)⟩
  ·obtain ⟨e,n,ne,nf,d⟩:=I.pin p hp
   exact ⟨(hs.2 p.1 ne).trans e,n,ne,nf,d⟩
 ·have hfn:X.fn x=true:=by
   rcases hf with z | z
   ·exact z
   ·rw [z]at hk;cases hk
  obtain ⟨c,hc⟩:=I.ok.has x (.inl hk)
  obtain ⟨w',z⟩:=I.cell x c hc
  refine wpAny_storeName_cell I.ok.kind hk hc z (fun h' hc' hs=>?_)
  obtain ⟨oc,hoc,hocd⟩:=id z
  refine h {s with heap:=h'} ⟨I.ok,I.os,I.bare,⟨fun b o e n hb hx=>?_,fun b o e n hb hx=>?_,I.base.free,fun b o e hx=>?_,I.base.tups,I.base.frzs,I.base.tbls⟩,⟨m,hn.sameBut hs (Ne.symm (cne x c hc)),fun j y v' e1 e2 e3=>?_⟩,fun y c' e=>?_,I.free,I.freeC,fun p hp=>?_,tracked ⟨oc,hoc,I.freeC x c hc⟩ hs,by simpa using I.len⟩ ⟨c,hs,.inr hc⟩
  ·exact (hs.2 b (Nat.ne_of_lt (Nat.lt_of_lt_of_le (Heap.lt_size e) (I.ok.cab x c hfn hc)))).trans (I.base.keep b o e n hb hx)
  ·obtain ⟨sl,e1⟩:=I.base.slot b o e n hb hx
   exact ⟨sl,(hs.2 b (Nat.ne_of_lt (Nat.lt_of_lt_of_le (Heap.lt_size e) (I.ok.cab x c hfn hc)))).trans e1⟩
  ·obtain ⟨o',e1⟩:=I.base.there b o e hx
   exact ⟨o',(hs.2 b (Nat.ne_of_lt (Nat.lt_of_lt_of_le (Heap.lt_size e) (I.ok.cab x c hfn hc)))).trans e1⟩
  ·by_cases hj:j=i
   ·subst hj
    rw [hi]at e1;cases e1
    rw [List.getElem?_set_self hiσ]at e2
    cases e2
    exact ⟨u,r,.inr ⟨.inl hk,c,hc,hc'⟩⟩
   ·rw [List.getElem?_set_ne (Ne.symm hj)]at e2
    obtain ⟨u',r',q⟩:=hl j y v' e1 e2 e3
    refine ⟨u',r',?_⟩
    rcases q with q | ⟨k,c',e,z'⟩
    ·exact .inl q
    ·refine .inr ⟨k,c',e,z'.sameBut hs ?_⟩
     rintro rfl
     exact hj (i3 hN e1 (I.ok.inj _ _ _ e hc▸hi))
  ·by_cases hcc:c'=c
   ·subst hcc;exact ⟨_,hc'⟩
   ·obtain ⟨w2,z2⟩:=I.cell y c' e
    exact ⟨w2,z2.sameBut hs hcc⟩
  ·obtain ⟨e,n,ne,nf,d⟩:=I.pin p hp
   refine ⟨(hs.2 p.1 ?_).trans e,n,ne,nf,d⟩
   intro q
   rw [q,hoc]at e
   have q':oc=p.2:=Option.some.inj e
   exact d w' (by rw [<- q'];exact hocd)
theorem iF {M:Model} {A:Around} {E:Value->Shared->Prop} {i:Nat} {x:Str} {v:V} {u:Value} {Q:Unit->Shared->Prop} (I:Inv X pins σ H s) (hN:X.N.Nodup) (hi:X.N[i]? =some x) (hx:Loc X.env.scope x) (r:RelV v u)
  (h: ∀ s',Inv X pins (σ.set i (some v)) H s'->Q () s') (hf:X.fn x=true\/X.env.scope.names.lookup x=some .local:=by first | exact .inl rfl | exact .inr rfl | assumption):wpAny M A (storeName X.env x u) Q E s:=
 eX I hN hi hx r (fun s' I' _=>h s' I') hf
theorem Inv.call' {s':Shared} {ch:List Addr} (I:Inv X pins σ H s) (ho:s'.os=s.os) (u:Un (frs X.stack) ch H H' s.heap s'.heap) (hok:HOk X.prog X.w H' s'.heap) (hg:AllBare s'.gens)
  (hch: ∀ b∈ch,(b∈X.ex\/X.s₀.heap.objs.size<=b)/\b≠X.env.locals/\(∀ x c,X.env.cells.lookup x=some c->c≠b)/\ ∀ p∈X.pn++pins,p.1≠b):Inv X pins σ H' s':=by
 obtain ⟨h',g',d',t',o'⟩:=s'
 have e:o'=s.os:=ho
 subst e
 exact I.call (g':=g') (t':=t') (d':=d') u hok hg hch
end
noncomputable abbrev XK:=Value->Option Addr->Hp->Prop
noncomputable abbrev St:=List (Option V)
noncomputable abbrev VK:=V->Hp->Prop
noncomputable abbrev TE:=St->Hp->VK->Prop
noncomputable abbrev TT:=St->Hp->(Bool->Hp->Prop)->Prop
noncomputable abbrev TA:=St->Hp->(List V->Hp->Prop)->Prop
structure eV where
 nx:St->Hp->Prop
 rt:VK
 bk:St->Hp->Prop:=fun _ _=>False
 ct:St->Hp->Prop:=fun _ _=>False
noncomputable abbrev TS:=eV->St->Hp->Prop
noncomputable def EP (X:Cx) (pins:List (Addr×Obj)) (σ:St) (Q:VK) (u:Value) (s':Shared):Prop:= ∃ v H',Inv X pins σ H' s'/\RelV v u/\Q v H'
noncomputable def TP (X:Cx) (pins:List (Addr×Obj)) (σ:St) (Q:Bool->Hp->Prop) (b:Bool) (s':Shared):Prop:= ∃ H',Inv X pins σ H' s'/\Q b H'
noncomputable def AP (X:Cx) (pins:List (Addr×Obj)) (σ:St) (Q:List V->Hp->Prop) (us:List Value) (s':Shared):Prop:= ∃ vs H',Inv X pins σ H' s'/\Vals vs us/\Q vs H'
noncomputable def SP (X:Cx) (pins:List (Addr×Obj)) (D:eV) (f:Flow) (s':Shared):Prop:=
 match f with
 | .next=> ∃ σ' H',Inv X pins σ' H' s'/\D.nx σ' H'
 | .brk=> ∃ σ' H',Inv X pins σ' H' s'/\D.bk σ' H'
 | .cont=> ∃ σ' H',Inv X pins σ' H' s'/\D.ct σ' H'
 | .ret u=> ∃ v σ' H',Inv X pins σ' H' s'/\RelV v u/\D.rt v H'
noncomputable def PE (X:Cx) (e:Expr) (t:TE):Prop:=
 ∀ (pins:List (Addr×Obj)) (s:Shared) (σ:St) (H:Hp) (Q:VK),Inv X pins σ H s->t σ H Q->wpAny (model X.prog X.w) X.A (eval e X.env) (EP X pins σ Q) X.xe s
noncomputable def PT (X:Cx) (e:Expr) (t:TT):Prop:=
 ∀ (pins:List (Addr×Obj)) (s:Shared) (σ:St) (H:Hp) (Q:Bool->Hp->Prop),Inv X pins σ H s->t σ H Q->wpAny (model X.prog X.w) X.A (isTrue e X.env (eval e X.env)) (TP X pins σ Q) X.xe s
noncomputable def PW (X:Cx) (e:Expr) (t:TT):Prop:=
 ∀ (whole:Sem Value) (pins:List (Addr×Obj)) (s:Shared) (σ:St) (H:Hp) (Q:Bool->Hp->Prop),Inv X pins σ H s->t σ H Q->wpAny (model X.prog X.w) X.A (isTrue e X.env whole) (TP X pins σ Q) X.xe s
theorem PW.pt {X:Cx} {e:Expr} {t:TT} (h:PW X e t):PT X e t:=h _
noncomputable def PA (X:Cx) (es:List Expr) (t:TA):Prop:=
 ∀ (pos:Pos) (pins:List (Addr×Obj)) (s:Shared) (σ:St) (H:Hp) (Q:List V->Hp->Prop),Inv X pins σ H s->t σ H Q->wpAny (model X.prog X.w) X.A (spliced (backTo pos (starEach es X.env))) (AP X pins σ Q) X.xe s
noncomputable def PS (X:Cx) (st:Stmt) (t:TS):Prop:=
 ∀ (pins:List (Addr×Obj)) (s:Shared) (σ:St) (H:Hp) (D:eV),Inv X pins σ H s->t D σ H->wpAny (model X.prog X.w) X.A (exec st X.env) (SP X pins D) X.xe s
noncomputable def PSs (X:Cx) (st:List Stmt) (t:TS):Prop:=
 ∀ (pins:List (Addr×Obj)) (s:Shared) (σ:St) (H:Hp) (D:eV),Inv X pins σ H s->t D σ H->wpAny (model X.prog X.w) X.A (execs st X.env) (SP X pins D) X.xe s
theorem thn {α:Type} {t:Sem α} {Q Q':α->Shared->Prop} {M:Model} {A:Around} {E:Value->Shared->Prop} {s:Shared} (h:wpAny M A t Q E s) (hQ: ∀ a s,Q a s->Q' a s):wpAny M A t Q' E s:=wpAny_mono h hQ fun _ _ x=>x
section
variable {X:Cx}
noncomputable def vQ (i:Nat):TE:=fun σ H Q=> ∃ v,σ[i]? =some (some v)/\Q v H
noncomputable def tC (v:V):TE:=fun _ H Q=>Q v H
theorem sI {i:Nat} {x:Str} {pos:Pos} (hN:X.N[i]? =some x) (hv:Vis X.env.scope x) (hd:(x==("__debug__":Str))=false:=by decide) (hcd:(x==("__classdict__":Str))=false:=by decide):PE X (.Name x pos) (vQ i):=by
 intro pins s σ H Q I h
 obtain ⟨v,e,h⟩:=h
 obtain ⟨m,hn,hl⟩:=I.loc
 obtain ⟨u,r,l⟩:=hl i x v hN e hv
 have fin:EP X pins σ Q u s:=⟨v,H,I,r,h⟩
 rcases l with ⟨hk,hm⟩ | ⟨hk,c,hc,hcell⟩
 ·exact wpAny_Name (wpAny_loadName_local I.ok.kind hk hn hm fin) hd
 ·rcases hk with hk | hk
  ·exact wpAny_Name (wpAny_loadName_cell I.ok.kind hk hc hcell fin) hd
  ·exact wpAny_Name (wpAny_loadName_free I.ok.kind hk hc hcell fin hcd) hd
theorem ai {i j pos}:PE X (.Constant (.int i) j pos) (tC (.int i)):=fun _ _ _ H _ I h=>wpAny_Constant_int ⟨.int i,H,I.tok _,⟨_,rfl⟩,h⟩
theorem gW {b j pos}:PE X (.Constant (.bool b) j pos) (tC (.bl b)):=fun _ _ _ H _ I h=>Constant_bool ⟨.bl b,H,I,rfl,h⟩
theorem nQ {j pos}:PE X (.Constant .none j pos) (tC .non):=fun _ _ _ H _ I h=>Constant_none ⟨.non,H,I,rfl,h⟩
theorem aL {x j pos}:PE X (.Constant (.str x) j pos) (tC (.str x)):=fun _ _ _ H _ I h=>Calls.Constant_str ⟨.str x,H,I.tok _,⟨_,rfl⟩,h⟩
noncomputable def Gl (X:Cx) (x:Str):Prop:=X.env.kindOf x=some .globalImplicit
theorem ll {E:Value->Shared->Prop} {pins:List (Addr×Obj)} {s:Shared} {σ:St} {H:Hp} {x:Str} {u:Value} {pos:Pos} {Q:Value->Shared->Prop} (I:Inv X pins σ H s) (hg:Gl X x) (hm:X.mg x=some u) (h:Q u s)
  (hd:(x==("__debug__":Str))=false:=by decide):wpAny (model X.prog X.w) X.A (eval (.Name x pos) X.env) Q E s:=
 Calls.Name_function_global I.ok.kind hg (Calls.loadGlobal_global (by rw [I.ok.glob];exact I.mod.glob.keeps I.bk) hm h) hd
theorem eR {E:Value->Shared->Prop} {pins:List (Addr×Obj)} {s:Shared} {σ:St} {H:Hp} {x:Str} {u:Value} {pos:Pos} {Q:Value->Shared->Prop} (I:Inv X pins σ H s) (hg:Gl X x) (hm:X.mg x=none) (hv:bootBuiltins x=some u) (h:Q u s)
  (hn:x≠"__name__":=by decide) (hd:(x==("__debug__":Str))=false:=by decide):wpAny (model X.prog X.w) X.A (eval (.Name x pos) X.env) Q E s:=by
 obtain ⟨mb,h1,h2⟩:=I.mod.blt
 exact Calls.Name_function_global I.ok.kind hg (Calls.loadGlobal_builtin (by rw [I.ok.glob];exact I.mod.glob.keeps I.bk) hm (by rw [I.ok.blt];exact h1.keeps I.bk) ((h2 x hn).trans hv) h) hd
theorem gb {x:Str} {v:V} {u:Value} {pos:Pos} (hg:Gl X x) (hm:X.mg x=some u) (r:RelV v u) (hd:(x==("__debug__":Str))=false:=by decide):PE X (.Name x pos) (tC v):=
 fun _ _ _ H _ I h=>ll I hg hm ⟨v,H,I,r,h⟩ hd
theorem cD {x:Str} {v:V} {u:Value} {pos:Pos} (hg:Gl X x) (hm:X.mg x=none) (hv:bootBuiltins x=some u) (r:RelV v u) (hn:x≠"__name__":=by decide) (hd:(x==("__debug__":Str))=false:=by decide):PE X (.Name x pos) (tC v):=
 fun _ _ _ H _ I h=>eR I hg hm hv ⟨v,H,I,r,h⟩ hn hd
variable {a b:Expr} {ta tb:TE} {pos:Pos}
noncomputable def PC (X:Cx) (op:CmpOp) (a b:Expr) (t:TE):Prop:=
 ∀ (pins:List (Addr×Obj)) (s:Shared) (σ:St) (H:Hp) (Q:VK),Inv X pins σ H s->t σ H Q->
  wpAny (model X.prog X.w) X.A (eval a X.env) (fun v s₁=>wpAny (model X.prog X.w) X.A (eval b X.env) (fun u s₂=>wpAny (model X.prog X.w) X.A (compareOp op v u) (EP X pins σ Q) X.xe s₂) X.xe s₁) X.xe s
noncomputable def tB (t:TE):TT:=fun σ H Q=>t σ H fun x H1=> ∃ c,x=.bl c/\Q c H1
theorem kY {op:CmpOp} {t:TE} (h:PC X op a b t) (h1:behindInMarks op b=false:=by first | exact nobehind _ (by decide) (by decide) | rfl):PT X (.Compare a [op] [b] pos) (tB t):=by
 intro pins s σ H Q I hw
 refine wpAny_isTrue_Compare1 (thn (h pins s σ H _ I hw) fun v s1 h1=>thn h1 fun u s2 h2=>thn h2 fun c s3 ⟨x,H1,I1,r1,q1⟩=>?_) h1
 obtain ⟨d,rfl,q⟩:=q1
 cases r1
 exact wpAny_truthy_bool ⟨H1,I1,q⟩
theorem fI {e:Expr} {t:TE} (h:PE X e t) (he: ∀ whole,isTrue e X.env whole=(do let v <- whole;standAt e.pos;holding [v] (truthy v)):=by intro _;rfl):PT X e (tB t):=by
 intro pins s σ H Q I hw
 refine isTrue_plain (thn (h pins s σ H _ I hw) fun v s1 ⟨x,H1,I1,r1,q1⟩=>?_) (he _)
 obtain ⟨d,rfl,q⟩:=q1
 cases r1
 exact wpAny_truthy_bool ⟨H1,I1,q⟩
variable {tA tB':TT} {rest:List Expr}
noncomputable def x8 (t u:TT):TT:=fun σ H Q=>t σ H fun c H1=>if c=true then u σ H1 Q else Q false H1
noncomputable def tOr (t u:TT):TT:=fun σ H Q=>t σ H fun c H1=>if c=true then Q true H1 else u σ H1 Q
noncomputable def xZ (t:TT):TT:=fun σ H Q=>t σ H fun c H1=>Q (!c) H1
theorem fc (ha:PT X a tA):PW X (.BoolOp .And [a] pos) tA:=by
 intro wh pins s σ H Q I h
 refine isTrue_and (thn (ha pins s σ H Q I h) fun c s1 e=>?_)
 cases c with
 | true=>exact isTrue_and_nil e
 | false=>exact e
theorem kX (ha:PT X a tA):PW X (.BoolOp .Or [a] pos) tA:=by
 intro wh pins s σ H Q I h
 refine isTrue_or (thn (ha pins s σ H Q I h) fun c s1 e=>?_)
 cases c with
 | false=>exact isTrue_or_nil e
 | true=>exact e
theorem gG (ha:PT X a tA) (hb:PW X (.BoolOp .And (b::rest) pos) tB'):PW X (.BoolOp .And (a::b::rest) pos) (x8 tA tB'):=by
 intro wh pins s σ H Q I h
 refine isTrue_and (thn (ha pins s σ H _ I h) fun c s1 ⟨H1,I1,q1⟩=>?_)
 cases c with
 | true=>exact hb wh pins s1 σ H1 Q I1 q1
 | false=>exact ⟨H1,I1,q1⟩
theorem oY (ha:PT X a tA) (hb:PW X (.BoolOp .Or (b::rest) pos) tB'):PW X (.BoolOp .Or (a::b::rest) pos) (tOr tA tB'):=by
 intro wh pins s σ H Q I h
 refine isTrue_or (thn (ha pins s σ H _ I h) fun c s1 ⟨H1,I1,q1⟩=>?_)
 cases c with
 | true=>exact ⟨H1,I1,q1⟩
 | false=>exact hb wh pins s1 σ H1 Q I1 q1
theorem nL (ha:PT X a tA):PT X (.UnaryOp .Not a pos) (xZ tA):=by
 intro pins s σ H Q I h
 exact isTrue_not (ha pins s σ H (fun c H1=>Q (!c) H1) I h)
noncomputable def xj (ta tb:TE):TE:=fun σ H Q=>ta σ H fun x H1=> ∃ c,x=.bl c/\if c=true then tb σ H1 Q else Q (.bl false) H1
noncomputable def xa (ta:TE):TE:=fun σ H Q=>ta σ H fun x H1=> ∃ c,x=.bl c/\Q (.bl (!c)) H1
theorem iU {op} {t:TE} (h:PE X a t):PE X (.BoolOp op [a] pos) t:=fun pins s σ H Q I hw=>BoolOp_one (h pins s σ H Q I hw)
theorem iV (ha:PE X a ta) (hb:PE X (.BoolOp .And (b::rest) pos) tb):PE X (.BoolOp .And (a::b::rest) pos) (xj ta tb):=by
 intro pins s σ H Q I h
 refine BoolOp_and (thn (ha pins s σ H _ I h) fun v s1 ⟨x,H1,I1,r1,q1⟩=>?_)
 obtain ⟨c,rfl,q1⟩:=q1
 cases r1
 refine wpAny_truthy_bool ?_
 cases c with
 | true=>exact hb pins s1 σ H1 Q I1 q1
 | false=>exact ⟨.bl false,H1,I1,rfl,q1⟩
theorem wo (ha:PE X a ta):PE X (.UnaryOp .Not a pos) (xa ta):=by
 intro pins s σ H Q I h
 refine UnaryOp_ (thn (ha pins s σ H _ I h) fun v s1 ⟨x,H1,I1,r1,q1⟩=>?_)
 obtain ⟨c,rfl,q1⟩:=q1
 cases r1
 exact not_of (wpAny_truthy_bool ⟨.bl (!c),H1,I1,rfl,q1⟩)
noncomputable def tIf (t:TT) (ta tb:TE):TE:=fun σ H Q=>t σ H fun c H1=>if c=true then ta σ H1 Q else tb σ H1 Q
theorem eP {c:Expr} (hc:PT X c tA) (ha:PE X a ta) (hb:PE X b tb):PE X (.IfExp c a b pos) (tIf tA ta tb):=by
 intro pins s σ H Q I h
 refine wpAny_IfExp (thn (hc pins s σ H _ I h) fun d s1 ⟨H1,I1,q1⟩=>?_)
 cases d with
 | true=>exact ha pins s1 σ H1 Q I1 q1
 | false=>exact hb pins s1 σ H1 Q I1 q1
end
noncomputable def SqL (K:PySem.W.Frag) (H:Hp) (a:Addr) (xs:List V):Prop:=
 Rd H a (.lst xs)\/
  ∃ (o:Obj) (its:Array Value) (n:Nat),K.lookup a=some o/\o.cls=.type "list"/\o.dict=none/\o.data=.seq its n/\its.size<=sizeLine/\Vals xs its.toList
noncomputable def SqT (K:PySem.W.Frag) (H:Hp) (a:Addr) (xs:List V):Prop:=
 Rd H a (.tup xs)\/
  ∃ (o:Obj) (its:Array Value) (n:Nat),K.lookup a=some o/\o.cls=.type "tuple"/\o.data=.seq its n/\its.size<=sizeLine/\Vals xs its.toList
noncomputable def yB:Value->Option V
 | .none=>some .non
 | .bool b=>some (.bl b)
 | .int i _=>some (.int i)
 | .str x _=>some (.str x)
 | .bytes b _=>some (.byt b)
 | .float b _=>some (.flt b)
 | .ref a=>some (.ref a)
 | .type n=>some (.ty n)
 | _=>none
theorem RelV.abs {x:V} {u:Value} (r:RelV x u):yB u=some x:=by
 cases x with
 | non=>cases r;rfl
 | bl _=>cases r;rfl
 | int _=>obtain ⟨t,rfl⟩:=r;rfl
 | str _=>obtain ⟨t,rfl⟩:=r;rfl
 | byt _=>obtain ⟨t,rfl⟩:=r;rfl
 | flt _=>obtain ⟨t,rfl⟩:=r;rfl
 | ref _=>cases r;rfl
 | ty _=>cases r;rfl
theorem RelV.inj {x y:V} {u:Value} (r:RelV x u) (q:RelV y u):x=y:=Option.some.inj (r.abs.symm.trans q.abs)
theorem Vals.inj: ∀ {xs ys:List V} {us:List Value},Vals xs us->Vals ys us->xs=ys
 | _,_,_,.nil,.nil=>rfl
 | _,_,_,.cons r t,.cons r' t'=>by rw [r.inj r',Vals.inj t t']
section
variable {X:Cx} {pins:List (Addr×Obj)} {σ:St} {H:Hp} {s:Shared} {a:Addr} {xs ys:List V}
theorem SqL.of {K:PySem.W.Frag} (h:H a=some (.lst xs)):SqL K H a xs:=.inl (.inl h)
theorem SqT.of {K:PySem.W.Frag} (h:H a=some (.tup xs)):SqT K H a xs:=.inl (.inl h)
theorem Inv.list (I:Inv X pins σ H s) (h:SqL X.K H a xs): ∃ its:List Value,Vals xs its/\PlainL s.heap a its.toArray/\xs.length<=sizeLine:=by
 rcases h with h | ⟨o,its,n,hk,hc,hd,hs,hz,r⟩
 ·obtain ⟨z,its,n,r,e⟩:=h.ok I.hok
  exact ⟨its,r,⟨_,n,e,rfl,rfl,rfl⟩,z⟩
 ·refine ⟨its.toList,r,⟨o,n,I.kIn a o hk,hc,hd,by simpa using hs⟩,?_⟩
  have e:=r.length
  simp only [Array.length_toList]at e
  lia
theorem Inv.tuple (I:Inv X pins σ H s) (h:SqT X.K H a xs): ∃ its:List Value,Vals xs its/\IsTup s.heap a its.toArray/\xs.length<=sizeLine:=by
 rcases h with h | ⟨o,its,n,hk,hc,hs,hz,r⟩
 ·obtain ⟨z,its,r,p⟩:=h.ok I.hok
  exact ⟨its,r,p,z⟩
 ·refine ⟨its.toList,r,⟨o,I.kIn a o hk,hc,n,by simpa using hs⟩,?_⟩
  have e:=r.length
  simp only [Array.length_toList]at e
  lia
theorem Inv.list_inj (I:Inv X pins σ H s) (h:SqL X.K H a xs) (h':SqL X.K H a ys):xs=ys:=by
 obtain ⟨its,r,⟨o,n,e,_,_,d⟩,_⟩:=I.list h
 obtain ⟨its',r',⟨o',n',e',_,_,d'⟩,_⟩:=I.list h'
 rw [e]at e';cases e'
 rw [d]at d'
 injection d' with d1 _
 have:its=its':=by simpa using congrArg Array.toList d1
 subst this
 exact r.inj r'
theorem Inv.tuple_inj (I:Inv X pins σ H s) (h:SqT X.K H a xs) (h':SqT X.K H a ys):xs=ys:=by
 obtain ⟨its,r,⟨o,e,_,n,d⟩,_⟩:=I.tuple h
 obtain ⟨its',r',⟨o',e',_,n',d'⟩,_⟩:=I.tuple h'
 rw [e]at e';cases e'
 rw [d]at d'
 injection d' with d1 _
 have:its=its':=by simpa using congrArg Array.toList d1
 subst this
 exact r.inj r'
end
noncomputable abbrev Cx.wish (X:Cx) (E:Value->Shared->Prop):Cx:={X with xe:=E}
noncomputable abbrev Cx.nox (X:Cx):Cx:=X.wish fun _ _=>False
theorem Cx.Ok.wish {X:Cx} (ok:X.Ok) (E:Value->Shared->Prop):(X.wish E).Ok:=
 ⟨ok.mod,ok.kind,ok.glob,ok.blt,ok.above,ok.inj,ok.has,ok.cab,ok.hd,ok.frames,ok.stk,ok.exf,ok.bs,ok.bsz,ok.noex,ok.exfs,ok.funs,ok.frf⟩
theorem Cx.Ok.unwish {X:Cx} {E:Value->Shared->Prop} (ok:(X.wish E).Ok):X.Ok:=
 ⟨ok.mod,ok.kind,ok.glob,ok.blt,ok.above,ok.inj,ok.has,ok.cab,ok.hd,ok.frames,ok.stk,ok.exf,ok.bs,ok.bsz,ok.noex,ok.exfs,ok.funs,ok.frf⟩
section
variable {X:Cx} {pins:List (Addr×Obj)} {σ:St} {H:Hp} {s:Shared} {E:Value->Shared->Prop}
theorem Inv.wish (I:Inv X pins σ H s) (E:Value->Shared->Prop):Inv (X.wish E) pins σ H s:=⟨I.ok.wish E,I.os,I.bare,I.base,I.loc,I.cell,I.free,I.freeC,I.pin,I.hok,I.len⟩
theorem Inv.unwish (I:Inv (X.wish E) pins σ H s):Inv X pins σ H s:=⟨I.ok.unwish,I.os,I.bare,I.base,I.loc,I.cell,I.free,I.freeC,I.pin,I.hok,I.len⟩
theorem SP.unwish {D:eV} {f:Flow} {s':Shared} (h:SP (X.wish E) pins D f s'):SP X pins D f s':=by
 cases f with
 | next=>obtain ⟨σ',H',I,q⟩:=h;exact ⟨σ',H',I.unwish,q⟩
 | brk=>obtain ⟨σ',H',I,q⟩:=h;exact ⟨σ',H',I.unwish,q⟩
 | cont=>obtain ⟨σ',H',I,q⟩:=h;exact ⟨σ',H',I.unwish,q⟩
 | ret u=>obtain ⟨v,σ',H',I,r,q⟩:=h;exact ⟨v,σ',H',I.unwish,r,q⟩
theorem PSs.nox {st:List Stmt} {t:TS} (h:PSs X.nox st t):PSs X st t:=fun pins s σ H D I hw=>
 wpAny_mono (h pins s σ H D (I.wish _) hw) (fun _ _ q=>q.unwish) fun _ _ z=>False.elim z
end
section
variable {X:Cx} {st:Stmt} {rest:List Stmt} {t u:TS} {e:Expr} {te:TE} {pos:Pos}
noncomputable def xb:TS:=fun D σ H=>D.nx σ H
noncomputable def vR (t u:TS):TS:=fun D σ H=>t {D with nx:=u D} σ H
theorem aN:PSs X [] xb:=fun _ _ σ H _ I h=>wpAny_execs_nil ⟨σ,H,I,h⟩
theorem ae (h1:PS X st t) (h2:PSs X rest u):PSs X (st::rest) (vR t u):=by
 intro pins s σ H D I h
 refine wpAny_execs_cons (thn (h1 pins s σ H {D with nx:=u D} I h) fun f s1 q=>?_)
 cases f with
 | next=>
  obtain ⟨σ',H',I',q⟩:=q
  exact h2 pins s1 σ' H' D I' q
 | ret v=>exact q
 | brk=>exact q
 | cont=>exact q
theorem aj (h1:PS X st t):PSs X [st] t:=by
 intro pins s σ H D I h
 refine wpAny_execs_cons (thn (h1 pins s σ H D I h) fun f s1 q=>?_)
 cases f with
 | next=>exact wpAny_execs_nil q
 | ret v=>exact q
 | brk=>exact q
 | cont=>exact q
theorem Inv.quiet {pins:List (Addr×Obj)} {σ:St} {H:Hp} {s:Shared} (I:Inv X pins σ H s):interactive X.env=false:=by simp [interactive,I.ok.kind]
noncomputable def xf (te:TE):TS:=fun D σ H=>te σ H fun _ H1=>D.nx σ H1
theorem bH (he:PE X e te) (hs:swapsWith e none pos.line X.env=pure false:=by rfl):PS X (.Expr e pos) (xf te):=by
 intro pins s σ H D I h
 exact wpAny_Expr_any (thn (he pins s σ H _ I h) fun v s1 ⟨x,H1,I1,r1,q1⟩=>⟨σ,H1,I1,q1⟩) I.quiet hs
noncomputable def xY (te:TE):TS:=fun D σ H=>te σ H D.rt
theorem aB (he:PE X e te):PS X (.Return (some e) pos) (xY te):=by
 intro pins s σ H D I h
 exact wpAny_Return_some (thn (he pins s σ H _ I h) fun v s1 ⟨x,H1,I1,r1,q1⟩=>⟨x,σ,H1,I1,r1,q1⟩)
noncomputable def x3 (c:TT) (t u:TS):TS:=fun D σ H=>c σ H fun b H1=>if b=true then t D σ H1 else u D σ H1
theorem bh {c:Expr} {a b:List Stmt} {tc:TT} (hc:PT X c tc) (ha:PSs X a t) (hb:PSs X b u):PS X (.If c a b pos) (x3 tc t u):=by
 intro pins s σ H D I h
 refine wpAny_If (thn (hc pins s σ H _ I h) fun d s1 ⟨H1,I1,q1⟩=>?_)
 cases d with
 | true=>exact ha pins s1 σ H1 D I1 q1
 | false=>exact hb pins s1 σ H1 D I1 q1
noncomputable def vS:TS:=fun _ _ _=>False
theorem gI {sts:List Stmt}:PSs X sts vS:=fun _ _ _ _ _ _ h=>h.elim
end
noncomputable abbrev TG:=V->St->Hp->(St->Hp->Prop)->Prop
noncomputable abbrev TGs:=List V->St->Hp->(St->Hp->Prop)->Prop
noncomputable def PG (X:Cx) (target:Expr) (t:TG):Prop:=
 ∀ (pins:List (Addr×Obj)) (s:Shared) (σ:St) (H:Hp) (v:V) (u:Value) (Q:St->Hp->Prop),Inv X pins σ H s->RelV v u->t v σ H Q->
  wpAny (model X.prog X.w) X.A (assign target X.env u) (fun _ s'=> ∃ σ' H',Inv X pins σ' H' s'/\Q σ' H') X.xe s
noncomputable def PGs (X:Cx) (ts:List Expr) (t:TGs):Prop:=
 ∀ (pins:List (Addr×Obj)) (s:Shared) (σ:St) (H:Hp) (vs:List V) (us:List Value) (Q:St->Hp->Prop),Inv X pins σ H s->Vals vs us->t vs σ H Q->
  wpAny (model X.prog X.w) X.A (assignInOrder ((assignEach ts X.env).map (·.2)) us) (fun _ s'=> ∃ σ' H',Inv X pins σ' H' s'/\Q σ' H') X.xe s
noncomputable abbrev wW:=V->V->V->Hp->(Hp->Prop)->Prop
noncomputable def xT (X:Cx) (t:wW):Prop:=
 ∀ (pins:List (Addr×Obj)) (s:Shared) (σ:St) (H:Hp) (o i v:V) (ov iv u:Value) (Q:Hp->Prop),Inv X pins σ H s->RelV o ov->RelV i iv->RelV v u->t o i v H Q->
  wpAny (model X.prog X.w) X.A (setItem ov iv u) (fun _ s'=> ∃ H',Inv X pins σ H' s'/\Q H') X.xe s
noncomputable abbrev TIp:=V->V->Hp->VK->Prop
noncomputable def PIp (X:Cx) (op:Operator) (t:TIp):Prop:=
 ∀ (pins:List (Addr×Obj)) (s:Shared) (σ:St) (H:Hp) (x y:V) (v u:Value) (Q:VK),Inv X pins σ H s->RelV x v->RelV y u->t x y H Q->
  wpAny (model X.prog X.w) X.A (inplaceOp op v u) (EP X pins σ Q) X.xe s
section
variable {X:Cx} {pos:Pos}
noncomputable def eD (i:Nat):TG:=fun v σ H Q=>Q (σ.set i (some v)) H
theorem av {i:Nat} {x:Str} (hN:X.N.Nodup) (hi:X.N[i]? =some x) (hx:Loc X.env.scope x) (hf:X.fn x=true\/X.env.scope.names.lookup x=some .local:=by first | exact .inl rfl | exact .inr rfl | assumption):PG X (.Name x pos) (eD i):=by
 intro pins s σ H v u Q I r h
 exact wpAny_assign_Name (iF I hN hi hx r (fun s' I'=>⟨_,H,I',h⟩) hf)
noncomputable def xM:TGs:=fun vs σ H Q=>vs=[]/\Q σ H
noncomputable def tU (t:TG) (u:TGs):TGs:=fun vs σ H Q=> ∃ v r,vs=v::r/\t v σ H fun σ' H'=>u r σ' H' Q
theorem ce:PGs X [] xM:=by
 intro pins s σ H vs us Q I r h
 obtain ⟨e,h⟩:=h
 subst e
 cases r
 exact assignInOrder_nil ⟨σ,H,I,h⟩
theorem aG {e:Expr} {es:List Expr} {t:TG} {u:TGs} (h1:PG X e t) (h2:PGs X es u)
  (hs:(assignEach (e::es) X.env).map (·.2)=assign e X.env::(assignEach es X.env).map (·.2):=by rfl):PGs X (e::es) (tU t u):=by
 intro pins s σ H vs us Q I r h
 obtain ⟨v,vr,e1,h⟩:=h
 subst e1
 cases r with
 | cons r rr=>
  rw [hs]
  refine assignInOrder_cons (thn (h1 pins s σ H _ _ _ I r h) fun _ s1 ⟨σ1,H1,I1,q1⟩=>?_)
  exact h2 pins s1 σ1 H1 _ _ Q I1 rr q1
noncomputable def xL (K:PySem.W.Frag) (n:Nat) (t:TGs):TG:=fun v σ H Q=> ∃ a xs,v=.ref a/\SqT K H a xs/\xs.length=n/\t xs σ H Q
theorem cP {es:List Expr} {k:Nat} {t:TGs} {n:Nat} (hc:X.calm=true) (h:PGs X es t)
  (hn:(assignEach es X.env).length=n:=by rfl) (hst:(assignEach es X.env).findIdx? (·.1)=none:=by rfl):PG X (.Tuple es k pos) (xL X.K n t):=by
 intro pins s σ H v u Q I r hw
 obtain ⟨a,xs,e1,hq,hl,hw⟩:=hw
 subst e1
 cases r
 obtain ⟨its,rv,ht,hz⟩:=I.tuple hq
 refine assign_Tuple_tuple (I.ok.hd hc) ht (by simp [hn,<- hl,rv.length]) hst fun h' hx=>?_
 have I1:Inv X pins σ H {s with heap:=h'}:=I.kept (t':=s.toks) fun b o e=>hx b o (Nat.ne_of_lt (Heap.lt_size e)) e
 exact h pins _ σ H xs _ Q I1 (by simpa using rv) hw
noncomputable def yw (to ti:TE) (t:wW):TG:=fun v σ H Q=>to σ H fun o H1=>ti σ H1 fun i H2=>t o i v H2 fun H3=>Q σ H3
theorem wn {o i:Expr} {to ti:TE} {t:wW} (ho:PE X o to) (hi:PE X i ti) (hs:xT X t)
  (ha: ∀ v,assign (.Subscript o i pos) X.env v=(do
   let ov <- holding [v] (eval o X.env)
   let iv <- holding [v,ov] (eval i X.env)
   standAt pos
   holding [v,ov,iv] (setItem ov iv v)
   release [v,ov,iv] []):=by intro _;rfl):PG X (.Subscript o i pos) (yw to ti t):=by
 intro pins s σ H v u Q I r h
 rw [ha]
 refine wpAny_bind (wpAny_holding (thn (ho pins s σ H _ I h) fun ov s1 ⟨x,H1,I1,r1,q1⟩=>?_))
 refine wpAny_bind (wpAny_holding (thn (hi pins s1 σ H1 _ I1 q1) fun iv s2 ⟨y,H2,I2,r2,q2⟩=>?_))
 refine wpAny_bind (wpAny_standAt (wpAny_bind (wpAny_holding (thn (hs pins s2 σ H2 x y v ov iv u _ I2 r1 r2 r q2) fun _ s3 ⟨H3,I3,q3⟩=>?_))))
 exact wpAny_release ⟨σ,H3,I3,q3⟩
noncomputable def lN (te:TE) (g:TG):TS:=fun D σ H=>te σ H fun x H1=>g x σ H1 D.nx
theorem nM {tg e:Expr} {te:TE} {g:TG} (he:PE X e te) (hg:PG X tg g) (hs:swapsWithSole [tg] e pos.line X.env=pure false:=by rfl) (hw:swappedStores [tg] e X.env=pure none:=by rfl)
  (h1:(assignEach [tg] X.env).map (·.2)=[assign tg X.env]:=by rfl):PS X (.Assign [tg] e pos) (lN te g):=by
 intro pins s σ H D I h
 refine wpAny_Assign_stores (thn (he pins s σ H _ I h) fun v s1 ⟨x,H1,I1,r1,q1⟩=>?_) hs hw
 rw [h1]
 exact thn (hg pins s1 σ H1 x v _ I1 r1 q1) fun _ s2 q=>q
theorem am {i:Nat} {x:Str} {e:Expr} {te:TE} {pos':Pos} (hN:X.N.Nodup) (hi:X.N[i]? =some x) (hx:Loc X.env.scope x) (he:PE X e te) (hs:swapsWith e (some (.Name x pos')) pos.line X.env=pure false:=by rfl) (hf:X.fn x=true\/X.env.scope.names.lookup x=some .local:=by first | exact .inl rfl | exact .inr rfl | assumption):
  PS X (.Assign [.Name x pos'] e pos) (lN te (eD i)):=by
 intro pins s σ H D I h
 refine wpAny_Assign_Name (thn (he pins s σ H _ I h) fun v s1 ⟨y,H1,I1,r1,q1⟩=>?_) hs
 exact iF I1 hN hi hx r1 (fun s2 I2=>⟨_,H1,I2,q1⟩) hf
noncomputable def x6 (i:Nat) (te:TE) (ti:TIp):TS:=fun D σ H=> ∃ x,σ[i]? =some (some x)/\te σ H fun y H1=>ti x y H1 fun z H2=>D.nx (σ.set i (some z)) H2
theorem sG {i:Nat} {x:Str} {e:Expr} {te:TE} {op:Operator} {ti:TIp} {pos':Pos} (hN:X.N.Nodup) (hi:X.N[i]? =some x) (hx:Loc X.env.scope x) (he:PE X e te) (ho:PIp X op ti) (hf:X.fn x=true\/X.env.scope.names.lookup x=some .local:=by first | exact .inl rfl | exact .inr rfl | assumption):
  PS X (.AugAssign (.Name x pos') op e pos) (x6 i te ti):=by
 intro pins s σ H D I h
 obtain ⟨v,e1,h⟩:=h
 obtain ⟨m,hn,hl⟩:=I.loc
 have vis:Vis X.env.scope x:=by rcases hx with k | k;exact .inl k;exact .inr (.inl k)
 obtain ⟨u,r,l⟩:=hl i x v hi e1 vis
 refine wpAny_AugAssign_Name ?_
 have go:wpAny (model X.prog X.w) X.A (eval e X.env) (fun w s₂=>wpAny (model X.prog X.w) X.A (inplaceOp op u w) (fun r s₃=>wpAny (model X.prog X.w) X.A (storeName X.env x r) (fun _=>SP X pins D .next) X.xe s₃) X.xe s₂) X.xe s:=by
  refine thn (he pins s σ H _ I h) fun w s1 ⟨y,H1,I1,r1,q1⟩=>?_
  refine thn (ho pins s1 σ H1 v y u w _ I1 r r1 q1) fun z s2 ⟨zv,H2,I2,r2,q2⟩=>?_
  exact iF I2 hN hi hx r2 (fun s3 I3=>⟨_,H2,I3,q2⟩) hf
 rcases l with ⟨hk,hm⟩ | ⟨hk,c,hc,hcell⟩
 ·exact wpAny_loadName_local I.ok.kind hk hn hm go
 ·rcases hk with hk | hk
  ·exact wpAny_loadName_cell I.ok.kind hk hc hcell go
  ·rcases hx with k | k
   ·have:X.env.scope.names.lookup x=some .free:=hk
    rw [k]at this;cases this
   ·have:X.env.scope.names.lookup x=some .free:=hk
    rw [k]at this;cases this
noncomputable def ipI (f:Int->Int->Int):TIp:=fun x y H Q=> ∃ i j,x=.int i/\y=.int j/\Q (.int (f i j)) H
theorem tR:PIp X .Add (ipI fun i j=>i+j):=by
 intro pins s σ H x y v u Q I r1 r2 h
 obtain ⟨i,j,e1,e2,q⟩:=h
 subst e1;subst e2
 obtain ⟨t,rfl⟩:=r1
 obtain ⟨t',rfl⟩:=r2
 exact iadd_int ⟨.int _,H,I.tok _,⟨_,rfl⟩,q⟩
end
section
variable {X:Cx} {pos:Pos}
noncomputable def rH (c:TT) (tb:TS):TS:=fun D σ H=> ∃ W:Nat->St->Hp->Prop,(∃ m,W m σ H)/\ ∀ m σ H,W m σ H->
 c σ H fun b H1=>if b=true then ∃ N:St->Hp->Prop,(∀ σ' H',N σ' H'-> ∃ m',m'<m/\W m' σ' H')/\tb {D with nx:=N,ct:=N,bk:=D.nx} σ H1 else D.nx σ H1
theorem fZ {c:Expr} {body:List Stmt} {tc:TT} {tb:TS} (hp:PassesOwn (model X.prog X.w) X.A X.env X.xe) (hc:PT X c tc) (hb:PSs X body tb):PS X (.While c body [] pos) (rH tc tb):=by
 intro pins s σ H D I h
 obtain ⟨W,⟨m0,w0⟩,turn⟩:=h
 refine wpAny_While (codeAny_whileLoop (fun n s'=> ∃ σ' H',Inv X pins σ' H' s'/\W n σ' H') ?_ m0 ⟨σ,H,I,w0⟩)
 rintro n s1 ⟨σ1,H1,I1,w1⟩
 refine wpAny_passesOwn hp (thn (hc pins s1 σ1 H1 _ I1 (turn n σ1 H1 w1)) fun b s2 ⟨H2,I2,q2⟩=>?_)
 cases b with
 | true=>
  obtain ⟨N,hN,q2⟩:=q2
  rw [if_pos rfl]
  refine wpAny_passesOwn hp (thn (hb pins s2 σ1 H2 _ I2 q2) fun f s3 q3=>?_)
  cases f with
  | next=>
   obtain ⟨σ3,H3,I3,n3⟩:=q3
   obtain ⟨m',hm,w3⟩:=hN σ3 H3 n3
   exact ⟨m',hm,σ3,H3,I3,w3⟩
  | cont=>
   obtain ⟨σ3,H3,I3,n3⟩:=q3
   obtain ⟨m',hm,w3⟩:=hN σ3 H3 n3
   exact ⟨m',hm,σ3,H3,I3,w3⟩
  | brk=>exact q3
  | ret v=>exact q3
 | false=>
  rw [if_neg Bool.false_ne_true]
  exact wpAny_execs_nil ⟨σ1,H2,I2,q2⟩
end
structure It where
 go:Nat->Hp->Prop
 yld:Nat->Hp->V->Hp->Prop
 stop:Nat->Hp->Prop
noncomputable def ib (X:Cx) (pins:List (Addr×Obj)) (H:Hp) (b:Addr):Prop:=
 H b=none/\b≠X.env.locals/\b∉X.fs/\(b∈X.ex\/X.s₀.heap.objs.size<=b)/\(∀ x c,X.env.cells.lookup x=some c->c≠b)/\ ∀ p∈X.pn++pins,p.1≠b
theorem Inv.fpOk {X:Cx} {pins:List (Addr×Obj)} {σ:St} {H H':Hp} {s:Shared} {b:Addr} (I:Inv X pins σ H s) (hb:s.heap.objs.size<=b) (hn:H' b=none):ib X pins H' b:=by
 refine ⟨hn,Nat.ne_of_gt (Nat.lt_of_lt_of_le I.lt hb),I.nofs hb,.inr (Nat.le_trans I.sz hb),fun x c e z=>?_,fun p hp z=>?_⟩
 ·obtain ⟨v,q⟩:=I.cell x c e
  exact absurd (Nat.lt_of_lt_of_le q.lt (by rw [z];exact hb)) (Nat.lt_irrefl _)
 ·exact absurd (Nat.lt_of_lt_of_le (Heap.lt_size (I.pin p hp).1) (by rw [z];exact hb)) (Nat.lt_irrefl _)
structure jq (P:Program) (w:World) (K:PySem.W.Frag) (tg:Expr) (J:It) (fp:List Addr) (it:Addr) (tn:Nat->Heap->Prop):Prop where
 mem:it∈fp
 obj: ∀ i h,tn i h-> ∀ b∈fp,∃ o,h.get? b=some o/\ ∀ v,o.data≠ .cell v
 keep: ∀ i h h',tn i h->(∀ b∈fp,∀ o,h.get? b=some o->h'.get? b=some o)->tn i h'
 item: ∀ (X:Cx),X.prog=P->X.w=w->X.K=K->X.calm=true-> ∀ (i:Nat) (pins:List (Addr×Obj)) (s:Shared) (σ:St) (H:Hp) (E:Value->Shared->Prop),Inv X pins σ H s->(∀ b∈fp,ib X pins H b)->tn i s.heap->J.go i H->
  wpAny (model P w) X.A (pyNext (.ref it)) (fun r s1=> ∃ u,r=some u/\
   wpAny (model P w) X.A (letOwnedTupleGo tg (.ref it) u) (fun _ s2=> ∃ x H',Inv X pins σ H' s2/\RelV x u/\J.yld i H x H'/\tn (i+1) s2.heap/\ ∀ b∈fp,H' b=none) E s1) E s
 done: ∀ (X:Cx),X.prog=P->X.w=w->X.K=K->X.calm=true-> ∀ (i:Nat) (pins:List (Addr×Obj)) (s:Shared) (σ:St) (H:Hp) (E:Value->Shared->Prop),Inv X pins σ H s->(∀ b∈fp,ib X pins H b)->tn i s.heap->J.stop i H->
  wpAny (model P w) X.A (pyNext (.ref it)) (fun r s1=>r=none/\Inv X pins σ H s1) E s
 self: ∀ (A:Around) (i:Nat) (s:Shared) (Q:Value->Shared->Prop) (E:Value->Shared->Prop),tn i s.heap->Q (.ref it) s->wpAny (model P w) A (pyIter (.ref it)) Q E s
noncomputable abbrev TI:=St->Hp->(It->Hp->Prop)->Prop
noncomputable def PIE (X:Cx) (pins:List (Addr×Obj)) (σ:St) (tg:Expr) (R:It->Hp->Prop) (itv:Value) (s2:Shared):Prop:=
 ∃ (it:Addr) (fp:List Addr) (tn:Nat->Heap->Prop) (J:It) (H':Hp),itv=.ref it/\Inv X pins σ H' s2/\jq X.prog X.w X.K tg J fp it tn/\tn 0 s2.heap/\(∀ b∈fp,ib X pins H' b)/\R J H'
noncomputable def PI (X:Cx) (tg iter:Expr) (wi:TI):Prop:=
 ∀ (pins:List (Addr×Obj)) (s:Shared) (σ:St) (H:Hp) (R:It->Hp->Prop),Inv X pins σ H s->wi σ H R->
  wpAny (model X.prog X.w) X.A (eval iter X.env) (fun v s1=>wpAny (model X.prog X.w) X.A (pyIter v) (PIE X pins σ tg R) X.xe s1) X.xe s
theorem jQ {M:Model} {A:Around} {E:Value->Shared->Prop} {s:Shared} {tg:Expr} {it:Addr} {u:Value} {o:Obj} {n:String} {vs:Array Value} {Q:Unit->Shared->Prop} (ho:s.heap.get? it=some o) (hc:o.cls=.type n) (hd:o.data=.fields vs)
  (hn:["enumerate","zip","dict_itemiterator","dict_reverseitemiterator","odict_iterator","itertools.zip_longest","itertools.pairwise"].contains n=false) (hQ:Q () s):wpAny M A (letOwnedTupleGo tg (.ref it) u) Q E s:=by
 unfold letOwnedTupleGo
 cases tg <;> first
  | exact wpAny_pure hQ
  | (cases u <;> first
    | exact wpAny_pure hQ
    | (refine wpAny_bind (wpAny_load ho ?_)
       rw [hc,hd]
       show wpAny M A (if (["enumerate","zip","dict_itemiterator","dict_reverseitemiterator","odict_iterator","itertools.zip_longest","itertools.pairwise"].contains n&&vs[0]? ==some (rawInt _))=true then _ else _) Q E s
       rw [if_neg (by intro h;rw [hn,Bool.false_and]at h;cases h)]
       exact wpAny_pure hQ))
noncomputable def Itl (K:PySem.W.Frag) (a:Addr):It:=
 ⟨fun i H=> ∃ xs x,SqL K H a xs/\xs[i]? =some x,fun i H x H'=>H'=H/\ ∀ xs,SqL K H a xs->xs[i]? =some x,fun i H=> ∃ xs,SqL K H a xs/\xs.length<=i⟩
noncomputable def Itt (K:PySem.W.Frag) (a:Addr):It:=
 ⟨fun i H=> ∃ xs x,SqT K H a xs/\xs[i]? =some x,fun i H x H'=>H'=H/\ ∀ xs,SqT K H a xs->xs[i]? =some x,fun i H=> ∃ xs,SqT K H a xs/\xs.length<=i⟩
noncomputable def Itr (lo:Int) (n:Nat):It:=⟨fun i _=>i<n,fun i H x H'=>H'=H/\x=.int (lo+i),fun i _=>n<=i⟩
theorem pV {P:Program} {w:World} {K:PySem.W.Frag} {tg:Expr} (a it:Addr):jq P w K tg (Itl K a) [it] it (fun i h=>h.IsListIter it a i) where
 mem:=by simp
 obj:=fun i h st b hb=>by
  have e:b=it:=by simpa using hb
  subst e
  obtain ⟨o,e,c,d⟩:=st
  exact ⟨o,e,fun v z=>by rw [d]at z;cases z⟩
 keep:=fun i h h' st k=>st.at fun o e=>k it (by simp) o e
 item:=by
  intro X hP hw hK hc i pins s σ H E I hf st hg
  subst hP hw hK
  obtain ⟨xs,x,hq,hx⟩:=hg
  obtain ⟨its,rv,p,hz⟩:=I.list hq
  obtain ⟨u,hu,ru⟩:=rv.get hx
  obtain ⟨f0,f1,f2,f3,f4,f5⟩:=hf it (by simp)
  refine wpAny_pyNext_list_item st p.isList (x:=u) (by simpa using hu) fun h' st' sb=>?_
  have I1:Inv X pins σ H {s with heap:=h'}:=I.turned (t':=s.toks) (fun b o hb e=>(sb.2 b hb).trans e) f0 f1 f3 f4 f5
  obtain ⟨o,e,c,d⟩:=id st'
  exact ⟨u,rfl,jQ (s:={s with heap:=h'}) e c d (by decide) ⟨x,H,I1,ru,⟨rfl,fun ys hy=>by rw [I.list_inj hy hq];exact hx⟩,st',fun b hb=>(hf b hb).1⟩⟩
 done:=by
  intro X hP hw hK hc i pins s σ H E I hf st hg
  subst hP hw hK
  obtain ⟨xs,hq,hx⟩:=hg
  obtain ⟨its,rv,p,hz⟩:=I.list hq
  obtain ⟨f0,f1,f2,f3,f4,f5⟩:=hf it (by simp)
  have hl:=rv.length
  exact wpAny_pyNext_list_end (I.ok.hd hc) st p.isList (by simp;lia) fun h' eb=>⟨rfl,I.turned (t':=s.toks) (fun b o hb e=>eb b o hb e) f0 f1 f3 f4 f5⟩
 self:=fun _ _ _ _ _ st h=>wpAny_pyIter_listiter st h
theorem nj {P:Program} {w:World} {K:PySem.W.Frag} {tg:Expr} (a it:Addr):jq P w K tg (Itt K a) [it] it (fun i h=>h.IsTupleIter it a i) where
 mem:=by simp
 obj:=fun i h st b hb=>by
  have e:b=it:=by simpa using hb
  subst e
  obtain ⟨o,e,c,d⟩:=st
  exact ⟨o,e,fun v z=>by rw [d]at z;cases z⟩
 keep:=fun i h h' st k=>st.at fun o e=>k it (by simp) o e
 item:=by
  intro X hP hw hK hc i pins s σ H E I hf st hg
  subst hP hw hK
  obtain ⟨xs,x,hq,hx⟩:=hg
  obtain ⟨its,rv,p,hz⟩:=I.tuple hq
  obtain ⟨u,hu,ru⟩:=rv.get hx
  obtain ⟨f0,f1,f2,f3,f4,f5⟩:=hf it (by simp)
  refine wpAny_pyNext_tuple_item st (show s.heap.IsTuple a its.toArray from p) (x:=u) (by simpa using hu) fun h' st' sb=>?_
  have I1:Inv X pins σ H {s with heap:=h'}:=I.turned (t':=s.toks) (fun b o hb e=>(sb.2 b hb).trans e) f0 f1 f3 f4 f5
  obtain ⟨o,e,c,d⟩:=id st'
  exact ⟨u,rfl,jQ (s:={s with heap:=h'}) e c d (by decide) ⟨x,H,I1,ru,⟨rfl,fun ys hy=>by rw [I.tuple_inj hy hq];exact hx⟩,st',fun b hb=>(hf b hb).1⟩⟩
 done:=by
  intro X hP hw hK hc i pins s σ H E I hf st hg
  subst hP hw hK
  obtain ⟨xs,hq,hx⟩:=hg
  obtain ⟨its,rv,p,hz⟩:=I.tuple hq
  obtain ⟨f0,f1,f2,f3,f4,f5⟩:=hf it (by simp)
  have hl:=rv.length
  exact wpAny_pyNext_tuple_end (I.ok.hd hc) st (show s.heap.IsTuple a its.toArray from p) (by simp;lia) fun h' eb=>⟨rfl,I.turned (t':=s.toks) (fun b o hb e=>eb b o hb e) f0 f1 f3 f4 f5⟩
 self:=fun _ _ _ _ _ st h=>wpAny_pyIter_tupleiter st h
theorem nk {P:Program} {w:World} {K:PySem.W.Frag} {tg:Expr} (it:Addr) (lo:Int) (n:Nat):jq P w K tg (Itr lo n) [it] it (fun i h=>IsRangeIter h it (lo+ (i:Nat) *1) ((n:Int) - (i:Nat)) 1) where
 mem:=by simp
 obj:=fun i h st b hb=>by
  have e:b=it:=by simpa using hb
  subst e
  exact ⟨_,st,fun v z=>by
   have z':Data.fields _=Data.cell v:=z
   cases z'⟩
 keep:=fun i h h' st k=>k it (by simp) _ st
 item:=by
  intro X hP hw hK hc i pins s σ H E I hf st hg
  subst hP hw hK
  obtain ⟨f0,f1,f2,f3,f4,f5⟩:=hf it (by simp)
  have W:=Walks.range (prog:=X.prog) (w:=X.w) (I.ok.hd hc) it lo 1 n
  refine W.item i s _ _ hg st fun v h' tk hv st' kk=>?_
  obtain ⟨t,rfl⟩:=hv
  have I1:Inv X pins σ H {s with heap:=h',toks:=tk}:=I.turned (fun b o hb e=>kk b o (by simpa using hb) e) f0 f1 f3 f4 f5
  refine ⟨_,rfl,jQ (s:={s with heap:=h',toks:=tk}) (n:="range_iterator") st' rfl rfl (by decide) ⟨.int (lo+i),H,I1,⟨t,?_⟩,⟨rfl,rfl⟩,st',fun b hb=>(hf b hb).1⟩⟩
  rw [Int.mul_one]
 done:=by
  intro X hP hw hK hc i pins s σ H E I hf st hg
  subst hP hw hK
  obtain ⟨f0,f1,f2,f3,f4,f5⟩:=hf it (by simp)
  exact wpAny_pyNext_range_end (I.ok.hd hc) st (by have:n<=i:=hg;lia) fun h' eb=>⟨rfl,I.turned (t':=s.toks) (fun b o hb e=>eb b o hb e) f0 f1 f3 f4 f5⟩
 self:=fun _ _ _ _ _ st h=>wpAny_pyIter_rangeiter st h
section
variable {X:Cx} {tg:Expr}
noncomputable def xG (K:PySem.W.Frag) (tl:TE):TI:=fun σ H R=>tl σ H fun x H1=> ∃ a,x=.ref a/\(∃ xs,SqL K H1 a xs)/\R (Itl K a) H1
noncomputable def yn (K:PySem.W.Frag) (tl:TE):TI:=fun σ H R=>tl σ H fun x H1=> ∃ a,x=.ref a/\(∃ xs,SqT K H1 a xs)/\R (Itt K a) H1
theorem cO {l:Expr} {tl:TE} (hl:PE X l tl):PI X tg l (xG X.K tl):=by
 intro pins s σ H R I h
 refine thn (hl pins s σ H _ I h) fun v s1 ⟨x,H1,I1,r1,q1⟩=>?_
 obtain ⟨a,e,⟨xs,hq⟩,q⟩:=q1
 subst e
 cases r1
 obtain ⟨its,rv,p,hz⟩:=I1.list hq
 refine wpAny_pyIter_list p.isList ?_
 refine ⟨s1.heap.objs.size,[s1.heap.objs.size],_,_,H1,rfl,I1.kept (t':=s1.toks) fun b o e=>Heap.get?_push_of_some _ e,pV a _,⟨_,Heap.get?_push_size _ rfl,rfl,rfl⟩,fun b hb=>?_,q⟩
 have e:b=s1.heap.objs.size:=by simpa using hb
 subst e
 exact I1.fpOk (Nat.le_refl _) (I1.hok.fresh (Nat.le_refl _))
theorem cN {l:Expr} {tl:TE} (hl:PE X l tl):PI X tg l (yn X.K tl):=by
 intro pins s σ H R I h
 refine thn (hl pins s σ H _ I h) fun v s1 ⟨x,H1,I1,r1,q1⟩=>?_
 obtain ⟨a,e,⟨xs,hq⟩,q⟩:=q1
 subst e
 cases r1
 obtain ⟨its,rv,p,hz⟩:=I1.tuple hq
 refine wpAny_pyIter_tuple (show s1.heap.IsTuple a its.toArray from p) ?_
 refine ⟨s1.heap.objs.size,[s1.heap.objs.size],_,_,H1,rfl,I1.kept (t':=s1.toks) fun b o e=>Heap.get?_push_of_some _ e,nj a _,⟨_,Heap.get?_push_size _ rfl,rfl,rfl⟩,fun b hb=>?_,q⟩
 have e:b=s1.heap.objs.size:=by simpa using hb
 subst e
 exact I1.fpOk (Nat.le_refl _) (I1.hok.fresh (Nat.le_refl _))
theorem sD {pins:List (Addr×Obj)} {σ:St} {H:Hp} {s:Shared} {R:It->Hp->Prop} {E:Value->Shared->Prop} {lo hi:Int} {t u v:Tok} {tk:Nat} (I:Inv X pins σ H s) (h1: -(2^62)<=lo) (h2:lo<2^62) (h3: -(2^62)<=hi) (h4:hi<2^62)
  (q:R (Itr lo (hi-lo).toNat) H):wpAny (model X.prog X.w) X.A (pyIter (.ref s.heap.objs.size)) (PIE X pins σ tg R) E {s with heap:=s.heap.push {cls:=.type "range",data:=.fields #[.int lo t,.int hi u,.int 1 v]},toks:=tk}:=by
 refine wpAny_pyIter_range (IsRange.new ..) (small_one h1 h2 h3 h4) ?_
 have I1:Inv X pins σ H {s with heap:=s.heap.push {cls:=.type "range",data:=.fields #[.int lo t,.int hi u,.int 1 v]},toks:=tk}:=I.kept fun b o e=>Heap.get?_push_of_some _ e
 refine ⟨(s.heap.push {cls:=.type "range",data:=.fields #[.int lo t,.int hi u,.int 1 v]}).objs.size,[(s.heap.push {cls:=.type "range",data:=.fields #[.int lo t,.int hi u,.int 1 v]}).objs.size],_,_,H,rfl,
  I1.kept (t':=tk) fun b o e=>Heap.get?_push_of_some _ e,nk _ lo (hi-lo).toNat,?_,fun b hb=>?_,q⟩
 ·have e1:lo+ ((0:Nat):Int) *1=lo:=by simp
  have e2:(((hi-lo).toNat:Nat):Int) - ((0:Nat):Int)=Builtin.Range.rangeSize lo hi 1:=by rw [rangeSize_one];split <;> lia
  show IsRangeIter _ _ (lo+ ((0:Nat):Int) *1) ((((hi-lo).toNat:Nat):Int) - ((0:Nat):Int)) 1
  rw [e1,e2]
  exact Heap.get?_push_size _ rfl
 ·have e:b=(s.heap.push {cls:=.type "range",data:=.fields #[.int lo t,.int hi u,.int 1 v]}).objs.size:=by simpa using hb
  subst e
  exact I1.fpOk (Nat.le_refl _) (I1.hok.fresh (Nat.le_refl _))
noncomputable def xF (ta:TA):TI:=fun σ H R=>ta σ H fun vs H1=> ∃ j:Int,vs=[.int j]/\ -(2^62)<=j/\j<2^62/\R (Itr 0 j.toNat) H1
theorem bq {a:Expr} {ta:TA} {p pos:Pos} (hg:Gl X "range") (hm:X.mg "range"=none) (ha:PA X [a] ta) (hs:starEach [a] X.env=[(false,eval a X.env)]:=by rfl):PI X tg (.Call (.Name "range" p) [a] [] pos) (xF ta):=by
 intro pins s σ H R I h
 refine Call_ (eR I hg hm boot_range (PyProof.Rows.callWith_type1 (thn (ha pos pins s σ H _ I h) fun us s1 ⟨vs,H1,I1,r1,q1⟩=>?_) hs rfl))
 obtain ⟨j,e,q1,q2,q⟩:=q1
 subst e
 cases r1 with
 | cons r rr=>
  cases rr
  obtain ⟨t,rfl⟩:=r
  exact call_range_1 (sD I1 (by lia) (by lia) q1 q2 (by simpa using q))
noncomputable def x4 (wi:TI) (g:TG) (tb:TS):TS:=fun D σ H=>wi σ H fun J H1=> ∃ W:Nat->Nat->St->Hp->Prop,(∃ m,W 0 m σ H1)/\ ∀ i m σ H,W i m σ H->
 (J.stop i H/\D.nx σ H)\/(J.go i H/\ ∃ N:St->Hp->Prop,(∀ σ' H',N σ' H'-> ∃ m',m'<m/\W (i+1) m' σ' H')/\ ∀ x H',J.yld i H x H'->g x σ H' fun σ2 H2=>tb {D with nx:=N,ct:=N,bk:=D.nx} σ2 H2)
noncomputable def la (fp:List Addr) (h:Heap):List (Addr×Obj):=fp.filterMap fun b=>(h.get? b).map fun o=>(b,o)
theorem bz {fp:List Addr} {h:Heap} {b:Addr} {o:Obj} (hb:b∈fp) (e:h.get? b=some o):(b,o)∈la fp h:=List.mem_filterMap.mpr ⟨b,hb,by rw [e];rfl⟩
theorem qH {fp:List Addr} {h:Heap} {p:Addr×Obj} (hp:p∈la fp h):p.1∈fp/\h.get? p.1=some p.2:=by
 obtain ⟨b,hb,e⟩:=List.mem_filterMap.mp hp
 cases q:h.get? b with
 | none=>rw [q]at e;cases e
 | some o=>
  rw [q]at e
  have e':(b,o)=p:=Option.some.inj e
  subst e'
  exact ⟨hb,q⟩
theorem Inv.pinned {pins:List (Addr×Obj)} {σ:St} {H:Hp} {s:Shared} {fp:List Addr} (I:Inv X pins σ H s) (hf: ∀ b∈fp,ib X pins H b) (ho: ∀ b∈fp,∃ o,s.heap.get? b=some o/\ ∀ v,o.data≠ .cell v):Inv X (pins++la fp s.heap) σ H s:=
 I.pins_of fun p hp=>(List.mem_append.mp hp).elim (fun z=>I.pin p (List.mem_append_right _ z)) fun z=>by
  obtain ⟨hb,e⟩:=qH z
  obtain ⟨f0,f1,f2,_⟩:=hf p.1 hb
  obtain ⟨o,e',d⟩:=ho p.1 hb
  rw [e]at e';cases e'
  exact ⟨e,f0,f1,f2,d⟩
theorem Inv.unpinned {pins pl:List (Addr×Obj)} {σ:St} {H:Hp} {s:Shared} (I:Inv X (pins++pl) σ H s):Inv X pins σ H s:=I.pins_of fun p hp=>I.pin p (List.mem_append_right _ (List.mem_append_left _ hp))
theorem bd {iter:Expr} {body:List Stmt} {wi:TI} {g:TG} {tb:TS} {pos:Pos} (hp:PassesOwn (model X.prog X.w) X.A X.env X.xe) (hc:X.calm=true) (hi:PI X tg iter wi) (hg:PG X tg g) (hb:PSs X body tb)
  (hs: ∀ x,foldedSetIterable iter X.env x=pure x:=by intro _;rfl):PS X (.For tg iter body [] pos) (x4 wi g tb):=by
 intro pins s σ H D I h
 refine wpAny_For (thn (hi pins s σ H _ I h) fun v s1 h1=>thn h1 fun itv s2 h2=>?_) hs
 obtain ⟨it,fp,tn,J,H2,e,I2,T,st2,f2,W,⟨m0,w0⟩,turn⟩:=h2
 subst e
 have stat: ∀ {H':Hp},(∀ b∈fp,H' b=none)-> ∀ b∈fp,ib X pins H' b:=fun hn b hb=>⟨hn b hb,(f2 b hb).2⟩
 refine codeAny_forLoop_any (fun n s'=> ∃ i σ' H',Inv X pins σ' H' s'/\tn i s'.heap/\(∀ b∈fp,H' b=none)/\W i n σ' H') ?_ m0 ⟨0,σ,H2,I2,st2,fun b hb=>(f2 b hb).1,w0⟩
 rintro n s3 ⟨i,σ3,H3,I3,st3,fr3,w3⟩
 rcases turn i n σ3 H3 w3 with ⟨stop,qn⟩ | ⟨go,N,hN,step⟩
 ·refine wpAny_passesOwn hp (thn (T.done X rfl rfl rfl hc i pins s3 σ3 H3 X.xe I3 (stat fr3) st3 stop) fun r s4 ⟨hr,I4⟩=>?_)
  subst hr
  exact wpAny_execs_nil ⟨σ3,H3,I4,qn⟩
 ·refine wpAny_passesOwn hp (thn (T.item X rfl rfl rfl hc i pins s3 σ3 H3 X.xe I3 (stat fr3) st3 go) fun r s4 ⟨u,hr,h4⟩=>?_)
  subst hr
  refine wpAny_passesOwn hp (thn h4 fun _ s5 ⟨x,H5,I5,r5,y5,st5,fr5⟩=>?_)
  have I5':=I5.pinned (stat fr5) (T.obj _ _ st5)
  refine wpAny_passesOwn hp (thn (hg _ s5 σ3 H5 x u _ I5' r5 (step x H5 y5)) fun _ s6 ⟨σ6,H6,I6,q6⟩=>?_)
  refine wpAny_passesOwn hp (thn (hb _ s6 σ6 H6 _ I6 q6) fun f s7 q7=>?_)
  have again: ∀ {σ7:St} {H7:Hp},Inv X (pins++la fp s5.heap) σ7 H7 s7->N σ7 H7-> ∃ m,m<n/\ ∃ i σ' H',Inv X pins σ' H' s7/\tn i s7.heap/\(∀ b∈fp,H' b=none)/\W i m σ' H':=fun {σ7 H7} I7 n7=>by
   obtain ⟨m',hm,w7⟩:=hN σ7 H7 n7
   refine ⟨m',hm,i+1,σ7,H7,I7.unpinned,T.keep _ _ _ st5 fun b hb o e=>(I7.pin (b,o) (List.mem_append_right _ (List.mem_append_right _ (bz hb e)))).1,fun b hb=>?_,w7⟩
   obtain ⟨o,e,d⟩:=T.obj _ _ st5 b hb
   exact (I7.pin (b,o) (List.mem_append_right _ (List.mem_append_right _ (bz hb e)))).2.1
  cases f with
  | next=>obtain ⟨σ7,H7,I7,n7⟩:=q7;exact again I7 n7
  | cont=>obtain ⟨σ7,H7,I7,n7⟩:=q7;exact again I7 n7
  | brk=>obtain ⟨σ7,H7,I7,q7⟩:=q7;exact ⟨σ7,H7,I7.unpinned,q7⟩
  | ret v=>obtain ⟨x7,σ7,H7,I7,r7,q7⟩:=q7;exact ⟨x7,σ7,H7,I7.unpinned,r7,q7⟩
end
theorem cY {K:PySem.W.Frag} {a:Addr} {xs:List V} {g:TG} {tb:TS} {D:eV} {σ:St} {H:Hp} (Pv:Nat->St->Hp->Prop) (h0:Pv 0 σ H) (hl: ∀ i σ H,i<=xs.length->Pv i σ H->SqL K H a xs)
  (hs: ∀ i x σ H,xs[i]? =some x->Pv i σ H->g x σ H fun σ2 H2=>tb {D with nx:=Pv (i+1),ct:=Pv (i+1),bk:=D.nx} σ2 H2) (hd: ∀ σ H,Pv xs.length σ H->D.nx σ H):
  ∃ W:Nat->Nat->St->Hp->Prop,(∃ m,W 0 m σ H)/\ ∀ i m σ H,W i m σ H->
   ((Itl K a).stop i H/\D.nx σ H)\/((Itl K a).go i H/\ ∃ N:St->Hp->Prop,(∀ σ' H',N σ' H'-> ∃ m',m'<m/\W (i+1) m' σ' H')/\ ∀ x H',(Itl K a).yld i H x H'->g x σ H' fun σ2 H2=>tb {D with nx:=N,ct:=N,bk:=D.nx} σ2 H2):=by
 refine ⟨fun i m σ H=>m=xs.length-i/\i<=xs.length/\Pv i σ H,⟨xs.length,by simp,Nat.zero_le _,h0⟩,?_⟩
 rintro i m σ H ⟨rfl,hi,p⟩
 have q:=hl i σ H hi p
 by_cases hlt:i<xs.length
 ·refine .inr ⟨⟨xs,xs[i],q,by simp [hlt]⟩,Pv (i+1),fun σ' H' p'=>⟨xs.length- (i+1),by lia,rfl,hlt,p'⟩,fun x H' y=>?_⟩
  obtain ⟨e,y⟩:=y
  subst e
  exact hs i x σ _ (y xs q) p
 ·have e:i=xs.length:=by lia
  subst e
  exact .inl ⟨⟨xs,q,Nat.le_refl _⟩,hd σ H p⟩
theorem fi {K:PySem.W.Frag} {a:Addr} {xs:List V} {g:TG} {tb:TS} {D:eV} {σ:St} {H:Hp} (Pv:Nat->St->Hp->Prop) (h0:Pv 0 σ H) (hl: ∀ i σ H,i<=xs.length->Pv i σ H->SqT K H a xs)
  (hs: ∀ i x σ H,xs[i]? =some x->Pv i σ H->g x σ H fun σ2 H2=>tb {D with nx:=Pv (i+1),ct:=Pv (i+1),bk:=D.nx} σ2 H2) (hd: ∀ σ H,Pv xs.length σ H->D.nx σ H):
  ∃ W:Nat->Nat->St->Hp->Prop,(∃ m,W 0 m σ H)/\ ∀ i m σ H,W i m σ H->
   ((Itt K a).stop i H/\D.nx σ H)\/((Itt K a).go i H/\ ∃ N:St->Hp->Prop,(∀ σ' H',N σ' H'-> ∃ m',m'<m/\W (i+1) m' σ' H')/\ ∀ x H',(Itt K a).yld i H x H'->g x σ H' fun σ2 H2=>tb {D with nx:=N,ct:=N,bk:=D.nx} σ2 H2):=by
 refine ⟨fun i m σ H=>m=xs.length-i/\i<=xs.length/\Pv i σ H,⟨xs.length,by simp,Nat.zero_le _,h0⟩,?_⟩
 rintro i m σ H ⟨rfl,hi,p⟩
 have q:=hl i σ H hi p
 by_cases hlt:i<xs.length
 ·refine .inr ⟨⟨xs,xs[i],q,by simp [hlt]⟩,Pv (i+1),fun σ' H' p'=>⟨xs.length- (i+1),by lia,rfl,hlt,p'⟩,fun x H' y=>?_⟩
  obtain ⟨e,y⟩:=y
  subst e
  exact hs i x σ _ (y xs q) p
 ·have e:i=xs.length:=by lia
  subst e
  exact .inl ⟨⟨xs,q,Nat.le_refl _⟩,hd σ H p⟩
theorem cR {lo:Int} {n:Nat} {g:TG} {tb:TS} {D:eV} {σ:St} {H:Hp} (Pv:Nat->St->Hp->Prop) (h0:Pv 0 σ H)
  (hs: ∀ i σ H,i<n->Pv i σ H->g (.int (lo+i)) σ H fun σ2 H2=>tb {D with nx:=Pv (i+1),ct:=Pv (i+1),bk:=D.nx} σ2 H2) (hd: ∀ σ H,Pv n σ H->D.nx σ H):
  ∃ W:Nat->Nat->St->Hp->Prop,(∃ m,W 0 m σ H)/\ ∀ i m σ H,W i m σ H->
   ((Itr lo n).stop i H/\D.nx σ H)\/((Itr lo n).go i H/\ ∃ N:St->Hp->Prop,(∀ σ' H',N σ' H'-> ∃ m',m'<m/\W (i+1) m' σ' H')/\ ∀ x H',(Itr lo n).yld i H x H'->g x σ H' fun σ2 H2=>tb {D with nx:=N,ct:=N,bk:=D.nx} σ2 H2):=by
 refine ⟨fun i m σ H=>m=n-i/\i<=n/\Pv i σ H,⟨n,by simp,Nat.zero_le _,h0⟩,?_⟩
 rintro i m σ H ⟨rfl,hi,p⟩
 by_cases hlt:i<n
 ·refine .inr ⟨hlt,Pv (i+1),fun σ' H' p'=>⟨n- (i+1),by lia,rfl,hlt,p'⟩,fun x H' y=>?_⟩
  obtain ⟨e,y⟩:=y
  subst e y
  exact hs i σ _ hlt p
 ·have e:i=n:=by lia
  subst e
  exact .inl ⟨Nat.le_refl _,hd σ H p⟩
theorem iw {c:TT} {tb:TS} {D:eV} {σ:St} {H:Hp} (Pv:St->Hp->Prop) (μ:St->Hp->Nat) (h0:Pv σ H)
  (hs: ∀ σ H,Pv σ H->c σ H fun b H1=>if b=true then tb {D with nx:=fun σ' H'=>Pv σ' H'/\μ σ' H'<μ σ H,ct:=fun σ' H'=>Pv σ' H'/\μ σ' H'<μ σ H,bk:=D.nx} σ H1 else D.nx σ H1)
  (mono: ∀ σ H Q Q',(∀ b H1,Q b H1->Q' b H1)->c σ H Q->c σ H Q'):rH c tb D σ H:=by
 refine ⟨fun m σ H=>m=μ σ H/\Pv σ H,⟨_,rfl,h0⟩,?_⟩
 rintro m σ H ⟨rfl,p⟩
 refine mono σ H _ _ (fun b H1 q=>?_) (hs σ H p)
 cases b with
 | true=>exact ⟨_,fun σ' H' ⟨p',l⟩=>⟨_,l,rfl,p'⟩,q⟩
 | false=>exact q
noncomputable abbrev R2:=V->V->Hp->VK->Prop
noncomputable def OpR (X:Cx) (f:Value->Value->Sem Value) (r:R2):Prop:=
 ∀ (pins:List (Addr×Obj)) (s:Shared) (σ:St) (H:Hp) (x y:V) (v u:Value) (Q:VK),Inv X pins σ H s->RelV x v->RelV y u->r x y H Q->
  wpAny (model X.prog X.w) X.A (f v u) (EP X pins σ Q) X.xe s
noncomputable def UnR (X:Cx) (f:Value->Sem Value) (r:V->Hp->VK->Prop):Prop:=
 ∀ (pins:List (Addr×Obj)) (s:Shared) (σ:St) (H:Hp) (x:V) (v:Value) (Q:VK),Inv X pins σ H s->RelV x v->r x H Q->
  wpAny (model X.prog X.w) X.A (f v) (EP X pins σ Q) X.xe s
noncomputable def c5 (X:Cx) (f:Value) (r:List V->Hp->VK->Prop):Prop:=
 ∀ (pins:List (Addr×Obj)) (s:Shared) (σ:St) (H:Hp) (xs:List V) (us:List Value) (Q:VK),Inv X pins σ H s->Vals xs us->r xs H Q->
  wpAny (model X.prog X.w) X.A (call f us) (EP X pins σ Q) X.xe s
noncomputable def yD (X:Cx) (r:V->Hp->(Bool->Hp->Prop)->Prop):Prop:=
 ∀ (pins:List (Addr×Obj)) (s:Shared) (σ:St) (H:Hp) (x:V) (v:Value) (Q:Bool->Hp->Prop),Inv X pins σ H s->RelV x v->r x H Q->
  wpAny (model X.prog X.w) X.A (truthy v) (TP X pins σ Q) X.xe s
noncomputable def tOp (r:R2) (ta tb:TE):TE:=fun σ H Q=>ta σ H fun x H1=>tb σ H1 fun y H2=>r x y H2 Q
noncomputable def tUn (r:V->Hp->VK->Prop) (ta:TE):TE:=fun σ H Q=>ta σ H fun x H1=>r x H1 Q
noncomputable def rI (C:Int->Int->Prop) (g:Int->Int->V):R2:=fun x y H Q=> ∃ i j,x=.int i/\y=.int j/\C i j/\Q (g i j) H
noncomputable def rI0 (g:Int->Int->V):R2:=fun x y H Q=> ∃ i j,x=.int i/\y=.int j/\Q (g i j) H
noncomputable def rU (g:Int->V):V->Hp->VK->Prop:=fun x H Q=> ∃ i,x=.int i/\Q (g i) H
section
variable {X:Cx} {a b c:Expr} {ta tb tc:TE} {pos:Pos}
theorem wU (ha:PE X a ta) (hb:PE X b tb) {pins:List (Addr×Obj)} {s:Shared} {σ:St} {H:Hp} {R:V->V->Hp->Prop} (I:Inv X pins σ H s)
  (h:ta σ H fun x H1=>tb σ H1 fun y H2=>R x y H2) {Q:Value->Shared->Prop} {f:Value->Value->Sem Value}
  (hf: ∀ v u s2 x y H2,Inv X pins σ H2 s2->RelV x v->RelV y u->R x y H2->wpAny (model X.prog X.w) X.A (f v u) Q X.xe s2):
  wpAny (model X.prog X.w) X.A (eval a X.env) (fun v s₁=>wpAny (model X.prog X.w) X.A (eval b X.env) (fun u s₂=>wpAny (model X.prog X.w) X.A (f v u) Q X.xe s₂) X.xe s₁) X.xe s:=by
 refine thn (ha pins s σ H _ I h) fun v s1 ⟨x,H1,I1,r1,q1⟩=>?_
 refine thn (hb pins s1 σ H1 _ I1 q1) fun u s2 ⟨y,H2,I2,r2,q2⟩=>?_
 exact hf v u s2 x y H2 I2 r1 r2 q2
theorem ax {op:Operator} {r:R2} (ho:OpR X (binaryOp op) r) (ha:PE X a ta) (hb:PE X b tb):PE X (.BinOp a op b pos) (tOp r ta tb):=by
 intro pins s σ H Q I h
 exact wpAny_BinOp (wU ha hb I h fun v u s2 x y H2 I2 rx ry q=>ho pins s2 σ H2 x y v u Q I2 rx ry q)
theorem pc {op:UnaryOp} {r:V->Hp->VK->Prop} (ho:UnR X (unaryOp op) r) (ha:PE X a ta):PE X (.UnaryOp op a pos) (tUn r ta):=by
 intro pins s σ H Q I h
 exact UnaryOp_ (thn (ha pins s σ H _ I h) fun v s1 ⟨x,H1,I1,r1,q1⟩=>ho pins s1 σ H1 x v Q I1 r1 q1)
theorem opI {f:Value->Value->Sem Value} {C:Int->Int->Prop} {g:Int->Int->Int}
  (rule: ∀ (i j:Int) (t u:Tok) (s:Shared) (Q:Value->Shared->Prop) (E:Value->Shared->Prop),C i j->Q (.int (g i j) s.toks) {s with toks:=s.toks+1}->wpAny (model X.prog X.w) X.A (f (.int i t) (.int j u)) Q E s):
  OpR X f (rI C fun i j=>.int (g i j)):=by
 intro pins s σ H x y v u Q I rx ry h
 obtain ⟨i,j,rfl,rfl,hc,q⟩:=h
 obtain ⟨t,rfl⟩:=rx
 obtain ⟨t',rfl⟩:=ry
 exact rule i j t t' s _ _ hc ⟨.int (g i j),H,I.tok _,⟨_,rfl⟩,q⟩
theorem xz {f:Value->Value->Sem Value} {g:Int->Int->Int}
  (rule: ∀ (i j:Int) (t u:Tok) (s:Shared) (Q:Value->Shared->Prop) (E:Value->Shared->Prop),Q (.int (g i j) s.toks) {s with toks:=s.toks+1}->wpAny (model X.prog X.w) X.A (f (.int i t) (.int j u)) Q E s):
  OpR X f (rI0 fun i j=>.int (g i j)):=by
 intro pins s σ H x y v u Q I rx ry h
 obtain ⟨i,j,rfl,rfl,q⟩:=h
 obtain ⟨t,rfl⟩:=rx
 obtain ⟨t',rfl⟩:=ry
 exact rule i j t t' s _ _ ⟨.int (g i j),H,I.tok _,⟨_,rfl⟩,q⟩
theorem wr {f:Value->Value->Sem Value} {g:Int->Int->Bool}
  (rule: ∀ (i j:Int) (t u:Tok) (s:Shared) (Q:Value->Shared->Prop) (E:Value->Shared->Prop),Q (.bool (g i j)) s->wpAny (model X.prog X.w) X.A (f (.int i t) (.int j u)) Q E s):
  OpR X f (rI0 fun i j=>.bl (g i j)):=by
 intro pins s σ H x y v u Q I rx ry h
 obtain ⟨i,j,rfl,rfl,q⟩:=h
 obtain ⟨t,rfl⟩:=rx
 obtain ⟨t',rfl⟩:=ry
 exact rule i j t t' s _ _ ⟨.bl (g i j),H,I,rfl,q⟩
noncomputable def yI (i j:Int):Prop:=0<j/\j<1073741824
noncomputable def yH (i j:Int):Prop:=0<=j/\j<=1000000/\i.natAbs<2^64
noncomputable def CMul (i j:Int):Prop:=(-(2^64) <i/\i<2^64)\/(-(2^64) <j/\j<2^64)
theorem CMul.ok {i j:Int} (h:CMul i j):IntMulOk i j:=by
 rcases h with ⟨h1,h2⟩ | ⟨h1,h2⟩
 ·exact .of_left (intBits_le_64 h1 h2)
 ·exact .of_right (intBits_le_64 h1 h2)
theorem be:OpR X (binaryOp .Add) (rI0 fun i j=>.int (i+j)):=xz fun _ _ _ _ _ _ _ q=>add_int q
theorem fJ:OpR X (binaryOp .Sub) (rI0 fun i j=>.int (i-j)):=xz fun _ _ _ _ _ _ _ q=>sub_int q
theorem c0:OpR X (binaryOp .Mult) (rI CMul fun i j=>.int (i*j)):=opI fun _ _ _ _ _ _ _ hc q=>mul_int q hc.ok
theorem lc:OpR X (binaryOp .FloorDiv) (rI yI fun i j=>.int (i/j)):=opI fun i j _ _ _ _ _ hc q=>by
 have h1:(0:Int) <j:=hc.1
 have h2:j<1073741824:=hc.2
 exact floordiv_int (by lia) (by rw [Int.fdiv_eq_ediv_of_nonneg i (by lia)];exact q) (.inl (PyProof.noPylong_small (by lia)))
theorem cG:OpR X (binaryOp .Mod) (rI (fun _ j=>0<j) fun i j=>.int (i%j)):=opI fun i j _ _ _ _ _ hc q=>by
 have h1:(0:Int) <j:=hc
 exact mod_int' (by lia) (by rw [Int.fmod_eq_emod_of_nonneg i (by lia)];exact q)
theorem wp:OpR X (binaryOp .Pow) (rI yH fun i j=>.int (i^j.toNat)):=opI fun _ _ _ _ _ _ _ hc q=>pow_int_small hc.1 hc.2.1 hc.2.2 q
theorem unI {f:Value->Sem Value} {g:Int->Int}
  (rule: ∀ (i:Int) (t:Tok) (s:Shared) (Q:Value->Shared->Prop) (E:Value->Shared->Prop),Q (.int (g i) s.toks) {s with toks:=s.toks+1}->wpAny (model X.prog X.w) X.A (f (.int i t)) Q E s):
  UnR X f (rU fun i=>.int (g i)):=by
 intro pins s σ H x v Q I rx h
 obtain ⟨i,rfl,q⟩:=h
 obtain ⟨t,rfl⟩:=rx
 exact rule i t s _ _ ⟨.int (g i),H,I.tok _,⟨_,rfl⟩,q⟩
theorem j7:UnR X (unaryOp .USub) (rU fun i=>.int (-i)):=unI fun _ _ _ _ _ q=>neg_int q
end
noncomputable def xk:V->V->Bool
 | .non,.non=>true | .non,.int _=>true | .int _,.non=>true | .non,.bl _=>true | .bl _,.non=>true | .non,.str _=>true | .str _,.non=>true
 | .int _,.int _=>true | .bl _,.bl _=>true | .str _,.str _=>true | .byt _,.byt _=>true
 | .int _,.str _=>true | .str _,.int _=>true | .bl _,.str _=>true | .str _,.bl _=>true
 | _,_=>false
noncomputable def rEq:R2:=fun x y H Q=>xk x y=true/\Q (.bl (decide (x=y))) H
noncomputable def rNe:R2:=fun x y H Q=>xk x y=true/\Q (.bl (!decide (x=y))) H
theorem pK {i j:Int}:decide (V.int i=V.int j)=(i==j):=by
 rw [Bool.eq_iff_iff]
 simp
theorem ub {i j:Bool}:decide (V.bl i=V.bl j)=(i==j):=by
 rw [Bool.eq_iff_iff]
 simp
theorem pJ {i j:Str}:decide (V.str i=V.str j)=(i==j):=by
 rw [Bool.eq_iff_iff]
 simp
theorem pL {i j:Array UInt8}:decide (V.byt i=V.byt j)=(i.toList==j.toList):=by
 rw [Bool.eq_iff_iff]
 cases i
 cases j
 simp
section
variable {X:Cx} {a b c:Expr} {ta tb tc:TE} {pos:Pos}
theorem a9 {pins:List (Addr×Obj)} {σ:St} {H:Hp} {s:Shared} {Q:VK} {k k':Bool} (I:Inv X pins σ H s) (q:Q (.bl k) H) (e:k=k'):EP X pins σ Q (.bool k') s:=by
 subst e
 exact ⟨.bl k,H,I,rfl,q⟩
theorem cq:OpR X (compareOp .Eq) rEq:=by
 intro pins s σ H x y v u Q I rx ry h
 obtain ⟨hs,q⟩:=h
 cases x with
 | non=>
  cases rx
  cases y with
  | non=>cases ry;exact PySem.EqNone.eq_none_none (a9 I q (by simp))
  | bl j=>cases ry;exact PySem.EqNone.eq_none_bool (a9 I q (by simp))
  | int j=>obtain ⟨t',rfl⟩:=ry;exact PySem.EqNone.eq_none_int (a9 I q (by simp))
  | str j=>obtain ⟨t',rfl⟩:=ry;exact PySem.EqNone.eq_none_str (a9 I q (by simp))
  | _=>exact absurd (show false=true from hs) Bool.false_ne_true
 | bl i=>
  cases rx
  cases y with
  | non=>cases ry;exact PySem.EqNone.eq_bool_none (a9 I q (by simp))
  | bl j=>cases ry;exact eq_bool (a9 I q ub)
  | str j=>obtain ⟨t',rfl⟩:=ry;exact PySem.EqMixed.eq_bool_str (a9 I q (by simp))
  | _=>exact absurd (show false=true from hs) Bool.false_ne_true
 | int i=>
  obtain ⟨t,rfl⟩:=rx
  cases y with
  | non=>cases ry;exact PySem.EqNone.eq_int_none (a9 I q (by simp))
  | int j=>obtain ⟨t',rfl⟩:=ry;exact eq_int (a9 I q pK)
  | str j=>obtain ⟨t',rfl⟩:=ry;exact PySem.EqMixed.eq_int_str (a9 I q (by simp))
  | _=>exact absurd (show false=true from hs) Bool.false_ne_true
 | str i=>
  obtain ⟨t,rfl⟩:=rx
  cases y with
  | non=>cases ry;exact PySem.EqNone.eq_str_none (a9 I q (by simp))
  | bl j=>cases ry;exact PySem.EqMixed.eq_str_bool (a9 I q (by simp))
  | int j=>obtain ⟨t',rfl⟩:=ry;exact PySem.EqMixed.eq_str_int (a9 I q (by simp))
  | str j=>obtain ⟨t',rfl⟩:=ry;exact eq_str (a9 I q pJ)
  | _=>exact absurd (show false=true from hs) Bool.false_ne_true
 | byt i=>
  obtain ⟨t,rfl⟩:=rx
  cases y with
  | byt j=>obtain ⟨t',rfl⟩:=ry;exact PySem.W.eq_bytes (a9 I q pL)
  | _=>exact absurd (show false=true from hs) Bool.false_ne_true
 | _=>cases y <;> exact absurd (show false=true from hs) Bool.false_ne_true
theorem pe:OpR X (compareOp .NotEq) rNe:=by
 intro pins s σ H x y v u Q I rx ry h
 obtain ⟨hs,q⟩:=h
 cases x with
 | non=>
  cases rx
  cases y with
  | non=>cases ry;exact PySem.EqNone.ne_none_none (a9 I q (by simp))
  | bl j=>cases ry;exact PySem.EqNone.ne_none_bool (a9 I q (by simp))
  | int j=>obtain ⟨t',rfl⟩:=ry;exact PySem.EqNone.ne_none_int (a9 I q (by simp))
  | str j=>obtain ⟨t',rfl⟩:=ry;exact PySem.EqNone.ne_none_str (a9 I q (by simp))
  | _=>exact absurd (show false=true from hs) Bool.false_ne_true
 | bl i=>
  cases rx
  cases y with
  | non=>cases ry;exact PySem.EqNone.ne_bool_none (a9 I q (by simp))
  | bl j=>cases ry;exact ne_bool (a9 I q (congrArg not ub))
  | str j=>obtain ⟨t',rfl⟩:=ry;exact PySem.EqMixed.ne_bool_str (a9 I q (by simp))
  | _=>exact absurd (show false=true from hs) Bool.false_ne_true
 | int i=>
  obtain ⟨t,rfl⟩:=rx
  cases y with
  | non=>cases ry;exact PySem.EqNone.ne_int_none (a9 I q (by simp))
  | int j=>obtain ⟨t',rfl⟩:=ry;exact ne_int (a9 I q (congrArg not pK))
  | str j=>obtain ⟨t',rfl⟩:=ry;exact PySem.EqMixed.ne_int_str (a9 I q (by simp))
  | _=>exact absurd (show false=true from hs) Bool.false_ne_true
 | str i=>
  obtain ⟨t,rfl⟩:=rx
  cases y with
  | non=>cases ry;exact PySem.EqNone.ne_str_none (a9 I q (by simp))
  | bl j=>cases ry;exact PySem.EqMixed.ne_str_bool (a9 I q (by simp))
  | int j=>obtain ⟨t',rfl⟩:=ry;exact PySem.EqMixed.ne_str_int (a9 I q (by simp))
  | str j=>obtain ⟨t',rfl⟩:=ry;exact ne_str (a9 I q (congrArg not pJ))
  | _=>exact absurd (show false=true from hs) Bool.false_ne_true
 | byt i=>
  obtain ⟨t,rfl⟩:=rx
  cases y with
  | byt j=>obtain ⟨t',rfl⟩:=ry;exact PySem.W.ne_bytes (a9 I q (congrArg not pL))
  | _=>exact absurd (show false=true from hs) Bool.false_ne_true
 | _=>cases y <;> exact absurd (show false=true from hs) Bool.false_ne_true
theorem ft:OpR X (compareOp .Lt) (rI0 fun i j=>.bl (decide (i<j))):=wr fun _ _ _ _ _ _ _ q=>lt_int q
theorem iY:OpR X (compareOp .Gt) (rI0 fun i j=>.bl (decide (j<i))):=wr fun _ _ _ _ _ _ _ q=>gt_int q
theorem xy:OpR X (compareOp .GtE) (rI0 fun i j=>.bl (decide (j<=i))):=wr fun _ _ _ _ _ _ _ q=>ge_int q
theorem sP:OpR X (compareOp .Is) (fun x y H Q=>y=.non/\Q (.bl (decide (x=.non))) H):=by
 intro pins s σ H x y v u Q I rx ry h
 obtain ⟨rfl,q⟩:=h
 cases ry
 refine is_none_gen (a9 I q ?_)
 cases x <;> first
  | (cases rx;rfl)
  | (obtain ⟨t,rfl⟩:=rx;rfl)
theorem aJ (b:Expr) {op:CmpOp} (h:op≠ .In:=by decide) (h2:op≠ .NotIn:=by decide):behindInMarks op b=false:=by
 have e1:(op==CmpOp.In)=false:=by cases op <;> first | rfl | exact absurd rfl h
 have e2:(op==CmpOp.NotIn)=false:=by cases op <;> first | rfl | exact absurd rfl h2
 cases b <;> simp [behindInMarks,e1,e2]
theorem c7 {op:CmpOp} {r:R2} (ho:OpR X (compareOp op) r) (ha:PE X a ta) (hb:PE X b tb) (hm:behindInMarks op b=false):PE X (.Compare a [op] [b] pos) (tOp r ta tb):=by
 intro pins s σ H Q I h
 exact wpAny_Compare1 (wU ha hb I h fun v u s2 x y H2 I2 rx ry q=>ho pins s2 σ H2 x y v u Q I2 rx ry q) hm
noncomputable def w4 (t:TE):TT:=fun σ H Q=>t σ H fun x H'=> ∃ k,x=.bl k/\Q k H'
theorem aC {op:CmpOp} {r:R2} (ho:OpR X (compareOp op) r) (ha:PE X a ta) (hb:PE X b tb) (hm:behindInMarks op b=false):PT X (.Compare a [op] [b] pos) (w4 (tOp r ta tb)):=by
 intro pins s σ H Q I h
 refine wpAny_isTrue_Compare1 (thn (ha pins s σ H _ I h) fun v s1 ⟨x,H1,I1,r1,q1⟩=>thn (hb pins s1 σ H1 _ I1 q1) fun u s2 ⟨y,H2,I2,r2,q2⟩=>
  thn (ho pins s2 σ H2 x y v u _ I2 r1 r2 q2) fun c s3 ⟨z,H3,I3,r3,k,e,q3⟩=>?_) hm
 subst e
 cases r3
 exact wpAny_truthy_bool ⟨H3,I3,q3⟩
noncomputable def xS (K:PySem.W.Frag) (x:V) (H:Hp) (k:Bool):Prop:=
 match x with
 | .non=>k=false
 | .bl b=>k=b
 | .int i=>k=(i !=0)
 | .str y=>y.length<=sizeLine/\k=((y.length:Int)!=0)
 | .byt y=>y.size<=sizeLine/\k=((y.size:Int)!=0)
 | .ref p=>(∃ xs,SqL K H p xs/\k= !xs.isEmpty)\/(∃ xs,SqT K H p xs/\k= !xs.isEmpty)\/ ∃ kvs,H p=some (.dK kvs)/\k= !kvs.isEmpty
 | _=>False
theorem oq {κ:Type} {kvs:List (κ×V)} {vs:List (κ×Value)} (r:KV kvs vs):(!vs.isEmpty)= !kvs.isEmpty:=by
 cases r <;> rfl
theorem i6 {xs:List V} {its:List Value} (r:Vals xs its):(!its.toArray.isEmpty)= !xs.isEmpty:=by
 cases r <;> simp
theorem gK:(sizeLine:Nat) <2^63:=by rw [sizeLine_eq];decide
theorem vO:yD X (fun x H Q=> ∃ k,xS X.K x H k/\Q k H):=by
 intro pins s σ H x v Q I rx h
 obtain ⟨k,e,q⟩:=h
 have hl:=gK
 have hs:sizeLine=16777216:=sizeLine_eq
 cases x with
 | non=>
  cases rx
  have e':k=false:=e
  subst e'
  exact truthy_none ⟨H,I,q⟩
 | bl b=>
  cases rx
  have e':k=b:=e
  subst e'
  exact wpAny_truthy_bool ⟨H,I,q⟩
 | int i=>
  obtain ⟨t,rfl⟩:=rx
  have e':k=(i !=0):=e
  subst e'
  exact PySem.P.truthy_int ⟨H,I,q⟩
 | str y=>
  obtain ⟨t,rfl⟩:=rx
  obtain ⟨hy,e'⟩:y.length<=sizeLine/\k=((y.length:Int)!=0):=e
  subst e'
  exact PySem.P.truthy_str (by lia) ⟨H,I.tok _,q⟩
 | byt y=>
  obtain ⟨t,rfl⟩:=rx
  obtain ⟨hy,e'⟩:y.size<=sizeLine/\k=((y.size:Int)!=0):=e
  subst e'
  exact PySem.W.truthy_bytes (by lia) ⟨H,I.tok _,q⟩
 | ref p=>
  cases rx
  have e':(∃ xs,SqL X.K H p xs/\k= !xs.isEmpty)\/(∃ xs,SqT X.K H p xs/\k= !xs.isEmpty)\/ ∃ kvs,H p=some (.dK kvs)/\k= !kvs.isEmpty:=e
  rcases e' with ⟨xs,hx,e'⟩ | ⟨xs,hx,e'⟩ | ⟨kvs,hx,e'⟩
  ·subst e'
   obtain ⟨its,r,pl,hz⟩:=I.list hx
   have hlen:=r.length
   exact wpAny_truthy_list pl.isList (by simp only [List.size_toArray];lia) ⟨H,I.tok _,by rw [i6 r];exact q⟩
  ·subst e'
   obtain ⟨its,r,pl,hz⟩:=I.tuple hx
   have hlen:=r.length
   exact truthy_tuple pl (by simp only [List.size_toArray];lia) ⟨H,I.tok _,by rw [i6 r];exact q⟩
  ·subst e'
   obtain ⟨hz,hS,vs,r,m⟩:kvs.length<=sizeLine/\(p==sysModules)=false/\ ∃ vs,KV kvs vs/\s.heap.DictOf (aV X.prog X.w) p vs:=I.hok p _ hx
   have hlen:kvs.length=vs.length:=Paired.length r
   exact wpAny_truthy_dict hS m (by lia) ⟨H,I.tok _,by rw [oq r];exact q⟩
 | _=>exact (show False from e).elim
theorem l7 (ha:PE X a ta) (he: ∀ whole,isTrue a X.env whole=(do let v <- whole;standAt a.pos;holding [v] (truthy v))):
  PT X a (fun σ H Q=>ta σ H fun x H'=> ∃ k,xS X.K x H' k/\Q k H'):=by
 intro pins s σ H Q I h
 exact isTrue_plain (thn (ha pins s σ H _ I h) fun v s1 ⟨x,H1,I1,r1,q1⟩=>vO pins s1 σ H1 x v Q I1 r1 q1) (he _)
theorem fK:OpR X (binaryOp .Add) (fun x y H Q=> ∃ i j,x=.str i/\y=.str j/\i.length+j.length<=sizeLine/\Q (.str (i++j)) H):=by
 intro pins s σ H x y v u Q I rx ry h
 obtain ⟨i,j,rfl,rfl,hz,q⟩:=h
 obtain ⟨t,rfl⟩:=rx
 obtain ⟨t',rfl⟩:=ry
 exact add_str (fun t' tk=>⟨.str (i++j),H,I.tok _,⟨_,rfl⟩,q⟩) hz
theorem fq {x:V} {us:List Value} (r:Vals [x] us): ∃ u,us=[u]/\RelV x u:=by
 cases r with
 | cons r1 r2=>cases r2;exact ⟨_,rfl,r1⟩
theorem iz {x y:V} {us:List Value} (r:Vals [x,y] us): ∃ u w',us=[u,w']/\RelV x u/\RelV y w':=by
 cases r with
 | cons r1 r2=>
  cases r2 with
  | cons r3 r4=>cases r4;exact ⟨_,_,rfl,r1,r3⟩
theorem jY (hc:X.calm=true):c5 X (.builtin "max") (fun xs H Q=> ∃ i j,xs=[.int i,.int j]/\Q (.int (if j>i then j else i)) H):=by
 intro pins s σ H xs us Q I r h
 obtain ⟨i,j,rfl,q⟩:=h
 obtain ⟨u,w',rfl,⟨t,rfl⟩,⟨t',rfl⟩⟩:=iz r
 refine max_two_ints (I.ok.hd hc) fun h' tk k=>⟨_,H,I.kept k,?_,q⟩
 by_cases hj:j>i
 ·rw [if_pos hj,if_pos hj];exact ⟨_,rfl⟩
 ·rw [if_neg hj,if_neg hj];exact ⟨_,rfl⟩
theorem jX (hc:X.calm=true):c5 X (.builtin "min") (fun xs H Q=> ∃ i j,xs=[.int i,.int j]/\Q (.int (if j<i then j else i)) H):=by
 intro pins s σ H xs us Q I r h
 obtain ⟨i,j,rfl,q⟩:=h
 obtain ⟨u,w',rfl,⟨t,rfl⟩,⟨t',rfl⟩⟩:=iz r
 refine min_two_ints (I.ok.hd hc) fun h' tk k=>⟨_,H,I.kept k,?_,q⟩
 by_cases hj:j<i
 ·rw [if_pos hj,if_pos hj];exact ⟨_,rfl⟩
 ·rw [if_neg hj,if_neg hj];exact ⟨_,rfl⟩
theorem dS:c5 X (.type "int") (fun xs H Q=>(∃ i,xs=[.int i]/\Q (.int i) H)\/ ∃ k,xs=[.bl k]/\Q (.int (if k then 1 else 0)) H):=by
 intro pins s σ H xs us Q I r h
 rcases h with ⟨i,rfl,q⟩ | ⟨k,rfl,q⟩
 ·obtain ⟨u,rfl,t,rfl⟩:=fq r
  exact call_int_int ⟨.int i,H,I,⟨_,rfl⟩,q⟩
 ·obtain ⟨u,rfl,r1⟩:=fq r
  cases r1
  exact call_int_bool ⟨.int (if k then 1 else 0),H,I.tok _,⟨_,rfl⟩,q⟩
end
structure ObjM (h:Heap) (x dx C:Addr) (mA:Str->Option Value):Prop where
 obj:h.get? x=some (PySem.W.instObj C dx)
 ns:h.Ns1 dx mA
 ne:dx≠x
theorem qL {h:Heap} {dx:Addr} {mA:Str->Option Value} (n:h.Ns1 dx mA): ∃ od,h.get? dx=some od/\ ∀ name,PySem.W.lookIn name od=some (mA name):=by
 obtain ⟨o,es,ep,ho,hd,hk,_,hm⟩:=n
 refine ⟨o,ho,fun name=>?_⟩
 have e:=hm name
 unfold nsFind findBy at e
 rw [<- Array.find?_toList]at e
 unfold PySem.W.lookIn
 rw [hd]
 dsimp only
 split
 ·rename_i y q
  rw [q]at e
  exact congrArg some e
 ·rename_i q
  rw [q]at e
  have a:es.toList.any (·.refKey)=false:=by
   rw [List.any_eq_false]
   intro y hy
   obtain ⟨z,t,hkey⟩:=hk y (Array.mem_toList_iff.mp hy)
   simp [DictEntry.refKey,hkey]
  have a': ¬ es.toList.any (·.refKey)=true:=by rw [a];exact Bool.false_ne_true
  rw [if_neg a']
  exact congrArg some e
theorem ObjM.look {h:Heap} {x dx C:Addr} {mA:Str->Option Value} (I:ObjM h x dx C mA): ∃ od,PySem.W.InstAt h x (PySem.W.instObj C dx) C (some od)/\ ∀ name,PySem.W.lookIn name od=some (mA name):=
 let ⟨od,ho,hl⟩:=qL I.ns
 ⟨od,⟨I.obj,rfl,rfl,ho⟩,hl⟩
theorem RelO.some_of {v:V} {o:Option Value} (r:RelO (some v) o): ∃ u,o=some u/\RelV v u:=by
 cases o with
 | none=>exact (show False from r).elim
 | some u=>exact ⟨u,rfl,r⟩
section
variable {P:Program} {w:World} {H H':Hp} {h h':Heap} {a C dx:Addr} {fs fs':List (Str×V)}
theorem vn (hok:HOk P w H h) (e:H a=some (.ins C dx fs)): ∃ mA,ObjM h a dx C mA/\(∀ f,RelO (fs.lookup f) (mA f))/\PySem.Within mA (fs.map (·.1))/\fs.length<=1000/\H dx=some (.own a):=by
 obtain ⟨d,z,ne,ob,mA,n,r,q⟩:=(show ObjOk P w H h a (.ins C dx fs)from hok a _ e)
 exact ⟨mA,⟨ob,n,ne⟩,r,q,z,d⟩
end
structure Cls (K:PySem.W.Frag) (C:Addr):Prop where
 pg:PySem.W.plainGet K C Str.empty=true
 hd:PySem.W.hasDictIn K C=true
 po:PySem.W.plainOver K C=true
 sa:PySem.W.findIn K (.ref C) "__setattr__"=some (some (.builtin "object.__setattr__"))
theorem Cls.get {K:PySem.W.Frag} {C:Addr} (c:Cls K C) (f:Str):PySem.W.plainGet K C f=true:=c.pg
noncomputable def xW (X:Cx) (op:Operator) (rd:V->V->Hp->VK->Prop):Prop:=
 ∀ (pins:List (Addr×Obj)) (s:Shared) (σ:St) (H:Hp) (x y:V) (u v:Value) (Q:VK),Inv X pins σ H s->RelV x u->RelV y v->rd x y H Q->wpAny (model X.prog X.w) X.A (inplaceOp op u v) (EP X pins σ Q) X.xe s
section
variable {X:Cx} {o e value:Expr} {f:Str} {pos pos' tpos:Pos} {ta tv:TE}
noncomputable def x9:V->V->Hp->VK->Prop:=fun x y H Q=> ∃ i j,x=.int i/\y=.int j/\Q (.int (i-j)) H
theorem wI:xW X .Sub x9:=by
 rintro pins s σ H x y u v Q I rx ry ⟨i,j,rfl,rfl,q⟩
 obtain ⟨t,rfl⟩:=(show ∃ t,u=Value.int i t from rx)
 obtain ⟨t',rfl⟩:=(show ∃ t',v=Value.int j t' from ry)
 exact PyProof.Rows.isub_int ⟨.int (i-j),H,I.tok _,⟨_,rfl⟩,q⟩
end
section
variable {X:Cx} {pins:List (Addr×Obj)} {σ:St} {H:Hp} {s:Shared} {A:Around} {E:Value->Shared->Prop} {Q:Value->Shared->Prop} {c:Value} {b:Bool}
inductive gA (K:PySem.W.Frag) (H:Hp):V->Value->Prop where
 | non:gA K H .non (.type "NoneType")
 | bl (x:Bool):gA K H (.bl x) (.type "bool")
 | int (i:Int):gA K H (.int i) (.type "int")
 | str (x:Str):gA K H (.str x) (.type "str")
 | flt (x:UInt64):gA K H (.flt x) (.type "float")
 | lst {a:Addr} {xs:List V} (e:H a=some (.lst xs)):gA K H (.ref a) (.type "list")
 | frz {a:Addr} {o:Obj} {xs:List V} (e:H a=some (.frz o (.lst xs))):gA K H (.ref a) (.type "list")
 | tup {a:Addr} {xs:List V} (e:H a=some (.tup xs)):gA K H (.ref a) (.type "tuple")
 | dK {a:Addr} {kvs:List (Key×V)} (e:H a=some (.dK kvs)):gA K H (.ref a) (.type "dict")
 | dT {a:Addr} {kvs:List (List Key×V)} (e:H a=some (.dT kvs)):gA K H (.ref a) (.type "dict")
 | ins {a C dx:Addr} {fs:List (Str×V)} (e:H a=some (.ins C dx fs)) (cl:Cls K C) (ha:PySem.W.findIn K (.ref C) "__class__"=some (some (.builtin "object.__class__")))
   (hn:PySem.W.specialIn K (.builtin "object.__class__") "__get__"=some (some (.builtin "getset_descriptor.__get__"))) (htk:PySem.W.takesIn K (.builtin "object.__class__")=some true)
   (hm:PySem.W.mroIn K C (.type "object")=some true):gA K H (.ref a) (.ref C)
theorem qR {x:V} {u t:Value} (I:Inv X pins σ H s) (rx:RelV x u) (ty:gA X.K H x t) (e:PySem.W.kitOne X.K t c=some b) (h: ∀ tk,Q (.bool b) {s with toks:=tk}):
  wpAny (model X.prog X.w) A (call (.builtin "isinstance") [u,c]) Q E s:=by
 cases ty with
 | non=>cases (show u=Value.none from rx);exact PySem.W.kia_one PySem.W.kitx_none I.kIn True.intro e (fun z=>nomatch z) h
 | bl y=>cases (show u=Value.bool y from rx);exact PySem.W.kia_one PySem.W.kitx_bool I.kIn True.intro e (fun z=>nomatch z) h
 | int i=>obtain ⟨t,q⟩:=(show ∃ t,u=Value.int i t from rx);cases q;exact PySem.W.kia_one PySem.W.kitx_int I.kIn True.intro e (fun z=>nomatch z) h
 | str y=>obtain ⟨t,q⟩:=(show ∃ t,u=Value.str y t from rx);cases q;exact PySem.W.kia_one PySem.W.kitx_str I.kIn True.intro e (fun z=>nomatch z) h
 | flt y=>obtain ⟨t,q⟩:=(show ∃ t,u=Value.float y t from rx);cases q;exact PySem.W.kia_one PySem.W.kitx_float I.kIn True.intro e (fun z=>nomatch z) h
 | @lst a xs ea=>
  cases (show u=Value.ref a from rx)
  obtain ⟨_,_,n,_,h1⟩:=(show ObjOk X.prog X.w H s.heap a (.lst xs)from I.hok a _ ea)
  exact PySem.W.kia_one PySem.W.kitx_list I.kIn ⟨_,h1,rfl⟩ e (fun z=>nomatch z) h
 | @frz a ob xs ea=>
  cases (show u=Value.ref a from rx)
  obtain ⟨_,_,_,n,_,h1⟩:=(show ObjOk X.prog X.w H s.heap a (.frz ob (.lst xs))from I.hok a _ ea)
  exact PySem.W.kia_one PySem.W.kitx_list I.kIn ⟨_,h1,rfl⟩ e (fun z=>nomatch z) h
 | @tup a xs ea=>
  cases (show u=Value.ref a from rx)
  obtain ⟨_,_,_,p⟩:=(show ObjOk X.prog X.w H s.heap a (.tup xs)from I.hok a _ ea)
  obtain ⟨o,h1,h2,_⟩:=p
  exact PySem.W.kia_one PySem.W.kitx_tuple I.kIn ⟨o,h1,h2⟩ e (fun z=>nomatch z) h
 | @dK a kvs ea=>
  cases (show u=Value.ref a from rx)
  obtain ⟨_,_,vs,_,p⟩:=(show ObjOk X.prog X.w H s.heap a (.dK kvs)from I.hok a _ ea)
  obtain ⟨o,es,ep,h1,h2,_⟩:=p
  exact PySem.W.kia_one PySem.W.kitx_dict I.kIn ⟨o,h1,h2.1⟩ e (fun z=>nomatch z) h
 | @dT a kvs ea=>
  cases (show u=Value.ref a from rx)
  obtain ⟨_,_,xs,_,o,es,ep,h1,h2,_⟩:=(show ObjOk X.prog X.w H s.heap a (.dT kvs)from I.hok a _ ea)
  exact PySem.W.kia_one PySem.W.kitx_dict I.kIn ⟨o,h1,h2.1⟩ e (fun z=>nomatch z) h
 | @ins a C dx fs ea cl ha hn htk hm=>
  cases (show u=Value.ref a from rx)
  obtain ⟨mA,O,_⟩:=vn I.hok ea
  obtain ⟨od,J,_⟩:=O.look
  exact PySem.W.kia_one (PySem.W.kitx_own (cl.get _) cl.hd ha hn htk hm) I.kIn J e (fun z=>nomatch z) h
end
structure Room (k:Nat) (A:Around):Prop where
 hd:A.handled=none
 dp:A.depth+3*k+5<recursionLimit
 un:A.units+16*k+200<cLine
theorem Room.mono {j k:Nat} {A:Around} (r:Room k A) (h:j<=k):Room j A:=⟨r.hd,by have:=r.dp;lia,by have:=r.un;lia⟩
theorem Room.deeper {k:Nat} {A:Around} (r:Room (k+1) A) (env:Env):Room k (A.deeper env):=
 ⟨r.hd,by have:=r.dp;show A.depth+1+3*k+5<_;lia,by have:=r.un;show A.units+3+16*k+200<_;lia⟩
theorem Room.depth {k:Nat} {A:Around} (r:Room k A):A.depth<recursionLimit:=by have:=r.dp;lia
theorem Room.units {k:Nat} {A:Around} (r:Room k A):A.units+64<cLine:=by have:=r.un;lia
theorem Room.units0 {k:Nat} {A:Around} (r:Room k A):A.units<cLine:=by have:=r.un;lia
noncomputable def x0:TA:=fun _ H Q=>Q [] H
noncomputable def vF (ta:TE) (tr:TA):TA:=fun σ H Q=>ta σ H fun x H1=>tr σ H1 fun xs H2=>Q (x::xs) H2
section
variable {X:Cx} {e:Expr} {es:List Expr} {te:TE} {t:TA} {pos:Pos}
theorem ad:PA X [] x0:=fun _ _ _ _ H Q I h=>Calls.spliced_nil ⟨[],H,I,.nil,h⟩
theorem aa (ha:PE X e te) (hr:PA X es t) (hs:starEach (e::es) X.env=(false,eval e X.env)::starEach es X.env:=by rfl):PA X (e::es) (vF te t):=by
 intro pos pins s σ H Q I h
 rw [hs]
 show wpAny _ _ (spliced ((false,eval e X.env)::backTo pos (starEach es X.env))) _ _ s
 refine Calls.spliced_cons (thn (ha pins s σ H _ I h) fun u s1 ⟨x,H1,I1,r1,q1⟩=>?_)
 exact thn (hr pos pins s1 σ H1 _ I1 q1) fun us s2 ⟨xs,H2,I2,r2,q2⟩=>⟨x::xs,H2,I2,.cons r1 r2,q2⟩
noncomputable def xX (t:TA):TE:=fun σ H Q=>t σ H fun xs H1=>xs.length<=sizeLine/\ ∀ p,H1 p=none->Q (.ref p) (upd H1 p (.tup xs))
noncomputable def xc (t:TA):TE:=fun σ H Q=>t σ H fun xs H1=>xs.length<=sizeLine/\ ∀ p,H1 p=none->Q (.ref p) (upd H1 p (.lst xs))
theorem aK {x1} (h:PA X es t):PE X (.Tuple es x1 pos) (xX t):=by
 intro pins s σ H Q I hq
 refine wpAny_Tuple_spliced (thn (h pos pins s σ H _ I hq) fun us s1 ⟨xs,H1,I1,r,z,q⟩=>⟨by rw [<- r.length];exact z,?_⟩)
 have hf:H1 s1.heap.objs.size=none:=I1.hok.fresh (Nat.le_refl _)
 refine ⟨.ref s1.heap.objs.size,upd H1 s1.heap.objs.size (.tup xs),I1.laid (t':=s1.toks) (fun b u e=>Heap.get?_push_of_some _ e) (Nat.le_refl _) ?_,rfl,q _ hf⟩
 exact ⟨z,us,r,⟨_,Heap.get?_push_size _ rfl,rfl,_,rfl⟩⟩
theorem bc (h:PA X es t):PE X (.List es pos) (xc t):=by
 intro pins s σ H Q I hq
 refine wpAny_List_spliced (thn (h pos pins s σ H _ I hq) fun us s1 ⟨xs,H1,I1,r,z,q⟩=>⟨by rw [<- r.length];exact z,?_⟩)
 have hf:H1 s1.heap.objs.size=none:=I1.hok.fresh (Nat.le_refl _)
 refine ⟨.ref s1.heap.objs.size,upd H1 s1.heap.objs.size (.lst xs),I1.laid (t':=s1.toks) (fun b u e=>Heap.get?_push_of_some _ e) (Nat.le_refl _) ?_,rfl,q _ hf⟩
 exact ⟨z,us,0,r,Heap.get?_push_size _ rfl⟩
end
noncomputable abbrev Sp:=List V->Hp->VK->XK->Prop
noncomputable abbrev CXT:=List Env->Hp->Shared->XK->Value->Shared->Prop
structure um (P:Program) (w:World) (K:PySem.W.Frag) (mg:Str->Option Value) (base:Heap) (A:Around) (outer:List Env) (s:Shared) (H:Hp):Prop where
 frames:A.frames=some outer
 mod:Mod K mg base
 bs: ∀ b o,base.get? b=some o->s.heap.get? b=some o/\H b=none
 bsz:base.objs.size<=s.heap.objs.size
 funs:s.heap.FunFrames base outer
 frf: ∀ b∈frs outer,H b=none
 hok:HOk P w H s.heap
 bare:AllBare s.gens
noncomputable def CE (outer:List Env) (P:Program) (w:World) (H:Hp) (s:Shared) (Q:VK) (u:Value) (s':Shared):Prop:=
 ∃ v H',s'.os=s.os/\AllBare s'.gens/\Un (frs outer) [] H H' s.heap s'.heap/\HOk P w H' s'.heap/\RelV v u/\Q v H'
noncomputable def CR (CX:CXT) (outer:List Env) (P:Program) (w:World) (H:Hp) (s:Shared) (Q:VK) (E:XK) (r:Result) (s':Shared):Prop:=
 match r with
 | .ok (.ret u)=>CE outer P w H s Q u s'
 | .ok _=>False
 | .error e=>CX outer H s E e s'
structure ar (P:Program) (w:World) (K:PySem.W.Frag) (mg:Str->Option Value) (base:Heap) (CX:CXT) (k:Nat) (f:Addr) (fd:FuncData) (ps:List Str) (sp:Sp):Prop where
 len: ∀ vs H Q E,sp vs H Q E->vs.length=ps.length
 run: ∀ (A:Around) (outer:List Env) (s:Shared) (H:Hp) (args:Args) (us:List Value) (vs:List V) (Q:VK) (E:XK),Room k A->um P w K mg base A outer s H->BindsTo s fd args (ps.zip us)->Vals vs us->sp vs H Q E->
  codeAny (model P w) A (.call (.ref f) args) (CR CX outer P w H s Q E) s
section
variable {X:Cx} {pins:List (Addr×Obj)} {σ:St} {H:Hp} {s s':Shared}
theorem Inv.env0 (I:Inv X pins σ H s):um X.prog X.w X.K X.mg X.base X.A X.stack s H:=
 ⟨I.ok.frames,I.ok.mod,I.bs,Nat.le_trans I.ok.bsz I.sz,I.stack,I.stkFree,I.hok,I.bare⟩
theorem Inv.after {Q:VK} {u:Value} (I:Inv X pins σ H s) (h:CE X.stack X.prog X.w H s Q u s'):EP X pins σ Q u s':=by
 obtain ⟨v,H',os,bare,un,hok,r,q⟩:=h
 obtain ⟨hh,g,d,t,os'⟩:=s'
 obtain rfl:os'=s.os:=os
 exact ⟨v,H',I.call (h':=hh) (g':=g) (d':=d) (t':=t) (ch:=[]) un hok bare (fun b z=>absurd z (by simp)),r,q⟩
end
noncomputable def xh (sp:Sp) (dvs:List V) (E:XK) (t:TA):TE:=fun σ H Q=>t σ H fun vs H1=>sp (vs++dvs) H1 Q E
noncomputable def Binds (K:PySem.W.Frag) (fd:FuncData) (ps:List Str) (ds:List Value):Prop:=
 ∀ (s:Shared) (us:List Value),K.In s.heap->(us++ds).length=ps.length->BindsTo s fd ⟨us,[]⟩ (ps.zip (us++ds))
theorem Binds.all {K:PySem.W.Frag} {fd:FuncData} {ps:List Str} (h: ∀ us:List Value,us.length=ps.length->bindArgs fd ⟨us,[]⟩=pure (ps.zip us)):Binds K fd ps []:=fun s us _ hl=>by
 rw [List.append_nil]at hl ⊢
 exact .of_eq (h us hl)
noncomputable def oH (CX:CXT) (X:Cx) (E:XK):Prop:= ∀ (pins:List (Addr×Obj)) (σ:St) (H:Hp) (s:Shared) (e:Value) (s':Shared),Inv X pins σ H s->CX X.stack H s E e s'->X.xe e s'
section
variable {X:Cx} {CX:CXT} {k:Nat} {f C:Addr} {fd:FuncData} {ps:List Str} {sp:Sp} {dvs:List V} {ds:List Value} {E:XK} {x m:Str} {p pos apos:Pos} {e o:Expr} {es:List Expr} {ta:TE} {t:TA}
theorem v7 {pins:List (Addr×Obj)} {σ:St} {H:Hp} {s:Shared} {Q:VK} {us:List Value} {vs:List V} (F:ar X.prog X.w X.K X.mg X.base CX k f fd ps sp) (hr:Room k X.A) (hb:Binds X.K fd ps ds) (hd:Vals dvs ds) (hx:oH CX X E)
  (I:Inv X pins σ H s) (r:Vals vs us) (h:sp (vs++dvs) H Q E):wpAny (model X.prog X.w) X.A (call (.ref f) us) (EP X pins σ Q) X.xe s:=by
 have r2:Vals (vs++dvs) (us++ds):=r.append hd
 have hl:(us++ds).length=ps.length:=by rw [<- r2.length];exact F.len _ _ _ _ h
 refine wpAny_call (codeAny_mono (F.run X.A X.stack s H ⟨us,[]⟩ (us++ds) (vs++dvs) Q E hr I.env0 (hb s us I.kIn hl) r2 h) fun r s' hq=>?_)
 cases r with
 | error e=>exact hx pins σ H s e s' I hq
 | ok fl=>
  cases fl with
  | ret u=>exact I.after hq
  | next=>exact False.elim hq
  | brk=>exact False.elim hq
  | cont=>exact False.elim hq
theorem al (F:ar X.prog X.w X.K X.mg X.base CX k f fd ps sp) (hr:Room k X.A) (hg:Gl X x) (hm:X.mg x=some (.ref f)) (hk:PySem.W.keepIn X.K (.ref f)=true) (hb:Binds X.K fd ps ds) (hd:Vals dvs ds) (hx:oH CX X E)
  (ha:PA X (e::es) t) (hdb:(x==("__debug__":Str))=false:=by decide) (he:starEach (e::es) X.env=(false,eval e X.env)::starEach es X.env:=by rfl) (hpl:(backTo pos (starEach es X.env)).any (·.1)=false:=by rfl):
  PE X (.Call (.Name x p) (e::es) [] pos) (xh sp dvs E t):=by
 intro pins s σ H Q I h
 refine wpAny_Call_Name_kw (ll I hg hm ?_ hdb)
 refine PySem.W.callWith_K (h₀:=X.base) I.ok.mod.kin hk (thn (ha pos pins s σ H _ I h) fun us s1 ⟨vs,H1,I1,r,q⟩=>⟨I1.kIn,?_⟩) he hpl
 exact v7 F hr hb hd hx I1 r q
end
structure ay (N P:List Str) (sc:Scope):Prop where
 kind:sc.kind=.function
 co:sc.isCoroutine=false
 gen:sc.isGenerator=false
 nd:N.Nodup
 pre:N.take P.length=P
 par: ∀ x∈P,sc.names.lookup x=some .local\/sc.names.lookup x=some .cell
 nofree: ∀ y∈sc.names,y.2≠ .free
theorem fsc {N P:List Str} {sc:Scope} (kind_:sc.kind=.function:=by rfl) (co_:sc.isCoroutine=false:=by rfl) (gen_:sc.isGenerator=false:=by rfl) (nd_:N.Nodup:=by decide +kernel) (pre_:N.take P.length=P:=by rfl) (par_: ∀ x∈P,sc.names.lookup x=some .local\/sc.names.lookup x=some .cell:=by decide +kernel) (nofree_: ∀ y∈sc.names,y.2≠ .free:=by decide +kernel):ay N P sc:=⟨kind_,co_,gen_,nd_,pre_,par_,nofree_⟩
theorem j2 {kindOf:Str->Option NameKind} {x:Str}: ∀ {binds:List (Str×Value)} {m:Str->Option Value},(∀ v,(x,v)∉binds)->bindL kindOf binds m x=m x
 | [],_,_=>rfl
 | (n,v)::r,m,h=>by
  unfold bindL
  rw [j2 fun w hw=>h w (List.mem_cons_of_mem _ hw)]
  split
  ·have:x≠n:=by rintro rfl;exact h v List.mem_cons_self
   simp [this]
  ·rfl
theorem j4 {kindOf:Str->Option NameKind} {x:Str}: ∀ {binds:List (Str×Value)} {m:Str->Option Value},(∀ v,(x,v)∉binds)->bindC kindOf binds m x=m x
 | [],_,_=>rfl
 | (n,v)::r,m,h=>by
  unfold bindC
  rw [j4 fun w hw=>h w (List.mem_cons_of_mem _ hw)]
  split
  ·rfl
  ·have:x≠n:=by rintro rfl;exact h v List.mem_cons_self
   simp [this]
theorem j3 {kindOf:Str->Option NameKind} {x:Str} {v:Value}: ∀ {P:List Str} {vs:List Value} {i:Nat} {m:Str->Option Value},P.Nodup->P[i]? =some x->vs[i]? =some v->kindOf x=some .local->
  bindL kindOf (P.zip vs) m x=some v
 | [],_,_,_,_,h,_,_=>by simp at h
 | _::_,[],_,_,_,_,h,_=>by simp at h
 | p::P,w::vs,0,m,nd,h1,h2,hk=>by
  simp at h1 h2;subst h1;subst h2
  show bindL kindOf ((p,w)::P.zip vs) m p=_
  unfold bindL
  rw [j2 fun v hv=>(List.nodup_cons.mp nd).1 (List.of_mem_zip hv).1,if_pos hk]
  simp
 | p::P,w::vs,i+1,m,nd,h1,h2,hk=>by
  show bindL kindOf ((p,w)::P.zip vs) m x=_
  unfold bindL
  exact j3 (i:=i) (List.nodup_cons.mp nd).2 (by simpa using h1) (by simpa using h2) hk
theorem j5 {kindOf:Str->Option NameKind} {x:Str} {v:Value}: ∀ {P:List Str} {vs:List Value} {i:Nat} {m:Str->Option Value},P.Nodup->P[i]? =some x->vs[i]? =some v->kindOf x≠some .local->
  bindC kindOf (P.zip vs) m x=some v
 | [],_,_,_,_,h,_,_=>by simp at h
 | _::_,[],_,_,_,_,h,_=>by simp at h
 | p::P,w::vs,0,m,nd,h1,h2,hk=>by
  simp at h1 h2;subst h1;subst h2
  show bindC kindOf ((p,w)::P.zip vs) m p=_
  unfold bindC
  rw [j4 fun v hv=>(List.nodup_cons.mp nd).1 (List.of_mem_zip hv).1,if_neg hk]
  simp
 | p::P,w::vs,i+1,m,nd,h1,h2,hk=>by
  show bindC kindOf ((p,w)::P.zip vs) m x=_
  unfold bindC
  exact j5 (i:=i) (List.nodup_cons.mp nd).2 (by simpa using h1) (by simpa using h2) hk
noncomputable def start (N:List Str) (vs:List V):St:=vs.map some++List.replicate (N.length-vs.length) none
noncomputable def eU (CX:CXT) (P:Program) (w:World) (K:PySem.W.Frag) (mg:Str->Option Value) (base:Heap) (N:List Str) (qual:Str) (scope:Scope) (f:Addr) (cd:Value) (A:Around) (outer:List Env) (s:Shared) (H:Hp) (E:XK):Cx where
 prog:=P
 w:=w
 K:=K
 mg:=mg
 base:=base
 A:=A.deeper (envOfC qual scope s.heap.objs.size f cd)
 N:=N
 s₀:=s
 H₀:=H
 env:=envOfC qual scope s.heap.objs.size f cd
 outer:=outer
 stack:=envOfC qual scope s.heap.objs.size f cd::outer
 ex:=[]
 calm:=true
 fn:=fun _=>true
 pn:=[]
 xe:=fun e s'=>wpAny (model P w) (A.deeper (envOfC qual scope s.heap.objs.size f cd)) (leaving (envOfC qual scope s.heap.objs.size f cd) e) (fun _ s''=>CX outer H s E e s'') (fun e' s''=>CX outer H s E e' s'') s'
theorem mU {sc:Scope} {n:Nat} {x:Str} (h:sc.names.lookup x=some .cell): ∃ c,(cellsFrom n sc.names []).lookup x=some c:=by
 have q:=PySem.W.cellsFrom_some sc.names n [] (.inl h)
 exact Option.isSome_iff_exists.mp q
theorem qS {CX:CXT} {P:Program} {w:World} {K:PySem.W.Frag} {mg:Str->Option Value} {base:Heap} {N ps:List Str} {qual:Str} {scope:Scope} {f:Addr} {cd:Value} {A:Around} {outer:List Env} {s s1:Shared} {H:Hp} {E:XK} {us:List Value} {vs:List V}
  (S:ay N ps scope) (hd:A.handled=none) (e0:um P w K mg base A outer s H) (hl:vs.length=ps.length) (r:Vals vs us)
  (x:InCallC s s.heap.objs.size (bindL (envOfC qual scope s.heap.objs.size f cd).kindOf (ps.zip us) fun _=>none) (cellsFrom (s.heap.objs.size+1) scope.names []) (bindC (envOfC qual scope s.heap.objs.size f cd).kindOf (ps.zip us) fun _=>none) s1):
  Inv (eU CX P w K mg base N qual scope f cd A outer s H E) [] (start N vs) H s1:=by
 have hpl:ps.length<=N.length:=by have:=congrArg List.length S.pre;rw [List.length_take]at this;lia
 obtain ⟨h1,tk,rfl,hk⟩:=x.done
 have noA: ∀ b:Addr,b∉(eU CX P w K mg base N qual scope f cd A outer s H E).ex:=fun b z=>absurd (show b∈([]:List Addr)from z) (by simp)
 refine ⟨⟨e0.mod,S.kind,rfl,rfl,Nat.le_refl _,fun y z c h1 h2=>?_,fun y hy=>?_,fun y c _ h=>?_,fun _=>hd,Around.frames_deeper e0.frames,.inr ⟨rfl,rfl⟩,fun b z=>absurd z (noA b),e0.bs,e0.bsz,fun b _ _=>noA b,fun b z=>absurd z (noA b),e0.funs,e0.frf⟩,
  rfl,e0.bare,Un.kept hk,⟨_,x.toInCall.ns,fun i y v h1 h2 h3=>?_⟩,fun y c h=>⟨_,x.cell y c h⟩,e0.hok.fresh (Nat.le_refl _),fun y c h=>?_,fun p hp=>absurd (show p∈([]:List (Addr×Obj))from hp) (by simp),e0.hok.kept hk,?_⟩
 ·exact name_of_addr x.apart (PySem.mem_of_lookup h1) (PySem.mem_of_lookup h2)
 ·have hy:scope.names.lookup y=some .cell\/scope.names.lookup y=some .free:=hy
  rcases hy with hy | hy
  ·exact mU hy
  ·exact absurd rfl (S.nofree _ (PySem.mem_of_lookup hy))
 ·exact Nat.le_of_lt (x.above y c (PySem.mem_of_lookup h))
 ·have hi:i<vs.length:=by
   unfold start at h2
   by_cases hi:i<vs.length
   ·exact hi
   ·rw [List.getElem?_append_right (by simpa using hi)]at h2
    rw [List.getElem?_replicate]at h2
    split at h2 <;> cases h2
  have ha:vs[i]? =some v:=by
   unfold start at h2
   rw [List.getElem?_append_left (by simpa using hi),List.getElem?_map]at h2
   cases e:vs[i]? with
   | none=>rw [e]at h2;cases h2
   | some a=>rw [e]at h2;cases h2;rfl
  obtain ⟨u,hu,rv⟩:=r.get ha
  have hp:ps[i]? =some y:=by
   rw [<- S.pre,List.getElem?_take_of_lt (by lia)];exact h1
  have ndP:ps.Nodup:=by rw [<- S.pre];exact S.nd.sublist (List.take_sublist _ _)
  refine ⟨u,rv,?_⟩
  rcases S.par y (List.mem_of_getElem? hp)with k | k
  ·exact .inl ⟨k,j3 ndP hp hu k⟩
  ·obtain ⟨c,e⟩:=mU (n:=s.heap.objs.size+1) k
   refine .inr ⟨.inl k,c,e,?_⟩
   have q:=x.cell y c e
   rw [j5 ndP hp hu (by show scope.names.lookup y≠_;rw [k];decide)]at q
   exact q
 ·exact e0.hok.fresh (Nat.le_of_lt (x.above y c (PySem.mem_of_lookup h)))
 ·unfold start
  show _=N.length
  rw [List.length_append,List.length_map,List.length_replicate]
  lia
theorem vI {CX:CXT} {P:Program} {w:World} {K:PySem.W.Frag} {mg:Str->Option Value} {base:Heap} {k:Nat} {f:Addr} {name qual:Str} {params:Arguments} {body:List Stmt} {scope:Scope} {dV kV doc pm cdv ct oc:Value} {an od:Option Addr}
  {osl:Array (Option Value)} {N ps:List Str} {sp:Sp} (lk:K.lookup f=some ⟨oc,od,.func (PySem.W.fnOf name qual params body scope dV kV doc pm an cdv ct),osl⟩) (hcd:PySem.W.codeIn K cdv qual=true) (S:ay N ps scope)
  (len: ∀ vs H Q E,sp vs H Q E->vs.length=ps.length)
  (hbody: ∀ (A:Around) (outer:List Env) (s:Shared) (H:Hp) (vs:List V) (Q:VK) (E:XK),Room k (A.deeper (envOfC qual scope s.heap.objs.size f cdv))->sp vs H Q E->
   ∃ t,PSs (eU CX P w K mg base N qual scope f cdv A outer s H E) body t/\t {nx:=fun _ H'=>Q .non H',rt:=Q} (start N vs) H):
  ar P w K mg base CX (k+1) f (PySem.W.fnOf name qual params body scope dV kV doc pm an cdv ct) ps sp:=by
 refine ⟨len,fun A outer s H args us vs Q E hr e0 hb r hsp=>?_⟩
 have hl:=len _ _ _ _ hsp
 have KX:K.In s.heap:=e0.mod.kin.keeps fun b o e=>(e0.bs b o e).1
 have lim:s.heap.NoLimit:=e0.mod.nolimit.keeps fun b o e=>(e0.bs b o e).1
 have hkind: ∀ y∈ps.zip us,scope.names.lookup y.1=some .local\/(scope.names.lookup y.1=some .cell/\((cellsFrom (s.heap.objs.size+1) scope.names []).lookup y.1).isSome=true):=fun ⟨n,v⟩ hy=>by
  rcases S.par n (List.of_mem_zip hy).1 with q | q
  ·exact .inl q
  ·exact .inr ⟨q,PySem.W.cellsFrom_some _ _ _ (.inl q)⟩
 refine codeAny_call_function hr.depth (KX _ _ lk) rfl S.co S.gen rfl (PySem.W.codeRec_of KX hcd) (hb _ _ _ _ ?_)
 refine wpAny_newFunctionEnv_cells S.kind hkind fun env he s1 x=>?_
 subst he
 refine ⟨lim.keeps x.toInCall.keep,codeAny_func ?_⟩
 obtain ⟨t,ht,hq⟩:=hbody A outer s H vs Q E (hr.deeper _) hsp
 have I:Inv (eU CX P w K mg base N qual scope f cdv A outer s H E) [] (start N vs) H s1:=qS S hr.hd e0 hl r x
 refine wpAny_mono (ht [] s1 (start N vs) H _ I hq) (fun fl s' hs=>?_) fun e s' hs=>hs
 have fin: ∀ {σ':St} {H':Hp} {v:V} {u:Value},Inv (eU CX P w K mg base N qual scope f cdv A outer s H E) [] σ' H' s'->RelV v u->Q v H'->CE outer P w H s Q u s':=
  fun {σ' H' v u} J rv q=>⟨v,H',J.os,J.bare,J.base,J.hok,rv,q⟩
 cases fl with
 | ret u=>
  obtain ⟨v,σ',H',J,rv,q⟩:=hs
  exact fin J rv q
 | next=>
  obtain ⟨σ',H',J,q⟩:=hs
  exact fin (v:=V.non) (u:=Value.none) J rfl q
 | brk=>
  obtain ⟨_,_,_,q⟩:=hs
  exact False.elim q
 | cont=>
  obtain ⟨_,_,_,q⟩:=hs
  exact False.elim q
section
variable {X:Cx} {x:Str} {p pos:Pos} {e:Expr} {es:List Expr} {t:TA} {id T:String} {r:List V->Hp->VK->Prop}
noncomputable def tCB (r:List V->Hp->VK->Prop) (t:TA):TE:=fun σ H Q=>t σ H fun vs H1=>r vs H1 Q
theorem aw (hc:c5 X (.builtin id) r) (hg:Gl X x) (hm:X.mg x=none) (hv:bootBuiltins x=some (.builtin id)) (ha:PA X (e::es) t) (hn:x≠"__name__":=by decide) (hdb:(x==("__debug__":Str))=false:=by decide)
  (he:starEach (e::es) X.env=(false,eval e X.env)::starEach es X.env:=by rfl) (hpl:(backTo pos (starEach es X.env)).any (·.1)=false:=by rfl):PE X (.Call (.Name x p) (e::es) [] pos) (tCB r t):=by
 intro pins s σ H Q I h
 refine wpAny_Call_Name_kw (eR I hg hm hv ?_ hn hdb)
 exact PyProof.Rows.callWith_builtin1 (thn (ha pos pins s σ H _ I h) fun us s1 ⟨vs,H1,I1,r1,q1⟩=>hc pins s1 σ H1 vs us Q I1 r1 q1) he hpl
theorem aT (hc:c5 X (.type T) r) (hg:Gl X x) (hm:X.mg x=none) (hv:bootBuiltins x=some (.type T)) (ha:PA X (e::es) t) (hn:x≠"__name__":=by decide) (hdb:(x==("__debug__":Str))=false:=by decide)
  (he:starEach (e::es) X.env=(false,eval e X.env)::starEach es X.env:=by rfl) (hpl:(backTo pos (starEach es X.env)).any (·.1)=false:=by rfl):PE X (.Call (.Name x p) (e::es) [] pos) (tCB r t):=by
 intro pins s σ H Q I h
 refine wpAny_Call_Name_kw (eR I hg hm hv ?_ hn hdb)
 exact PyProof.Rows.callWith_type1 (thn (ha pos pins s σ H _ I h) fun us s1 ⟨vs,H1,I1,r1,q1⟩=>hc pins s1 σ H1 vs us Q I1 r1 q1) he hpl
end
end L2
namespace HT
open PySem PyProof.Rows
section
variable {prog:Program} {w:World} {A:Around} {E:Value->Shared->Prop} {s:Shared}
theorem cat_tup {t b:Addr} {vs ws:List Value} {Q:Value->Shared->Prop} (ht:IsTup s.heap t vs.toArray) (hb:IsTup s.heap b ws.toArray) (hv:vs≠[])
  (h1:ws=[]->Q (.ref t) s) (h2:ws≠[]->Q (.ref s.heap.objs.size) {s with heap:=s.heap.push {cls:=.type "tuple",data:=.seq (vs++ws).toArray}})
  (hsz:vs.length+ws.length<=sizeLine):wpAny (model prog w) A (binaryOp .Add (.ref t) (.ref b)) Q E s:=by
 obtain ⟨⟨cls,dd,data,sl⟩,ho,hc,n,hd⟩:=id ht
 obtain ⟨⟨cls2,dd2,data2,sl2⟩,ho2,hc2,n2,hd2⟩:=id hb
 simp only at hc hd hc2 hd2
 subst hc hd hc2 hd2
 have e:vs.toArray++ws.toArray=(vs++ws).toArray:=by simp
 by_cases hw:ws=[]
 ·exact concat_meets ⟨_,ho,rfl⟩ ⟨_,ho2,rfl⟩ noFill_tuple_add seq_tuple_add PySem.F.slot_tuple_add PySem.F.entry_tuple_add (PySem.F.args_tuple_add_2 _ _)
   (tuple_addW1 t b vs.toArray ws.toArray n n2 dd dd2 sl sl2 (by simpa using hv) (by simp [hw])) ⟨ho,ho2,h1 hw⟩
 ·refine concat_meets ⟨_,ho,rfl⟩ ⟨_,ho2,rfl⟩ noFill_tuple_add seq_tuple_add PySem.F.slot_tuple_add PySem.F.entry_tuple_add (PySem.F.args_tuple_add_2 _ _)
   (tuple_addW2 t b vs.toArray ws.toArray n n2 dd dd2 sl sl2 (by simpa using hv) (by simpa using hw) (by rw [List.size_toArray,List.size_toArray];exact hsz)) ⟨ho,ho2,?_⟩
  rw [e]
  exact h2 hw
noncomputable def sIx (n d:Nat):Option Int->Nat
 | none=>d
 | some v=>if v<0 then (v+ (n:Int)).toNat else min v.toNat n
theorem sIx_none (n d:Nat):sIx n d none=d:=rfl
theorem sIx_nat (n d k:Nat):sIx n d (some (k:Int))=min k n:=by
 show (if (k:Int) <0 then ((k:Int) + (n:Int)).toNat else min (k:Int).toNat n)=min k n
 rw [if_neg (by lia),Int.toNat_natCast]
theorem v6 (n d:Nat) (hd:d<=n) (o:Option Int):sIx n d o<=n:=by
 cases o with
 | none=>exact hd
 | some v=>
  show (if v<0 then (v+ (n:Int)).toNat else min v.toNat n)<=n
  by_cases hv:v<0
  ·rw [if_pos hv];lia
  ·rw [if_neg hv];exact Nat.min_le_right _ _
theorem pP (v:Int) (n d:Nat):(if v<0 then max (v+ (n:Int)) 0 else min v (n:Int))=((sIx n d (some v):Nat):Int):=by
 show (if v<0 then max (v+ (n:Int)) 0 else min v (n:Int))=(((if v<0 then (v+ (n:Int)).toNat else min v.toNat n):Nat):Int)
 by_cases hv:v<0
 ·simp only [if_pos hv];lia
 ·simp only [if_neg hv];lia
theorem oG (lo hi:Option Int) (n:Nat):Builtin.Slice.sliceAdjust lo hi 1 (n:Int)=(((sIx n 0 lo:Nat):Int),((sIx n n hi:Nat):Int)):=by
 have h1: ¬ ((1:Int) <0):=by lia
 unfold Builtin.Slice.sliceAdjust
 simp only [h1,if_false]
 refine Prod.ext ?_ ?_
 ·cases lo with
  | none=>rfl
  | some v=>exact pP v n 0
 ·cases hi with
  | none=>rfl
  | some v=>exact pP v n n
theorem nN (i j:Nat):Builtin.Slice.slicePlaces (i:Int) (j:Int) 1=j-i:=by
 unfold Builtin.Slice.slicePlaces
 have h1:(1:Int) >0:=by lia
 simp only [h1,if_true,Int.ediv_one]
 split <;> lia
theorem dg {v:Value} {o:Option Int} {Q:Option Int->Shared->Prop} (p:IsPart v o) (h:Q o s):wpAny (model prog w) A (Builtin.Slice.slicePartIndex v) Q E s:=by
 cases p with
 | none=>exact slicePart_none h
 | int i t=>exact slicePart_int h
theorem dD {sl:Addr} {vl vu:Value} {lo hi:Option Int} {n:Nat} {Q:Int×Int×Nat->Shared->Prop} (hs:s.heap.IsSliceOf sl vl vu .none) (pl:IsPart vl lo) (pu:IsPart vu hi)
  (h:Q (((sIx n 0 lo:Nat):Int),1,sIx n n hi-sIx n 0 lo) s):wpAny (model prog w) A (Builtin.Slice.sliceApplied (.ref sl) (pure (n:Int))) Q E s:=by
 obtain ⟨os,hos,hcs,hds⟩:=id hs
 unfold Builtin.Slice.sliceApplied Builtin.Slice.sliceFields
 refine wpAny_bind (wpAny_bind (wpAny_field hos hds (x:=vl) rfl (wpAny_bind (wpAny_field hos hds (x:=vu) rfl (wpAny_bind (wpAny_field hos hds (x:=.none) rfl (wpAny_pure ?_)))))))
 refine wpAny_bind (slicePart_none ?_)
 show wpAny _ _ (if ((1:Int)==0)=true then _ else _) _ _ s
 rw [if_neg (by decide)]
 refine wpAny_bind (dg pl (wpAny_bind (dg pu (wpAny_bind (wpAny_pure ?_)))))
 show wpAny _ _ (match Builtin.Slice.sliceAdjust lo hi 1 (n:Int)with | (lo,hi)=>pure (lo,(1:Int),Builtin.Slice.slicePlaces lo hi 1)) _ _ s
 rw [oG lo hi n]
 show wpAny _ _ (pure (((sIx n 0 lo:Nat):Int),(1:Int),Builtin.Slice.slicePlaces ((sIx n 0 lo:Nat):Int) ((sIx n n hi:Nat):Int) 1)) _ _ s
 rw [nN]
 exact wpAny_pure h
theorem sH (xs:Array Value) (i k:Nat):((List.range k).filterMap fun (m:Nat)=>xs[((i:Int) + (m:Int) *1).toNat]?).toArray=((xs.toList.drop i).take k).toArray:=by
 have e:(fun (m:Nat)=>xs[((i:Int) + (m:Int) *1).toNat]?)=fun m=>xs[i+m]? :=by
  funext m
  have:((i:Int) + (m:Int) *1).toNat=i+m:=by lia
  rw [this]
 rw [e]
 have:=pick_run xs i k
 rw [List.filterMap_map]at this
 have e2:((fun x=>xs[x]?)∘fun x=>i+x)=fun m=>xs[i+m]? :=rfl
 rw [e2]at this
 rw [this]
theorem getItem_tuple_cut {t sl:Addr} {items:Array Value} {vl vu:Value} {lo hi:Option Int} {Q:Value->Shared->Prop} (ht:IsTup s.heap t items) (hs:s.heap.IsSliceOf sl vl vu .none) (pl:IsPart vl lo) (pu:IsPart vu hi)
  (hw: ¬ (sIx items.size 0 lo=0/\sIx items.size items.size hi=items.size))
  (h:Q (.ref s.heap.objs.size) {s with heap:=s.heap.push {cls:=.type "tuple",data:=.seq ((items.toList.drop (sIx items.size 0 lo)).take (sIx items.size items.size hi-sIx items.size 0 lo)).toArray}})
  (hsz:items.size<=sizeLine):wpAny (model prog w) A (getItem (.ref t) (.ref sl)) Q E s:=by
 have htake:sizeOk (.seq ((items.toList.drop (sIx items.size 0 lo)).take (sIx items.size items.size hi-sIx items.size 0 lo)).toArray):=by
  show ((items.toList.drop (sIx items.size 0 lo)).take (sIx items.size items.size hi-sIx items.size 0 lo)).toArray.size<=sizeLine
  rw [List.size_toArray,List.length_take,List.length_drop,Array.length_toList]
  lia
 have hj:sIx items.size items.size hi<=items.size:=v6 _ _ (Nat.le_refl _) hi
 obtain ⟨os,hos,hcs,hds⟩:=id hs
 have hTs:s.TypeIs (.ref sl) "slice":=⟨os,hos,hcs⟩
 unfold getItem
 try with_reducible refine wpAny_holding ?_
 first | refine wpAny_bind (wpAny_pure ?_) | skip
 refine wpAny_bind (wpAny_sequenceKey ht.typeIs (by decide) ?_)
 refine wpAny_bind (wpAny_callSpecial?_slot (name:=Str.ofString "__getitem__") ht.typeIs PyProof.Rows.slot_tuple_getitem
  (wpAny_call_entry PyProof.Rows.slot_tuple_getitem ht.typeIs entry_tuple_getitem ?_ (args_tuple_getitem _ _)))
 show wpAny _ _ (Builtin.Tuple.tupleItemsOf (.ref t) >>= _) _ _ s
 refine wpAny_bind (tupleItemsOf_ ht ?_)
 refine wpAny_bind (wpAny_typeOf hTs ?_)
 rw [if_pos (by decide)]
 refine wpAny_bind (dD hs pl pu ?_)
 have hno: ¬ ((((sIx items.size 0 lo:Nat):Int)==0&&(1:Int)==1&&(sIx items.size items.size hi-sIx items.size 0 lo)==items.size)=true):=by
  intro q
  rw [Bool.and_eq_true,Bool.and_eq_true]at q
  have q1:((sIx items.size 0 lo:Nat):Int)=0:=eq_of_beq q.1.1
  have q2:sIx items.size items.size hi-sIx items.size 0 lo=items.size:=eq_of_beq q.2
  exact hw ⟨by lia,by lia⟩
 show wpAny _ _ (if (((sIx items.size 0 lo:Nat):Int)==0&&(1:Int)==1&&(sIx items.size items.size hi-sIx items.size 0 lo)==items.size)=true then _ else _) _ _ s
 rw [if_neg hno,sH]
 first
  | exact wpAny_bind (m:=Builtin.Tuple.tupleExact _) (wpAny_newObj_type (wpAny_pure ⟨_,rfl,wpAny_pure h⟩) htake)
  | exact wpAny_bind (m:=Builtin.Tuple.tupleExact _) (wpAny_newObj_type (wpAny_bind (wpAny_pure (wpAny_pure ⟨_,rfl,wpAny_pure h⟩))) htake)
  | exact wpAny_bind (wpAny_bind (m:=Builtin.Tuple.tupleExact _) (wpAny_newObj_type (wpAny_pure (wpAny_pure ⟨_,rfl,wpAny_pure h⟩)) htake))
  | exact wpAny_bind (wpAny_bind (m:=Builtin.Tuple.tupleExact _) (wpAny_newObj_type (wpAny_pure ⟨_,rfl,wpAny_pure h⟩) htake))
end
end HT
namespace L2
open PySem PySem.Spec PyProof.Rows
noncomputable abbrev TO:=St->Hp->(Option Int->Hp->Prop)->Prop
noncomputable def PO (X:Cx) (e:Option Expr) (t:TO):Prop:=
 ∀ (pins:List (Addr×Obj)) (s:Shared) (σ:St) (H:Hp) (Q:Option Int->Hp->Prop),Inv X pins σ H s->t σ H Q->
  wpAny (model X.prog X.w) X.A (evalPart e X.env) (fun u s'=> ∃ o H',Inv X pins σ H' s'/\IsPart u o/\Q o H') X.xe s
noncomputable def uv:TO:=fun _ H Q=>Q none H
noncomputable def w8 (t:TE):TO:=fun σ H Q=>t σ H fun x H1=> ∃ i,x=.int i/\Q (some i) H1
section
variable {X:Cx} {e:Expr} {te:TE} {lo hi:Option Expr} {tl th:TO} {pos p2:Pos}
theorem ba:PO X none uv:=by
 intro pins s σ H Q I h
 rw [evalPart_none]
 exact wpAny_pure ⟨none,H,I,.none,h⟩
theorem aZ (h:PE X e te):PO X (some e) (w8 te):=by
 intro pins s σ H Q I hw
 rw [evalPart_some]
 refine thn (h pins s σ H _ I hw) fun u s1 ⟨x,H1,I1,r1,q1⟩=>?_
 obtain ⟨i,rfl,q⟩:=q1
 obtain ⟨t,rfl⟩:=r1
 exact ⟨some i,H1,I1,.int i t,q⟩
noncomputable def SlR (X:Cx) (r:V->Option Int->Option Int->Hp->VK->Prop):Prop:=
 ∀ (pins:List (Addr×Obj)) (s:Shared) (σ:St) (H:Hp) (x:V) (v vl vu:Value) (lo hi:Option Int) (sl:Addr) (Q:VK),Inv X pins σ H s->RelV x v->s.heap.IsSliceOf sl vl vu .none->IsPart vl lo->IsPart vu hi->r x lo hi H Q->
  ∃ T id,typeLookup (.type T) "__getitem__"=pure (some (.builtin id))/\s.TypeIs v T/\wpAny (model X.prog X.w) X.A (getItem v (.ref sl)) (EP X pins σ Q) X.xe s
noncomputable def tSl (r:V->Option Int->Option Int->Hp->VK->Prop) (te:TE) (tl th:TO):TE:=fun σ H Q=>te σ H fun x H1=>tl σ H1 fun l H2=>th σ H2 fun u H3=>r x l u H3 Q
theorem aS {r:V->Option Int->Option Int->Hp->VK->Prop} (hr:SlR X r) (he:PE X e te) (hl:PO X lo tl) (hu:PO X hi th):PE X (.Subscript e (.Slice lo hi none p2) pos) (tSl r te tl th):=by
 intro pins s σ H Q I h
 refine Subscript_ (thn (he pins s σ H _ I h) fun v s1 ⟨x,H1,I1,r1,q1⟩=>?_)
 refine wpAny_Slice (thn (hl pins s1 σ H1 _ I1 q1) fun vl s2 ⟨l,H2,I2,pl,q2⟩=>thn (hu pins s2 σ H2 _ I2 q2) fun vu s3 ⟨u,H3,I3,pu,q3⟩=>?_)
 rw [evalPart_none]
 refine wpAny_pure ?_
 have I4:Inv X pins σ H3 {s3 with heap:=s3.heap.push {cls:=.type "slice",data:=.fields #[vl,vu,.none]}}:=I3.kept (t':=s3.toks) fun b ob q=>Heap.get?_push_of_some _ q
 obtain ⟨T,id,hT,ht,hg⟩:=hr pins {s3 with heap:=s3.heap.push {cls:=.type "slice",data:=.fields #[vl,vu,.none]}} σ H3 x v vl vu l u s3.heap.objs.size Q I4 r1 (Heap.IsSliceOf.new ..) pl pu q3
 show wpAny (model X.prog X.w) X.A (subscriptTail e (.Slice lo hi none p2) v (.ref s3.heap.objs.size)) (EP X pins σ Q) X.xe {s3 with heap:=s3.heap.push {cls:=.type "slice",data:=.fields #[vl,vu,.none]}}
 exact tail_any (ops:=[.ref s3.heap.objs.size,v]) ht hT hg (by with_unfolding_all rfl)
noncomputable def cZ (xs:List V) (lo hi:Option Int):List V:=(xs.drop (HT.sIx xs.length 0 lo)).take (HT.sIx xs.length xs.length hi-HT.sIx xs.length 0 lo)
theorem hJ (xs:List V) (lo hi:Option Int):(cZ xs lo hi).length<=xs.length:=by
 unfold cZ
 rw [List.length_take,List.length_drop]
 lia
noncomputable def ya (K:PySem.W.Frag):V->Option Int->Option Int->Hp->VK->Prop:=fun x lo hi H Q=> ∃ a xs,x=.ref a/\SqT K H a xs/\
 ¬ (HT.sIx xs.length 0 lo=0/\HT.sIx xs.length xs.length hi=xs.length)/\ ∀ p,H p=none->Q (.ref p) (upd H p (.tup (cZ xs lo hi)))
theorem nA:SlR X (ya X.K):=by
 intro pins s σ H x v vl vu lo hi sl Q I rx hs pl pu h
 obtain ⟨a,xs,rfl,hx,hw,q⟩:=h
 cases rx
 obtain ⟨its,r,ht,hz⟩:=I.tuple hx
 have hlen:its.toArray.size=xs.length:=by rw [List.size_toArray];exact r.length.symm
 refine ⟨"tuple",_,PyProof.Rows.slot_tuple_getitem.lookup,ht.typeIs,?_⟩
 refine HT.getItem_tuple_cut ht hs pl pu (by rw [hlen];exact hw) ?_ (by rw [hlen];exact hz)
 rw [hlen]
 refine ⟨.ref s.heap.objs.size,_,I.laid (t':=s.toks) (o:=.tup (cZ xs lo hi)) (fun b ob q=>Heap.get?_push_of_some _ q) (Nat.le_refl _) ?_,rfl,q _ (I.hok.fresh (Nat.le_refl _))⟩
 exact ⟨Nat.le_trans (hJ xs lo hi) hz,_,(r.drop (HT.sIx xs.length 0 lo)).take (HT.sIx xs.length xs.length hi-HT.sIx xs.length 0 lo),IsTup.new _ _⟩
noncomputable def xw (K:PySem.W.Frag):R2:=fun x y H Q=> ∃ a b xs ys,x=.ref a/\y=.ref b/\SqT K H a xs/\SqT K H b ys/\xs≠[]/\xs.length+ys.length<=sizeLine/\
 (ys=[]->Q (.ref a) H)/\(ys≠[]-> ∀ p,H p=none->Q (.ref p) (upd H p (.tup (xs++ys))))
theorem Vals.nil_iff {xs:List V} {us:List Value} (r:Vals xs us):us=[]↔xs=[]:=by
 cases r with
 | nil=>simp
 | cons _ _=>simp
theorem uT:OpR X (binaryOp .Add) (xw X.K):=by
 intro pins s σ H x y v u Q I rx ry h
 obtain ⟨a,b,xs,ys,rfl,rfl,ha,hb,hx,hz,q1,q2⟩:=h
 cases rx
 cases ry
 obtain ⟨its,r1,p1,_⟩:=I.tuple ha
 obtain ⟨its2,r2,p2,_⟩:=I.tuple hb
 refine HT.cat_tup p1 p2 (fun z=>hx (r1.nil_iff.mp z)) (fun z=>⟨.ref a,H,I,rfl,q1 (r2.nil_iff.mp z)⟩) (fun z=>?_) (by rw [<- r1.length,<- r2.length];exact hz)
 refine ⟨.ref s.heap.objs.size,_,I.laid (t':=s.toks) (o:=.tup (xs++ys)) (fun b ob q=>Heap.get?_push_of_some _ q) (Nat.le_refl _) ?_,rfl,q2 (fun w=>z (r2.nil_iff.mpr w)) _ (I.hok.fresh (Nat.le_refl _))⟩
 exact ⟨by rw [List.length_append];exact hz,_,r1.append r2,IsTup.new _ _⟩
end
noncomputable def ixN (n:Nat) (i:Int):Option Nat:=if 0<=i then (if i<n then some i.toNat else none)else if -(n:Int)<=i then some (i+n).toNat else none
noncomputable def atI {α:Type} (xs:List α) (i:Int):Option α:=(ixN xs.length i).bind fun j=>xs[j]?
theorem pE {n:Nat} {i:Int} {j:Nat} (h:ixN n i=some j):seqIndex? i n=some j/\j<n/\ -(n:Int)<=i/\i<n:=by
 unfold ixN at h
 by_cases h0:0<=i
 ·rw [if_pos h0]at h
  by_cases h1:i<n
  ·rw [if_pos h1]at h
   have e:i.toNat=j:=Option.some.inj h
   exact ⟨by rw [seqIndex_of h0 h1,e],by lia,by lia,h1⟩
  ·rw [if_neg h1]at h;cases h
 ·rw [if_neg h0]at h
  by_cases h1: -(n:Int)<=i
  ·rw [if_pos h1]at h
   have e:(i+n).toNat=j:=Option.some.inj h
   exact ⟨by rw [seqIndex_neg (by lia) h1,e],by lia,h1,by lia⟩
  ·rw [if_neg h1]at h;cases h
theorem lB {α:Type} {xs:List α} {i:Int} {v:α} (h:atI xs i=some v): ∃ j,seqIndex? i xs.length=some j/\xs[j]? =some v/\j<xs.length/\ -(xs.length:Int)<=i/\i<xs.length:=by
 unfold atI at h
 cases e:ixN xs.length i with
 | none=>rw [e]at h;cases h
 | some j=>
  rw [e]at h
  obtain ⟨h1,h2,h3,h4⟩:=pE e
  exact ⟨j,h1,h,h2,h3,h4⟩
theorem a8 {α:Type} {xs:List α} {j:Nat} {v:α} (h:xs[j]? =some v):atI xs (j:Int)=some v:=by
 have hj:j<xs.length:=(List.getElem?_eq_some_iff.mp h).1
 have e:ixN xs.length (j:Int)=some j:=by
  unfold ixN
  rw [if_pos (by lia),if_pos (by lia)];simp
 unfold atI;rw [e];exact h
noncomputable def vD (b:Expr):Prop:= ∀ o i,subscripted b false o i=operate [o,i] (getItem o i)
noncomputable def IxR (X:Cx) (r:R2):Prop:=
 ∀ (value slice:Expr) (pins:List (Addr×Obj)) (s:Shared) (σ:St) (H:Hp) (x y:V) (v u:Value) (Q:VK),Inv X pins σ H s->RelV x v->RelV y u->r x y H Q->
  subscripted slice false v u=operate [v,u] (getItem v u)->wpAny (model X.prog X.w) X.A (subscriptTail value slice v u) (EP X pins σ Q) X.xe s
noncomputable def MtR (X:Cx) (id:String) (r:V->List V->Hp->VK->Prop):Prop:=
 ∀ (pins:List (Addr×Obj)) (s:Shared) (σ:St) (H:Hp) (x:V) (xs:List V) (v:Value) (us:List Value) (Q:VK),Inv X pins σ H s->RelV x v->Vals xs us->r x xs H Q->
  wpAny (model X.prog X.w) X.A (call (.builtin id) (v::us)) (EP X pins σ Q) X.xe s
section
variable {X:Cx} {a b:Expr} {ta tb:TE} {pos:Pos}
theorem aF {r:R2} (hr:IxR X r) (ha:PE X a ta) (hb:PE X b tb) (hs:vD b):PE X (.Subscript a b pos) (tOp r ta tb):=by
 intro pins s σ H Q I h
 exact Subscript_ (wU ha hb I h fun v u s2 x y H2 I2 rx ry q=>hr a b pins s2 σ H2 x y v u Q I2 rx ry q (hs _ _))
noncomputable def xr (K:PySem.W.Frag):R2:=fun x y H Q=> ∃ p xs i v,x=.ref p/\y=.int i/\SqL K H p xs/\atI xs i=some v/\Q v H
noncomputable def we (K:PySem.W.Frag):R2:=fun x y H Q=> ∃ p xs i v,x=.ref p/\y=.int i/\SqT K H p xs/\atI xs i=some v/\Q v H
noncomputable def yg:R2:=fun x y H Q=> ∃ z i c,x=.str z/\y=.int i/\z.length<=sizeLine/\atI z.cps.toList i=some c/\Q (.str ⟨#[c]⟩) H
theorem aX:IxR X (xr X.K):=by
 intro value slice pins s σ H x y v u Q I rx ry h hs
 obtain ⟨p,xs,i,z,rfl,rfl,hq,he,q⟩:=h
 cases rx
 obtain ⟨t,rfl⟩:=ry
 obtain ⟨its,r,pl,hz⟩:=I.list hq
 obtain ⟨j,h1,h2,h3,h4,h5⟩:=lB he
 obtain ⟨w,ew,rw'⟩:=r.get h2
 have hl:=r.length
 have hn:=gK
 have fin:EP X pins σ Q w s:=⟨z,H,I,rw',q⟩
 by_cases h0:0<=i
 ·have hj:i.toNat=j:=by
   rw [seqIndex_of h0 h5]at h1
   exact Option.some.inj h1
  exact item_listR pl.isList h0 (by lia) (by rw [hj];simpa using ew) fin hs
 ·have hj:(i+ (its.toArray.size:Int)).toNat=j:=by
   rw [seqIndex_neg (by lia) h4]at h1
   rw [List.size_toArray,<- hl]
   exact Option.some.inj h1
  exact subscriptTail_builtinR (x:=w) pl.isList.typeIs slot_list_getitem.lookup
   (wpAny_getItem_list_neg (Q:=fun r s'=>r=w/\EP X pins σ Q r s') pl.isList (by lia) (by rw [List.size_toArray] <;> lia) (by lia) (by rw [hj];simpa using ew) ⟨rfl,fin⟩) hs
theorem aW:IxR X (we X.K):=by
 intro value slice pins s σ H x y v u Q I rx ry h hs
 obtain ⟨p,xs,i,z,rfl,rfl,hq,he,q⟩:=h
 cases rx
 obtain ⟨t,rfl⟩:=ry
 obtain ⟨its,r,pl,hz⟩:=I.tuple hq
 obtain ⟨j,h1,h2,h3,h4,h5⟩:=lB he
 obtain ⟨w,ew,rw'⟩:=r.get h2
 have hl:=r.length
 have hn:=gK
 have fin:EP X pins σ Q w s:=⟨z,H,I,rw',q⟩
 exact subscriptTail_builtinR (x:=w) pl.typeIs slot_tuple_getitem.lookup
  (getItem_tuple (j:=j) (Q:=fun r s'=>r=w/\EP X pins σ Q r s') pl (by lia) (by lia) (by rw [List.size_toArray,<- hl];exact h1) (by simpa using ew) ⟨rfl,fin⟩) hs
theorem om:IxR X yg:=by
 intro value slice pins s σ H x y v u Q I rx ry h hs
 obtain ⟨z,i,c,rfl,rfl,hz,he,q⟩:=h
 obtain ⟨t,rfl⟩:=rx
 obtain ⟨t',rfl⟩:=ry
 obtain ⟨j,h1,h2,h3,h4,h5⟩:=lB he
 have hl:z.cps.toList.length=z.length:=by simp [Str.length]
 rw [hl]at h1 h4 h5
 have hn:=gK
 exact tail_any (typeIs_str s z t) slot_str_getitem.lookup (getItem_str (c:=c) (by
  have e1:decide (i< -(2^63:Int))=false:=decide_eq_false (by lia)
  have e2:decide (i≥2^63)=false:=decide_eq_false (by lia)
  rw [e1,e2,Bool.or_false]) (by rw [h1];simpa using h2) ⟨.str ⟨#[c]⟩,H,I.tok _,⟨_,rfl⟩,q⟩) hs
theorem oj (its:List Value) (n j:Nat) (u:Value):Obj.mapSeq (·.setIfInBounds j u) {cls:=.type "list",data:=.seq its.toArray n}={cls:=.type "list",data:=.seq (its.set j u).toArray n}:=by
 simp [Obj.mapSeq]
theorem Inv.lst {pins:List (Addr×Obj)} {σ:St} {H:Hp} {s:Shared} {p:Addr} {xs:List V} (I:Inv X pins σ H s) (h:H p=some (.lst xs)):
  ∃ (its:List Value) (n:Nat),Vals xs its/\s.heap.get? p=some {cls:=.type "list",data:=.seq its.toArray n}/\xs.length<=sizeLine:=by
 obtain ⟨z,its,n,r,e⟩:=I.hok p _ h
 exact ⟨its,n,r,e,z⟩
theorem Inv.lstUpd {pins:List (Addr×Obj)} {σ:St} {H:Hp} {s:Shared} {p:Addr} {xs ys:List V} {its its':List Value} {n n':Nat} {f:Obj->Obj} (I:Inv X pins σ H s) (h:H p=some (.lst xs))
  (ho:s.heap.get? p=some {cls:=.type "list",data:=.seq its.toArray n}) (hf:f {cls:=.type "list",data:=.seq its.toArray n}={cls:=.type "list",data:=.seq its'.toArray n'}) (r:Vals ys its') (hz:ys.length<=sizeLine) (t:Nat):
  Inv X pins σ (upd H p (.lst ys)) {s with heap:=s.heap.update p f,toks:=t}:=by
 have e:(s.heap.update p f).get? p=some {cls:=.type "list",data:=.seq its'.toArray n'}:=by
  rw [Heap.get?_update_self f ho (by rw [hf] <;> rfl),hf]
 refine I.write (x:=p) (e:=p) (by rw [h];trivial) (.inl rfl) (fun b u hb q=>(Heap.get?_update_other _ _ (Ne.symm hb)).trans q) ⟨_,e⟩ ?_
 exact ⟨hz,its',n',r,e⟩
noncomputable def xp:V->V->V->Hp->(Hp->Prop)->Prop:=fun o i v H Q=> ∃ p xs k j,o=.ref p/\i=.int k/\H p=some (.lst xs)/\ixN xs.length k=some j/\Q (upd H p (.lst (xs.set j v)))
theorem rZ:xT X xp:=by
 intro pins s σ H o i v ov iv u Q I ro ri rv h
 obtain ⟨p,xs,k,j,rfl,rfl,hp,hj,q⟩:=h
 cases ro
 obtain ⟨t,rfl⟩:=ri
 obtain ⟨its,n,r,ho,hz⟩:=I.lst hp
 obtain ⟨h1,h2,h3,h4⟩:=pE hj
 have hl:=r.length
 have hn:=gK
 have I':Inv X pins σ (upd H p (.lst (xs.set j v))) {s with heap:=s.heap.update p (Obj.mapSeq (·.setIfInBounds j u))}:=
  I.lstUpd hp ho (oj its n j u) (r.set rv j) (by rw [List.length_set];exact hz) s.toks
 by_cases h0:0<=k
 ·have hk:k.toNat=j:=by
   rw [seqIndex_of h0 h4]at h1
   exact Option.some.inj h1
  exact PySem.W.ki_setAt ho h0 (by lia) (by rw [List.size_toArray,<- hl];exact h4) (by rw [hk];exact ⟨_,I',q⟩)
 ·have hk:(k+ (its.toArray.size:Int)).toNat=j:=by
   rw [seqIndex_neg (by lia) h3]at h1
   rw [List.size_toArray,<- hl]
   exact Option.some.inj h1
  exact PySem.W.ki_setBack ho (by lia) (by rw [List.size_toArray,<- hl];exact h3) (by lia) (by rw [hk];exact ⟨_,I',q⟩)
theorem ki (lo hi:Option Int) (n:Nat):(sliceBounds lo hi none n).1=((HT.sIx n 0 lo:Nat):Int)/\(sliceBounds lo hi none n).2.1=((HT.sIx n n hi:Nat):Int)/\(sliceBounds lo hi none n).2.2=1:=by
 refine ⟨?_,?_,rfl⟩
 ·cases lo with
  | none=>simp [sliceBounds,HT.sIx]
  | some i=>
   simp only [sliceBounds,HT.sIx,Option.getD_none,show (1:Int) >0 by decide,if_true]
   by_cases h:i<0
   ·simp only [h,if_true] <;> lia
   ·simp only [h,if_false] <;> lia
 ·cases hi with
  | none=>simp [sliceBounds,HT.sIx]
  | some i=>
   simp only [sliceBounds,HT.sIx,Option.getD_none,show (1:Int) >0 by decide,if_true]
   by_cases h:i<0
   ·simp only [h,if_true] <;> lia
   ·simp only [h,if_false] <;> lia
theorem jm (its:List Value) (lo hi:Option Int):slicePick its.toArray lo hi none=((its.drop (HT.sIx its.length 0 lo)).take (HT.sIx its.length its.length hi-HT.sIx its.length 0 lo)).toArray:=by
 obtain ⟨h1,h2,h3⟩:=ki lo hi its.toArray.size
 unfold slicePick
 rw [h1,h2,h3]
 simp only [sliceRange_one,pick_run,List.size_toArray] <;> rfl
noncomputable def yd (K:PySem.W.Frag):V->Option Int->Option Int->Hp->VK->Prop:=fun x lo hi H Q=> ∃ a xs,x=.ref a/\SqL K H a xs/\ ∀ p,H p=none->Q (.ref p) (upd H p (.lst (cZ xs lo hi)))
theorem cB:SlR X (yd X.K):=by
 intro pins s σ H x v vl vu lo hi sl Q I rx hs pl pu h
 obtain ⟨a,xs,rfl,hx,q⟩:=h
 cases rx
 obtain ⟨its,r,ht,hz⟩:=I.list hx
 have hlen:=r.length
 refine ⟨"list",_,slot_list_getitem.lookup,ht.isList.typeIs,?_⟩
 refine wpAny_getItem_list_slice ht.isList hs pl pu .none (by simp) ?_ (by rw [List.size_toArray] <;> lia)
 rw [jm,<- hlen]
 refine ⟨.ref s.heap.objs.size,_,I.laid (t':=s.toks) (o:=.lst (cZ xs lo hi)) (fun b ob q=>Heap.get?_push_of_some _ q) (Nat.le_refl _) ?_,rfl,q _ (I.hok.fresh (Nat.le_refl _))⟩
 exact ⟨Nat.le_trans (hJ xs lo hi) hz,_,0,(r.drop (HT.sIx xs.length 0 lo)).take (HT.sIx xs.length xs.length hi-HT.sIx xs.length 0 lo),Heap.get?_push_size _ rfl⟩
noncomputable def gv:V->Bool
 | .non=>true
 | .bl _=>true
 | .int _=>true
 | .str _=>true
 | _=>false
noncomputable def eqV:V->V->Bool
 | .non,.non=>true
 | .bl a,.bl b=>a==b
 | .bl a,.int b=>(if a then 1 else 0)==b
 | .int a,.bl b=>a==(if b then 1 else 0)
 | .int a,.int b=>a==b
 | .str a,.str b=>a==b
 | _,_=>false
theorem wL {A:Around} {s:Shared} {y x:V} {u v:Value} (ry:RelV y u) (rx:RelV x v) (fy:gv y=true) (fx:gv x=true):SeqAt.EqAt A s u v (eqV y x):=by
 cases y with
 | non=>
  cases ry
  cases x with
  | non=>cases rx;exact SeqAt.EqAt.same _
  | bl b=>cases rx;exact SeqAt.EqAt.none_bool b
  | int b=>obtain ⟨t,rfl⟩:=rx;exact SeqAt.EqAt.none_int b t
  | str b=>obtain ⟨t,rfl⟩:=rx;exact SeqAt.EqAt.none_str b t
  | _=>exact absurd (show false=true from fx) Bool.false_ne_true
 | bl a=>
  cases ry
  cases x with
  | non=>cases rx;exact SeqAt.EqAt.bool_none a
  | bl b=>cases rx;exact SeqAt.EqAt.bool_bool a b
  | int b=>obtain ⟨t,rfl⟩:=rx;exact SeqAt.EqAt.bool_int a b t
  | str b=>obtain ⟨t,rfl⟩:=rx;exact SeqAt.EqAt.bool_str a b t
  | _=>exact absurd (show false=true from fx) Bool.false_ne_true
 | int a=>
  obtain ⟨t',rfl⟩:=ry
  cases x with
  | non=>cases rx;exact SeqAt.EqAt.int_none a t'
  | bl b=>cases rx;exact SeqAt.EqAt.int_bool a t' b
  | int b=>obtain ⟨t,rfl⟩:=rx;exact SeqAt.EqAt.int_int a t' b t
  | str b=>obtain ⟨t,rfl⟩:=rx;exact SeqAt.EqAt.int_str a t' b t
  | _=>exact absurd (show false=true from fx) Bool.false_ne_true
 | str a=>
  obtain ⟨t',rfl⟩:=ry
  cases x with
  | non=>cases rx;exact SeqAt.EqAt.str_none a t'
  | bl b=>cases rx;exact SeqAt.EqAt.str_bool a t' b
  | int b=>obtain ⟨t,rfl⟩:=rx;exact SeqAt.EqAt.str_int a t' b t
  | str b=>obtain ⟨t,rfl⟩:=rx;exact SeqAt.EqAt.str_str a t' b t
  | _=>exact absurd (show false=true from fx) Bool.false_ne_true
 | _=>exact absurd (show false=true from fy) Bool.false_ne_true
noncomputable def eqU (x:V) (u:Value):Bool:=match u with
 | .none=>eqV .non x
 | .bool b=>eqV (.bl b) x
 | .int i _=>eqV (.int i) x
 | .str z _=>eqV (.str z) x
 | _=>false
theorem tZ {x y:V} {u:Value} (r:RelV y u) (f:gv y=true):eqU x u=eqV y x:=by
 cases y with
 | non=>cases r;rfl
 | bl b=>cases r;rfl
 | int i=>obtain ⟨t,rfl⟩:=r;rfl
 | str z=>obtain ⟨t,rfl⟩:=r;rfl
 | _=>exact absurd (show false=true from f) Bool.false_ne_true
theorem lE {x:V}: ∀ {xs:List V} {us:List Value},Vals xs us->xs.all gv=true->us.any (eqU x)=xs.any fun y=>eqV y x
 | _,_,.nil,_=>rfl
 | y::xs,u::us,.cons r t,f=>by
  rw [List.all_cons,Bool.and_eq_true]at f
  rw [List.any_cons,List.any_cons,tZ r f.1,lE t f.2]
theorem i4 {A:Around} {s:Shared} {x:V} {v:Value} (rx:RelV x v) (fx:gv x=true): ∀ {xs:List V} {us:List Value},Vals xs us->xs.all gv=true-> ∀ u∈us,SeqAt.EqAt A s u v (eqU x u)
 | _,_,.nil,_=>fun u hu=>by cases hu
 | y::xs,u::us,.cons r t,f=>fun u' hu=>by
  rw [List.all_cons,Bool.and_eq_true]at f
  rcases List.mem_cons.mp hu with rfl | hu
  ·rw [tZ r f.1];exact wL r rx f.1 fx
  ·exact i4 rx fx t f.2 u' hu
noncomputable def inV (x:V) (xs:List V):Bool:=xs.any fun y=>eqV y x
noncomputable def rIn (K:PySem.W.Frag) (neg:Bool):R2:=fun x y H Q=> ∃ p xs,y=.ref p/\(SqL K H p xs\/SqT K H p xs)/\gv x=true/\xs.all gv=true/\Q (.bl (if neg then !inV x xs else inV x xs)) H
theorem dJ:OpR X (compareOp .In) (rIn X.K false):=by
 intro pins s σ H x y v u Q I rx ry h
 obtain ⟨p,xs,rfl,hq,fx,fs,q⟩:=h
 cases ry
 rcases hq with hq | hq
 ·obtain ⟨its,r,pl,hz⟩:=I.list hq
  refine SeqAt.in_listAt (eqU x) pl.isList (fun w hw=>i4 rx fx r fs w (by simpa using hw)) ⟨.bl _,H,I,rfl,?_⟩
  rw [show its.toArray.any (eqU x)=its.any (eqU x) by simp,lE r fs]
  exact q
 ·obtain ⟨its,r,pl,hz⟩:=I.tuple hq
  refine SeqAt.in_tupleAt (eqU x) pl (fun w hw=>i4 rx fx r fs w (by simpa using hw)) ⟨.bl _,H,I,rfl,?_⟩
  rw [show its.toArray.any (eqU x)=its.any (eqU x) by simp,lE r fs]
  exact q
theorem aA:c5 X (.builtin "len") (fun xs H Q=> ∃ p ys,xs=[.ref p]/\(SqL X.K H p ys\/SqT X.K H p ys)/\Q (.int ys.length) H):=by
 intro pins s σ H xs us Q I r h
 obtain ⟨p,ys,rfl,hq,q⟩:=h
 obtain ⟨u,rfl,rx⟩:=fq r
 cases rx
 have hn:=gK
 rcases hq with hq | hq
 ·obtain ⟨its,r',pl,hz⟩:=I.list hq
  have hlen:=r'.length
  exact Calls.call_len_list pl.isList (by simp only [List.size_toArray] <;> lia) ⟨.int ys.length,H,I.tok _,⟨s.toks+1,by rw [List.size_toArray,hlen]⟩,q⟩
 ·obtain ⟨its,r',pl,hz⟩:=I.tuple hq
  have hlen:=r'.length
  exact len_tuple pl (by simp only [List.size_toArray] <;> lia) ⟨.int ys.length,H,I.tok _,⟨s.toks+1,by rw [List.size_toArray,hlen]⟩,q⟩
theorem ly:c5 X (.type "list") (fun xs H Q=> ∃ p ys,xs=[.ref p]/\(SqL X.K H p ys\/SqT X.K H p ys)/\ ∀ l,H l=none->Q (.ref l) (upd H l (.lst ys))):=by
 intro pins s σ H xs us Q I r h
 obtain ⟨p,ys,rfl,hq,q⟩:=h
 obtain ⟨u,rfl,rx⟩:=fq r
 cases rx
 have fin: ∀ (its:List Value),Vals ys its->ys.length<=sizeLine-> ∀ (h':Heap) (c':Nat),(∀ b o',s.heap.get? b=some o'->h'.get? b=some o')->
   h'.get? s.heap.objs.size=some {cls:=.type "list",dict:=none,data:=.seq its.toArray c',slots:= #[]}->EP X pins σ Q (.ref s.heap.objs.size) {s with heap:=h'}:=fun its r' hz h' c' kp e=>
  ⟨.ref s.heap.objs.size,_,I.laid (t':=s.toks) kp (Nat.le_refl _) (show ObjOk X.prog X.w _ h' _ (.lst ys)from ⟨hz,its,c',r',e⟩),rfl,q _ (I.hok.fresh (Nat.le_refl _))⟩
 rcases hq with hq | hq
 ·obtain ⟨its,r',pl,hz⟩:=I.list hq
  have hlen:=r'.length
  obtain ⟨o,ho,hc,n,hd⟩:=pl.isList
  exact call_list_seq p (.inl rfl) ho hc hd (fun h' c' kp e=>fin its r' hz h' c' kp e) (by simp only [List.size_toArray] <;> lia)
 ·obtain ⟨its,r',pl,hz⟩:=I.tuple hq
  have hlen:=r'.length
  obtain ⟨o,ho,hc,n,hd⟩:=pl
  exact call_list_seq p (.inr rfl) ho hc hd (fun h' c' kp e=>fin its r' hz h' c' kp e) (by simp only [List.size_toArray] <;> lia)
theorem aM:c5 X (.type "tuple") (fun xs H Q=> ∃ p ys,xs=[.ref p]/\((SqL X.K H p ys/\ ∀ l,H l=none->Q (.ref l) (upd H l (.tup ys)))\/(SqT X.K H p ys/\Q (.ref p) H))):=by
 intro pins s σ H xs us Q I r h
 obtain ⟨p,ys,rfl,h⟩:=h
 obtain ⟨u,rfl,rx⟩:=fq r
 cases rx
 rcases h with ⟨hq,q⟩ | ⟨hq,q⟩
 ·obtain ⟨its,r',pl,hz⟩:=I.list hq
  have hlen:=r'.length
  refine call_tuple_list pl.isList (fun h' kp=>?_) (by simp only [List.size_toArray] <;> lia)
  have I1:Inv X pins σ H {s with heap:=h'}:=I.kept (t':=s.toks) kp
  have I2:Inv X pins σ (upd H h'.objs.size (.tup ys)) {s with heap:=h'.push {cls:=.type "tuple",data:=.seq its.toArray}}:=
   I1.laid (t':=s.toks) (fun b o e=>Heap.get?_push_of_some _ e) (Nat.le_refl _) (show ObjOk X.prog X.w _ _ _ (.tup ys)from ⟨hz,its,r',IsTup.new _ _⟩)
  exact ⟨.ref h'.objs.size,_,I2,rfl,q _ (I1.hok.fresh (Nat.le_refl _))⟩
 ·obtain ⟨its,r',pl,hz⟩:=I.tuple hq
  exact call_tuple_same pl ⟨.ref p,H,I,rfl,q⟩
noncomputable def tyV (K:PySem.W.Frag) (T:String) (x:V) (H:Hp):Prop:=match x with
 | .str _=>T="str"
 | .int _=>T="int"
 | .ref p=>(T="list"/\ ∃ xs,SqL K H p xs)\/(T="tuple"/\ ∃ o,K.lookup p=some o/\o.cls=.type "tuple"/\o.dict=none)\/
   (T="dict"/\((∃ kvs,H p=some (.dK kvs))\/ ∃ kvs,H p=some (.dT kvs)))\/(T="set"/\ ∃ S n,H p=some (.set S n))
 | _=>False
theorem rD {pins:List (Addr×Obj)} {σ:St} {H:Hp} {s:Shared} {T:String} {x:V} {v:Value} (I:Inv X pins σ H s) (r:RelV x v) (ty:tyV X.K T x H):
  s.TypeIs v T/\ ∀ a,v=.ref a-> ∃ ob,s.heap.get? a=some ob/\ob.dict=none:=by
 cases x with
 | str z=>
  obtain ⟨t,rfl⟩:=r
  cases (show T="str" from ty)
  exact ⟨typeIs_str s z t,fun _ e=>nomatch e⟩
 | int i=>
  obtain ⟨t,rfl⟩:=r
  cases (show T="int" from ty)
  exact ⟨typeIs_int s i t,fun _ e=>nomatch e⟩
 | ref p=>
  cases r
  rcases ty with ⟨rfl,xs,hq⟩ | ⟨rfl,o,hk,hc,hd⟩ | ⟨rfl,hk⟩ | ⟨rfl,S,n,hk⟩
  ·obtain ⟨its,_,pl,_⟩:=I.list hq
   refine ⟨pl.isList.typeIs,fun a e=>?_⟩
   cases e
   obtain ⟨o,n,e,c,hd,_⟩:=pl
   exact ⟨o,e,hd⟩
  ·refine ⟨⟨o,I.kIn p o hk,hc⟩,fun a e=>?_⟩
   cases e
   exact ⟨o,I.kIn _ o hk,hd⟩
  ·have z: ∃ o,s.heap.get? p=some o/\o.ExactDict:=by
    rcases hk with ⟨kvs,hk⟩ | ⟨kvs,hk⟩
    ·obtain ⟨_,_,_,_,o,_,_,e,ex,_⟩:=I.hok p _ hk
     exact ⟨o,e,ex⟩
    ·obtain ⟨_,_,_,_,o,_,_,e,ex,_⟩:=I.hok p _ hk
     exact ⟨o,e,ex⟩
   obtain ⟨o,e,ex⟩:=z
   refine ⟨⟨o,e,ex.1⟩,fun a e2=>?_⟩
   cases e2
   exact ⟨o,e,ex.2.1⟩
  ·obtain ⟨o,_,_,_,e,ex,_⟩:=I.hok p _ hk
   refine ⟨⟨o,e,ex.1⟩,fun a e2=>?_⟩
   cases e2
   exact ⟨o,e,ex.2.1⟩
 | _=>exact False.elim ty
noncomputable def xi (K:PySem.W.Frag) (T:String) (r:V->List V->Hp->VK->Prop) (to:TE):TE:=fun σ H Q=>to σ H fun x H1=>tyV K T x H1/\r x [] H1 Q
noncomputable def tBM (K:PySem.W.Frag) (T:String) (r:V->List V->Hp->VK->Prop) (to:TE) (t:TA):TE:=fun σ H Q=>to σ H fun x H1=>tyV K T x H1/\t σ H1 fun xs H2=>r x xs H2 Q
variable {o e:Expr} {es:List Expr} {to:TE} {t:TA} {name:Str} {apos cpos:Pos} {T id:String} {r:V->List V->Hp->VK->Prop}
theorem nS (pa:PlainAttrs T) (slot:Slot T name id) (hty:typeOf (.builtin id)=pure (.type "method_descriptor")) (hm:MtR X id r) (ho:PE X o to)
  (hbase:attributeBase o name X.env (eval o X.env)=eval o X.env:=by rfl) (hline:(apos.endLine==cpos.line)=true:=by rfl):PE X (.Call (.Attribute o name apos) [] [] cpos) (xi X.K T r to):=by
 intro pins s σ H Q I h
 refine wpAny_Call_method0_late hbase hline (thn (ho pins s σ H _ I h) fun v s1 ⟨x,H1,I1,r1,ty,q1⟩=>?_)
 obtain ⟨h1,h2⟩:=rD I1 r1 ty
 exact ⟨T,id,pa,slot,hty,h1,h2,Calls.callWith_builtin rfl (PySem.evalArgs_none (hm pins s1 σ H1 x [] v [] Q I1 r1 .nil q1))⟩
theorem dj (pa:PlainAttrs T) (slot:Slot T name id) (hty:typeOf (.builtin id)=pure (.type "method_descriptor")) (hm:MtR X id r) (ho:PE X o to) (ha:PA X (e::es) t)
  (hbase:attributeBase o name X.env (eval o X.env)=eval o X.env:=by rfl)
  (hfew:((backTo cpos (starEach (e::es) X.env)).all (fun x=> !x.1)&&(backToKw cpos (keywordEach [] X.env)).all (fun x=>x.1.isSome)
   &&decide ((e::es).length+ ([]:List Keyword).length+ (if ([]:List Keyword).isEmpty then 0 else 1) <30))=true:=by rfl)
  (hline:(apos.endLine==cpos.line)=true:=by rfl) (hs:starEach (e::es) X.env=(false,eval e X.env)::starEach es X.env:=by rfl) (hplain:(backTo cpos (starEach es X.env)).any (·.1)=false:=by rfl):
  PE X (.Call (.Attribute o name apos) (e::es) [] cpos) (tBM X.K T r to t):=by
 intro pins s σ H Q I h
 refine wpAny_Call_method_late hbase hfew hline rfl (thn (ho pins s σ H _ I h) fun v s1 ⟨x,H1,I1,r1,ty,q1⟩=>?_)
 obtain ⟨h1,h2⟩:=rD I1 r1 ty
 refine ⟨T,id,pa,slot,hty,h1,h2,?_⟩
 have hA:=ha cpos pins s1 σ H1 _ I1 q1
 rw [hs]at hA ⊢
 refine Calls.callWith_builtin (by show (false||(backTo cpos (starEach es X.env)).any (·.1))=false;rw [hplain] <;> rfl) (Calls.evalArgs_plain ?_)
 exact thn hA fun us s2 ⟨vs,H2,I2,r2,q2⟩=>hm pins s2 σ H2 x vs v us Q I2 r1 r2 q2
end
noncomputable def MtM (X:Cx) (id:String) (r:V->List V->Hp->VK->Prop):Prop:=
 ∀ (pins:List (Addr×Obj)) (s:Shared) (σ:St) (H:Hp) (x:V) (xs:List V) (v:Value) (us:List Value) (Q:VK),Inv X pins σ H s->RelV x v->Vals xs us->r x xs H Q->
  wpAny (model X.prog X.w) X.A (call (.builtin id) (v::us)) (EP X pins σ Q) X.xe s
theorem Vals.one: ∀ {x:V} {us:List Value},Vals [x] us-> ∃ u,us=[u]/\RelV x u
 | _,_,.cons r .nil=>⟨_,rfl,r⟩
theorem Vals.two: ∀ {x y:V} {us:List Value},Vals [x,y] us-> ∃ u v,us=[u,v]/\RelV x u/\RelV y v
 | _,_,_,.cons r (.cons q .nil)=>⟨_,_,rfl,r,q⟩
theorem Vals.zero: ∀ {us:List Value},Vals [] us->us=[]
 | _,.nil=>rfl
theorem Vals.dropLast {xs:List V} {us:List Value} (h:Vals xs us):Vals xs.dropLast us.dropLast:=by
 induction h with
 | nil=>exact .nil
 | cons r t ih=>
  cases t with
  | nil=>exact .nil
  | cons q t'=>exact .cons r ih
theorem ox {α:Type} (l:List α):l.eraseIdx (l.length-1)=l.dropLast:=by
 induction l with
 | nil=>rfl
 | cons a r ih=>
  cases r with
  | nil=>rfl
  | cons b r=>
   have e:(a::b::r).length-1=((b::r).length-1) +1:=by
    have h1:(a::b::r).length=r.length+2:=rfl
    have h2:(b::r).length=r.length+1:=rfl
    lia
   rw [e,List.eraseIdx_cons_succ,ih]
   all_goals rfl
section
variable {X:Cx} {pins:List (Addr×Obj)} {σ:St} {H:Hp} {s:Shared} {l b:Addr} {xs ys zs:List V}
theorem Inv.lset {its its':List Value} {n:Nat} {f:Array Value->Array Value} {t':Nat} (I:Inv X pins σ H s) (hH:H l=some (.lst xs))
  (e:s.heap.get? l=some {cls:=.type "list",data:=.seq its.toArray n}) (hf:f its.toArray=its'.toArray) (hv:Vals ys its') (hz:ys.length<=sizeLine):
  Inv X pins σ (upd H l (.lst ys)) {s with heap:=s.heap.update l (Obj.mapSeq f),toks:=t'}:=by
 have q:=PySem.IsL.update e f
 rw [hf]at q
 refine I.write (x:=l) (e:=l) (by rw [hH];exact trivial) (.inl rfl) (fun b' u hb hu=>(Heap.get?_update_other s.heap (Obj.mapSeq f) (Ne.symm hb)).trans hu) ⟨_,q⟩ ?_
 exact ⟨hz,its',_,hv,q⟩
theorem Inv.lnew {its:List Value} {t':Nat} (I:Inv X pins σ H s) (hv:Vals ys its) (hz:ys.length<=sizeLine):
  Inv X pins σ (upd H s.heap.objs.size (.lst ys)) {s with heap:=s.heap.push {cls:=.type "list",data:=.seq its.toArray},toks:=t'}:=
 I.laid (fun _ _ q=>Heap.get?_push_of_some _ q) (Nat.le_refl _) ⟨hz,its,0,hv,Heap.get?_push_size _ rfl⟩
theorem Inv.fresh (I:Inv X pins σ H s):H s.heap.objs.size=none:=I.hok.fresh (Nat.le_refl _)
theorem Inv.lstM (I:Inv X pins σ H s) (hH:H l=some (.lst xs)):xs.length<=sizeLine/\ ∃ (its:List Value) (n:Nat),Vals xs its/\xs.length=its.length/\s.heap.get? l=some {cls:=.type "list",data:=.seq its.toArray n}:=by
 obtain ⟨z,its,n,r,e⟩:=I.hok l _ hH
 exact ⟨z,its,n,r,r.length,e⟩
theorem ml {n:Nat} (h:n<=sizeLine):Builtin.List.listTooLong n=false:=by
 unfold Builtin.List.listTooLong
 exact decide_eq_false (by lia)
end
section
variable {X:Cx}
noncomputable def uO:V->List V->Hp->VK->Prop:=fun x vs H Q=> ∃ l xs y,x=.ref l/\vs=[y]/\H l=some (.lst xs)/\xs.length<sizeLine/\Q .non (upd H l (.lst (xs++[y])))
theorem bi:MtM X "list.append" uO:=by
 intro pins s σ H x vs v us Q I rx rv h
 obtain ⟨l,xs,y,rfl,rfl,hH,hz,q⟩:=h
 cases rx
 obtain ⟨u,rfl,ru⟩:=rv.one
 obtain ⟨z,its,n,r,hl,e⟩:=I.lstM hH
 refine call_meets F.slot_list_append ⟨_,e,rfl⟩ F.entry_list_append (F.args_list_append_2 _ _) (PySem.list_append l its.toArray n u (by rw [List.size_toArray];lia)) ⟨e,?_⟩
 refine ⟨.non,_,I.lset (its':=its++[u]) hH e (by simp) (r.append (.cons ru .nil)) ?_,rfl,q⟩
 rw [List.length_append,List.length_singleton]
 lia
noncomputable def uN:V->List V->Hp->VK->Prop:=fun x vs H Q=> ∃ l b xs zs,x=.ref l/\vs=[.ref b]/\H l=some (.lst xs)/\H b=some (.lst zs)/\xs.length+zs.length<=sizeLine/\Q .non (upd H l (.lst (xs++zs)))
theorem jN:MtM X "list.extend" uN:=by
 intro pins s σ H x vs v us Q I rx rv h
 obtain ⟨l,b,xs,zs,rfl,rfl,hH,hB,hz,q⟩:=h
 cases rx
 obtain ⟨u,rfl,ru⟩:=rv.one
 cases ru
 obtain ⟨z,its,n,r,hl,e⟩:=I.lstM hH
 obtain ⟨z2,its2,n2,r2,hl2,e2⟩:=I.lstM hB
 have hsz:its.toArray.size+its2.toArray.size<=sizeLine:=by rw [List.size_toArray,List.size_toArray];lia
 have hlong: ¬ (!its.toArray.isEmpty&&Builtin.List.listTooLong (its.toArray.size+its2.toArray.size))=true:=by
  rw [ml hsz,Bool.and_false]
  exact Bool.false_ne_true
 refine call_meets F.slot_list_extend ⟨_,e,rfl⟩ F.entry_list_extend (F.args_list_extend_2 _ _)
  (AutoSeq1.list_extend_list_list_0 l its.toArray n b its2.toArray n2 hlong (by rw [List.size_toArray];lia) (by lia)) ⟨e,e2,?_⟩
 refine ⟨.non,_,I.lset (its':=its++its2) hH e (by simp) (r.append r2) ?_,rfl,q⟩
 rw [List.length_append]
 lia
noncomputable def xq:V->List V->Hp->VK->Prop:=fun x vs H Q=> ∃ l xs y,x=.ref l/\vs=[]/\H l=some (.lst xs)/\xs[xs.length-1]? =some y/\Q y (upd H l (.lst xs.dropLast))
theorem oi:MtM X "list.pop" xq:=by
 intro pins s σ H x vs v us Q I rx rv h
 obtain ⟨l,xs,y,rfl,rfl,hH,hy,q⟩:=h
 cases rx
 have hus:=rv.zero
 subst hus
 obtain ⟨z,its,n,r,hl,e⟩:=I.lstM hH
 obtain ⟨u,hu,ru⟩:=r.get hy
 have hy':its.toArray[its.toArray.size-1]? =some u:=by
  show its.toArray[its.length-1]? =some u
  rw [<- Array.getElem?_toList,<- hl]
  exact hu
 refine call_meets F.slot_list_pop ⟨_,e,rfl⟩ F.entry_list_pop (F.args_list_pop_1 _) (MeetsSeq.list_pop_last l its.toArray n u hy' (by rw [List.size_toArray];lia)) ⟨e,?_⟩
 refine ⟨y,_,I.lset (its':=its.dropLast) hH e ?_ r.dropLast ?_,ru,q⟩
 ·show its.toArray.eraseIdxIfInBounds (its.toArray.size-1)=its.dropLast.toArray
  rw [List.size_toArray,List.eraseIdxIfInBounds_toArray,ox]
 ·rw [List.length_dropLast]
  lia
noncomputable def yi:R2:=fun x y H Q=> ∃ l b xs zs,x=.ref l/\y=.ref b/\H l=some (.lst xs)/\H b=some (.lst zs)/\xs.length+zs.length<=sizeLine/\ ∀ p,H p=none->Q (.ref p) (upd H p (.lst (xs++zs)))
theorem gJ:OpR X (binaryOp .Add) yi:=by
 intro pins s σ H x y v u Q I rx ry h
 obtain ⟨l,b,xs,zs,rfl,rfl,hH,hB,hz,q⟩:=h
 cases rx
 cases ry
 obtain ⟨z,its,n,r,hl,e⟩:=I.lstM hH
 obtain ⟨z2,its2,n2,r2,hl2,e2⟩:=I.lstM hB
 refine PySem.P.add_list e e2 ?_ (by rw [List.size_toArray,List.size_toArray];lia)
 have ea:its.toArray++its2.toArray=(its++its2).toArray:=by simp
 rw [ea]
 exact ⟨.ref _,_,I.lnew (t':=s.toks) (r.append r2) (by rw [List.length_append];lia),rfl,q _ I.fresh⟩
end
section
variable {κ:Type} [DecidableEq κ]
noncomputable def aU (kvs:List (κ×V)) (k:κ):Option V:=(kvs.find? fun kv=>decide (kv.1=k)).map (·.2)
noncomputable def bp (kvs:List (κ×V)) (k:κ) (v:V):List (κ×V):=
 if (kvs.any fun kv=>decide (kv.1=k))=true then kvs.map (fun kv=>if kv.1=k then (kv.1,v)else kv)else kvs++[(k,v)]
theorem rq {k:κ}:aU ([]:List (κ×V)) k=none:=rfl
theorem bY {p:κ×V} {r:List (κ×V)} {k:κ} (e:p.1=k):aU (p::r) k=some p.2:=by simp [aU,List.find?_cons,e]
theorem bg {p:κ×V} {r:List (κ×V)} {k:κ} (e: ¬ p.1=k):aU (p::r) k=aU r k:=by simp [aU,List.find?_cons,e]
theorem df (k:κ): ∀ kvs:List (κ×V),(kvs.any fun kv=>decide (kv.1=k))=(aU kvs k).isSome
 | []=>rfl
 | p::r=>by
  rw [List.any_cons]
  by_cases e:p.1=k
  ·simp only [bY e,decide_eq_true e,Bool.true_or,Option.isSome_some]
  ·rw [bg e,decide_eq_false e,Bool.false_or];exact df k r
theorem lJ (k j:κ) (y:V): ∀ kvs:List (κ×V),aU (kvs.map fun kv=>if kv.1=k then (kv.1,y)else kv) j=(aU kvs j).map fun x=>if j=k then y else x
 | []=>rfl
 | p::r=>by
  have ih:=lJ k j y r
  rw [List.map_cons]
  by_cases h:p.1=k
  ·rw [if_pos h]
   by_cases e:p.1=j
   ·rw [bY (p:=(p.1,y)) e,bY e,Option.map_some,if_pos (e.symm.trans h)]
   ·rw [bg (p:=(p.1,y)) e,bg e,ih]
  ·rw [if_neg h]
   by_cases e:p.1=j
   ·rw [bY (p:=p) e,bY e,Option.map_some,if_neg (fun z=>h (e.trans z))]
   ·rw [bg (p:=p) e,bg e,ih]
theorem js (k j:κ) (y:V): ∀ kvs:List (κ×V),aU kvs k=none->aU (kvs++[(k,y)]) j=if j=k then some y else aU kvs j
 | [],_=>by
  by_cases e:k=j
  ·rw [if_pos e.symm];exact bY (p:=(k,y)) e
  ·rw [if_neg (fun z=>e z.symm)];exact bg (p:=(k,y)) e
 | p::r,hn=>by
  rw [List.cons_append]
  have hk: ¬ p.1=k:=fun z=>by rw [bY z]at hn;cases hn
  rw [bg hk]at hn
  have ih:=js k j y r hn
  by_cases e:p.1=j
  ·rw [bY e,bY e,if_neg (fun z=>hk (e.trans z))]
  ·rw [bg e,bg e,ih]
theorem cK (kvs:List (κ×V)) (k j:κ) (y:V):aU (bp kvs k y) j=if j=k then some y else aU kvs j:=by
 unfold bp
 by_cases a:(kvs.any fun kv=>decide (kv.1=k))=true
 ·rw [if_pos a,lJ]
  rw [df]at a
  by_cases e:j=k
  ·obtain ⟨x,hx⟩:=Option.isSome_iff_exists.mp a
   rw [if_pos e,e,hx,Option.map_some,if_pos rfl]
  ·rw [if_neg e]
   cases aU kvs j with
   | none=>rfl
   | some x=>rw [Option.map_some,if_neg e]
 ·rw [if_neg a]
  refine js k j y kvs ?_
  rw [df]at a
  cases q:aU kvs k with
  | none=>rfl
  | some x=>rw [q]at a;exact (a rfl).elim
theorem bU (kvs:List (κ×V)) (k:κ) (v:V):(bp kvs k v).length<=kvs.length+1:=by
 unfold bp
 split
 ·rw [List.length_map];lia
 ·rw [List.length_append,List.length_cons,List.length_nil];lia
theorem RelO.isSome_eq {o:Option V} {u:Option Value} (r:RelO o u):o.isSome=u.isSome:=by
 cases o with
 | none=>cases u with
  | none=>rfl
  | some _=>exact (show False from r).elim
 | some _=>cases u with
  | none=>exact (show False from r).elim
  | some _=>rfl
theorem RelO.getD {o:Option V} {u:Option Value} {d:V} {d':Value} (r:RelO o u) (rd:RelV d d'):RelV (o.getD d) (u.getD d'):=by
 cases o with
 | none=>cases u with
  | none=>exact rd
  | some _=>exact (show False from r).elim
 | some _=>cases u with
  | none=>exact (show False from r).elim
  | some _=>exact r
theorem KV.val {kvs:List (κ×V)} {vs:List (κ×Value)} (r:KV kvs vs) (k:κ):RelO (aU kvs k) (valueAt vs k):=by
 unfold KV at r
 induction r with
 | nil=>exact True.intro
 | @cons p q ps qs h t ih=>
  obtain ⟨h1,h2⟩:=h
  by_cases e:p.1=k
  ·have e':q.1=k:=h1.symm.trans e
   have b:valueAt (q::qs) k=some q.2:=by simp [valueAt,List.find?_cons,e']
   rw [bY e,b];exact h2
  ·have e': ¬ q.1=k:=fun z=>e (h1.trans z)
   have b:valueAt (q::qs) k=valueAt qs k:=by simp [valueAt,List.find?_cons,e']
   rw [bg e,b];exact ih
theorem KV.any {kvs:List (κ×V)} {vs:List (κ×Value)} (r:KV kvs vs) (k:κ):(kvs.any fun kv=>decide (kv.1=k))=vs.any fun kv=>decide (kv.1=k):=by
 unfold KV at r
 induction r with
 | nil=>rfl
 | cons h t ih=>rw [List.any_cons,List.any_cons,ih,h.1]
theorem KV.repl {kvs:List (κ×V)} {vs:List (κ×Value)} (r:KV kvs vs) (k:κ) {y:V} {u:Value} (ry:RelV y u):
  KV (kvs.map fun kv=>if kv.1=k then (kv.1,y)else kv) (vs.map fun kv=>if kv.1=k then (kv.1,u)else kv):=by
 unfold KV at r ⊢
 induction r with
 | nil=>exact .nil
 | @cons p q ps qs h t ih=>
  rw [List.map_cons,List.map_cons]
  refine .cons ?_ ih
  obtain ⟨h1,h2⟩:=h
  by_cases e:p.1=k
  ·rw [if_pos e,if_pos (h1.symm.trans e)];exact ⟨h1,ry⟩
  ·rw [if_neg e,if_neg (fun z=>e (h1.trans z))];exact ⟨h1,h2⟩
theorem KV.put {kvs:List (κ×V)} {vs:List (κ×Value)} (r:KV kvs vs) (k:κ) {y:V} {u:Value} (ry:RelV y u):KV (bp kvs k y) (stored vs k u):=by
 unfold bp stored
 rw [r.any k]
 by_cases e:(vs.any fun kv=>decide (kv.1=k))=true
 ·rw [if_pos e,if_pos e];exact r.repl k ry
 ·rw [if_neg e,if_neg e];exact Paired.snoc r ⟨rfl,ry⟩
theorem KV.length {kvs:List (κ×V)} {vs:List (κ×Value)} (r:KV kvs vs):kvs.length=vs.length:=Paired.length r
end
theorem gZ {P:Program} {w:World} {k:Key} {u:Value} (r:RelV (kV k) u):(aV P w).is k u=true:=by
 cases k with
 | inl i=>obtain ⟨t,e⟩:=(show ∃ t,u=Value.int i t from r);subst e;exact mq P w i t
 | inr x=>obtain ⟨t,e⟩:=(show ∃ t,u=Value.str x t from r);subst e;exact mn P w x t
theorem wF {a b:Key} (e:kV a=kV b):a=b:=by
 cases a with
 | inl i=>cases b with
  | inl j=>have e':V.int i=V.int j:=e;injection e' with e';rw [e']
  | inr y=>exact nomatch (show V.int i=V.str y from e)
 | inr x=>cases b with
  | inl j=>exact nomatch (show V.str x=V.int j from e)
  | inr y=>have e':V.str x=V.str y:=e;injection e' with e';rw [e']
theorem pD: ∀ {a b:List Key},a.map kV=b.map kV->a=b
 | [],[],_=>rfl
 | [],_::_,e=>by simp at e
 | _::_,[],e=>by simp at e
 | x::xs,y::ys,e=>by
  rw [List.map_cons,List.map_cons]at e
  injection e with e1 e2
  rw [wF e1,pD e2]
theorem gM {P:Program} {w:World}: ∀ {ks:List Key} {us:List Value},Vals (ks.map kV) us->ItemsAre (aV P w) ks us
 | [],_,r=>by rw [List.map_nil]at r;cases r;exact .nil
 | k::ks,_,r=>by
  rw [List.map_cons]at r
  cases r with
  | cons h t=>exact .cons (gZ h) (gM t)
noncomputable abbrev KT (H:Hp):List (List Key×V)->List (List Key×Addr×Value)->Prop:=Paired fun p q=>p.1=q.1/\H q.2.1=some (.tup (p.1.map kV))/\RelV p.2 q.2.2
theorem KT.val {H:Hp} {kvs:List (List Key×V)} {xs:List (List Key×Addr×Value)} (r:KT H kvs xs) (k:List Key):RelO (aU kvs k) ((atKey xs k).map (·.2)):=by
 induction r with
 | nil=>exact True.intro
 | @cons p q ps qs h t ih=>
  obtain ⟨h1,_,h2⟩:=h
  by_cases e:p.1=k
  ·have e':q.1=k:=h1.symm.trans e
   have b:atKey (q::qs) k=some q.2:=by simp [atKey,List.find?_cons,e']
   rw [bY e,b];exact h2
  ·have e': ¬ q.1=k:=fun z=>e (h1.trans z)
   have b:atKey (q::qs) k=atKey qs k:=by simp [atKey,List.find?_cons,e']
   rw [bg e,b];exact ih
theorem KT.repl {H:Hp} {kvs:List (List Key×V)} {xs:List (List Key×Addr×Value)} (r:KT H kvs xs) (k:List Key) {y:V} {u:Value} (ry:RelV y u):
  KT H (kvs.map fun kv=>if kv.1=k then (kv.1,y)else kv) (xs.map (putAt k u)):=by
 induction r with
 | nil=>exact .nil
 | @cons p q ps qs h t ih=>
  rw [List.map_cons,List.map_cons]
  refine .cons ?_ ih
  obtain ⟨h1,h2,h3⟩:=h
  unfold putAt
  by_cases e:p.1=k
  ·rw [if_pos e,if_pos (h1.symm.trans e)];exact ⟨h1,h2,ry⟩
  ·rw [if_neg e,if_neg (fun z=>e (h1.trans z))];exact ⟨h1,h2,h3⟩
theorem KT.put {H:Hp} {kvs:List (List Key×V)} {xs:List (List Key×Addr×Value)} (r:KT H kvs xs) (k:List Key) {b:Addr} {y:V} {u:Value} (hb:H b=some (.tup (k.map kV))) (ry:RelV y u):
  KT H (bp kvs k y) (storedH xs k b u):=by
 have e:(kvs.any fun kv=>decide (kv.1=k))=(atKey xs k).isSome:=by
  rw [df,(r.val k).isSome_eq,Option.isSome_map]
 unfold bp storedH
 rw [e]
 by_cases q:(atKey xs k).isSome=true
 ·rw [if_pos q,if_pos q];exact r.repl k ry
 ·rw [if_neg q,if_neg q];exact Paired.snoc r ⟨rfl,hb,ry⟩
theorem KT.keeps {H H':Hp} {kvs:List (List Key×V)} {xs:List (List Key×Addr×Value)} (r:KT H kvs xs) (ht: ∀ b ys,H b=some (.tup ys)->H' b=some (.tup ys)):KT H' kvs xs:=
 Paired.mapP r fun _ _ z=>⟨z.1,ht _ _ z.2.1,z.2.2⟩
noncomputable abbrev KP (H:Hp):List ((List Key×Key)×V)->List ((List Key×Key)×Addr×Value)->Prop:=Paired fun p q=>p.1=q.1/\(∃ c,H q.2.1=some (.tup [.ref c,kV p.1.2])/\H c=some (.tup (p.1.1.map kV)))/\RelV p.2 q.2.2
theorem KP.val {H:Hp} {kvs:List ((List Key×Key)×V)} {xs:List ((List Key×Key)×Addr×Value)} (r:KP H kvs xs) (k:List Key×Key):RelO (aU kvs k) ((atKey xs k).map (·.2)):=by
 induction r with
 | nil=>exact True.intro
 | @cons p q ps qs h t ih=>
  obtain ⟨h1,_,h2⟩:=h
  by_cases e:p.1=k
  ·have e':q.1=k:=h1.symm.trans e
   have b:atKey (q::qs) k=some q.2:=by simp [atKey,List.find?_cons,e']
   rw [bY e,b];exact h2
  ·have e': ¬ q.1=k:=fun z=>e (h1.trans z)
   have b:atKey (q::qs) k=atKey qs k:=by simp [atKey,List.find?_cons,e']
   rw [bg e,b];exact ih
theorem KP.repl {H:Hp} {kvs:List ((List Key×Key)×V)} {xs:List ((List Key×Key)×Addr×Value)} (r:KP H kvs xs) (k:List Key×Key) {y:V} {u:Value} (ry:RelV y u):
  KP H (kvs.map fun kv=>if kv.1=k then (kv.1,y)else kv) (xs.map (putAt k u)):=by
 induction r with
 | nil=>exact .nil
 | @cons p q ps qs h t ih=>
  rw [List.map_cons,List.map_cons]
  refine .cons ?_ ih
  obtain ⟨h1,h2,h3⟩:=h
  unfold putAt
  by_cases e:p.1=k
  ·rw [if_pos e,if_pos (h1.symm.trans e)];exact ⟨h1,h2,ry⟩
  ·rw [if_neg e,if_neg (fun z=>e (h1.trans z))];exact ⟨h1,h2,h3⟩
theorem KP.put {H:Hp} {kvs:List ((List Key×Key)×V)} {xs:List ((List Key×Key)×Addr×Value)} (r:KP H kvs xs) (k:List Key×Key) {b:Addr} {y:V} {u:Value} (hb: ∃ c,H b=some (.tup [.ref c,kV k.2])/\H c=some (.tup (k.1.map kV))) (ry:RelV y u):
  KP H (bp kvs k y) (storedH xs k b u):=by
 have e:(kvs.any fun kv=>decide (kv.1=k))=(atKey xs k).isSome:=by
  rw [df,(r.val k).isSome_eq,Option.isSome_map]
 unfold bp storedH
 rw [e]
 by_cases q:(atKey xs k).isSome=true
 ·rw [if_pos q,if_pos q];exact r.repl k ry
 ·rw [if_neg q,if_neg q];exact Paired.snoc r ⟨rfl,hb,ry⟩
theorem KP.keeps {H H':Hp} {kvs:List ((List Key×Key)×V)} {xs:List ((List Key×Key)×Addr×Value)} (r:KP H kvs xs) (ht: ∀ b ys,H b=some (.tup ys)->H' b=some (.tup ys)):KP H' kvs xs:=
 Paired.mapP r fun _ _ z=>⟨z.1,let ⟨c,e1,e2⟩:=z.2.1;⟨c,ht _ _ e1,ht _ _ e2⟩,z.2.2⟩
section
variable {P:Program} {w:World} {H:Hp} {h:Heap} {a:Addr}
theorem sB {u:HO} (ok:HOk P w H h) (e:Rd H a u):ObjOk P w H h a u:=e.ok ok
theorem jc {kvs:List (Key×V)} (ok:HOk P w H h) (e:Rd H a (.dK kvs)):kvs.length<=sizeLine/\(a==sysModules)=false/\ ∃ vs,KV kvs vs/\h.DictOf (aV P w) a vs:=
 show ObjOk P w H h a (.dK kvs)from sB ok e
theorem xQ {kvs:List (Key×V)} (ok:HOk P w H h) (e:H a=some (.dK kvs)):kvs.length<=sizeLine/\(a==sysModules)=false/\ ∃ vs,KV kvs vs/\h.DictOf (aV P w) a vs:=jc ok (.inl e)
theorem fM {ks:List Key} (ok:HOk P w H h) (e:H a=some (.tup (ks.map kV))):(tupleKind (aV P w)).is h ks a:=by
 obtain ⟨_,its,r,o,h1,h2,n,h3⟩:=(show ObjOk P w H h a (.tup (ks.map kV))from ok a _ e)
 exact ⟨o,its.toArray,n,h1,h2,h3,by simpa using gM r⟩
theorem jb {kvs:List (List Key×V)} (ok:HOk P w H h) (e:Rd H a (.dT kvs)):kvs.length<=sizeLine/\(a==sysModules)=false/\
  ∃ xs,KT H kvs xs/\h.DictOfH (tupleKind (aV P w)) a xs:=by
 obtain ⟨z,y,xs,r,o,es,ep,h1,h2,h3,h4,h5⟩:=(show ObjOk P w H h a (.dT kvs)from sB ok e)
 refine ⟨z,y,xs,r,o,es,ep,h1,h2,h3,h4,fun x hx=>?_,h5⟩
 have all: ∀ {l:List (List Key×V)} {m:List (List Key×Addr×Value)},KT H l m-> ∀ x∈m,(tupleKind (aV P w)).is h x.1 x.2.1:=by
  intro l m q
  induction q with
  | nil=>intro x hx;exact nomatch hx
  | @cons p q ps qs hq t ih=>
   intro x hx
   rcases List.mem_cons.mp hx with e | hx
   ·subst e
    exact fM ok (by rw [<- hq.1];exact hq.2.1)
   ·exact ih x hx
 exact all r x hx
theorem xN {kvs:List (List Key×V)} (ok:HOk P w H h) (e:H a=some (.dT kvs)):kvs.length<=sizeLine/\(a==sysModules)=false/\
  ∃ xs,KT H kvs xs/\h.DictOfH (tupleKind (aV P w)) a xs:=jb ok (.inl e)
theorem fg {k:List Key×Key} (ok:HOk P w H h) (e: ∃ c,H a=some (.tup [.ref c,kV k.2])/\H c=some (.tup (k.1.map kV))):(dI (aV P w) (aV P w)).is h k a:=by
 obtain ⟨c,e1,e2⟩:=e
 obtain ⟨_,its,r,o,h1,h2,n,h3⟩:=(show ObjOk P w H h a (.tup [.ref c,kV k.2])from ok a _ e1)
 obtain ⟨u,v,rfl,ru,rv⟩:=r.two
 cases (show u=Value.ref c from ru)
 exact ⟨o,_,n,c,v,h1,h2,h3,by simp,fM ok e2,gZ rv⟩
theorem jS {kvs:List ((List Key×Key)×V)} (ok:HOk P w H h) (e:Rd H a (.dP kvs)):kvs.length<=sizeLine/\(a==sysModules)=false/\
  ∃ xs,KP H kvs xs/\h.DictOfH (dI (aV P w) (aV P w)) a xs:=by
 obtain ⟨z,y,xs,r,o,es,ep,h1,h2,h3,h4,h5⟩:=(show ObjOk P w H h a (.dP kvs)from sB ok e)
 refine ⟨z,y,xs,r,o,es,ep,h1,h2,h3,h4,fun x hx=>?_,h5⟩
 have all: ∀ {l:List ((List Key×Key)×V)} {m:List ((List Key×Key)×Addr×Value)},KP H l m-> ∀ x∈m,(dI (aV P w) (aV P w)).is h x.1 x.2.1:=by
  intro l m q
  induction q with
  | nil=>intro x hx;exact nomatch hx
  | @cons p q ps qs hq t ih=>
   intro x hx
   rcases List.mem_cons.mp hx with e | hx
   ·subst e
    rw [<- hq.1];exact fg ok hq.2.1
   ·exact ih x hx
 exact all r x hx
theorem xO {kvs:List ((List Key×Key)×V)} (ok:HOk P w H h) (e:H a=some (.dP kvs)):kvs.length<=sizeLine/\(a==sysModules)=false/\
  ∃ xs,KP H kvs xs/\h.DictOfH (dI (aV P w) (aV P w)) a xs:=jS ok (.inl e)
end
noncomputable def DGet (H:Hp) (a:Addr) (y:V) (r:Option V):Prop:=
 (∃ kvs k,Rd H a (.dK kvs)/\y=kV k/\r=aU kvs k)\/(∃ kvs k b,Rd H a (.dT kvs)/\y=.ref b/\H b=some (.tup (k.map kV))/\r=aU kvs k)\/
 ∃ kvs k b,Rd H a (.dP kvs)/\y=.ref b/\(∃ c,H b=some (.tup [.ref c,kV k.2])/\H c=some (.tup (k.1.map kV)))/\r=aU kvs k
noncomputable def DPut (H:Hp) (a:Addr) (y v:V) (H':Hp):Prop:=
 (∃ kvs k,H a=some (.dK kvs)/\y=kV k/\kvs.length<sizeLine/\H'=upd H a (.dK (bp kvs k v)))\/
 (∃ kvs k b,H a=some (.dT kvs)/\y=.ref b/\H b=some (.tup (k.map kV))/\kvs.length<sizeLine/\H'=upd H a (.dT (bp kvs k v)))\/
 ∃ kvs k b,H a=some (.dP kvs)/\y=.ref b/\(∃ c,H b=some (.tup [.ref c,kV k.2])/\H c=some (.tup (k.1.map kV)))/\kvs.length<sizeLine/\H'=upd H a (.dP (bp kvs k v))
theorem DGet.k {H:Hp} {a:Addr} {kvs:List (Key×V)} {k:Key} (e:H a=some (.dK kvs)):DGet H a (kV k) (aU kvs k):=.inl ⟨kvs,k,.inl e,rfl,rfl⟩
theorem DGet.t {H:Hp} {a b:Addr} {kvs:List (List Key×V)} {k:List Key} (e:H a=some (.dT kvs)) (eb:H b=some (.tup (k.map kV))):DGet H a (.ref b) (aU kvs k):=.inr (.inl ⟨kvs,k,b,.inl e,rfl,eb,rfl⟩)
theorem DPut.k {H:Hp} {a:Addr} {kvs:List (Key×V)} {k:Key} {v:V} (e:H a=some (.dK kvs)) (hl:kvs.length<sizeLine):DPut H a (kV k) v (upd H a (.dK (bp kvs k v))):=.inl ⟨kvs,k,e,rfl,hl,rfl⟩
theorem DPut.t {H:Hp} {a b:Addr} {kvs:List (List Key×V)} {k:List Key} {v:V} (e:H a=some (.dT kvs)) (eb:H b=some (.tup (k.map kV))) (hl:kvs.length<sizeLine):
  DPut H a (.ref b) v (upd H a (.dT (bp kvs k v))):=.inr (.inl ⟨kvs,k,b,e,rfl,eb,hl,rfl⟩)
section
variable {X:Cx} {pins:List (Addr×Obj)} {σ:St} {H:Hp} {s:Shared} {a:Addr} {y v:V} {u r:Value} {o:Option V} {A:Around} {E:Value->Shared->Prop}
theorem Inv.big (I:Inv X pins σ H s):sysModules<s.heap.objs.size:=by
 have h:mainGlobals<s.heap.objs.size:=(I.mod.glob.keeps I.bk).lt
 exact Nat.lt_trans (by decide) h
theorem jU {Q:Value->Shared->Prop} (hu:A.units+16<cLine) (I:Inv X pins σ H s) (g:DGet H a y (some v)) (ry:RelV y u) (h: ∀ w' s',Inv X pins σ H s'->RelV v w'->Q w' s'):
  wpAny (model X.prog X.w) A (getItem (.ref a) u) Q E s:=by
 rcases g with ⟨kvs,k,e,ey,l⟩ | ⟨kvs,k,b,e,ey,eb,l⟩ | ⟨kvs,k,b,e,ey,eb,l⟩
 ·subst ey
  obtain ⟨z,hd,vs,rel,dd⟩:=jc I.hok e
  obtain ⟨w',hw,rw'⟩:=RelO.some_of (v:=v) (o:=valueAt vs k) (by rw [l];exact rel.val k)
  exact wpAny_getItem_of (gZ ry) dd.mapOf hw (h w' _ (I.tok _) rw')
 ·subst ey
  cases (show u=Value.ref b from ry)
  obtain ⟨z,hd,xs,rel,dd⟩:=jb I.hok e
  obtain ⟨w',hw,rw'⟩:=RelO.some_of (v:=v) (o:=(atKey xs k).map (·.2)) (by rw [l];exact rel.val k)
  obtain ⟨p,hp,hp2⟩:=Option.map_eq_some_iff.mp hw
  refine wpAny_getItem_heap (tupleKind_room_in1 (by lia)) (fM I.hok eb) dd hp ?_
  rw [hp2]
  exact h w' _ (I.tok _) rw'
 ·subst ey
  cases (show u=Value.ref b from ry)
  obtain ⟨z,hd,xs,rel,dd⟩:=jS I.hok e
  obtain ⟨w',hw,rw'⟩:=RelO.some_of (v:=v) (o:=(atKey xs k).map (·.2)) (by rw [l];exact rel.val k)
  obtain ⟨p,hp,hp2⟩:=Option.map_eq_some_iff.mp hw
  refine wpAny_getItem_heap (show _+8<cLine by show A.units+1+8<cLine;lia) (fg I.hok eb) dd hp ?_
  rw [hp2]
  exact h w' _ (I.tok _) rw'
theorem yx {Q:Value->Shared->Prop} (hu:A.units+16<cLine) (I:Inv X pins σ H s) (g:DGet H a y o) (ry:RelV y u) (h: ∀ s',Inv X pins σ H s'->Q (.bool o.isSome) s'):
  wpAny (model X.prog X.w) A (compareOp .In u (.ref a)) Q E s:=by
 rcases g with ⟨kvs,k,e,ey,l⟩ | ⟨kvs,k,b,e,ey,eb,l⟩ | ⟨kvs,k,b,e,ey,eb,l⟩
 ·subst ey
  obtain ⟨z,hd,vs,rel,dd⟩:=jc I.hok e
  refine wpAny_in_of (gZ ry) hd dd.mapOf ?_
  rw [<- (rel.val k).isSome_eq,<- l]
  exact h _ (I.tok _)
 ·subst ey
  cases (show u=Value.ref b from ry)
  obtain ⟨z,hd,xs,rel,dd⟩:=jb I.hok e
  refine wpAny_in_heap (tupleKind_room_in1 (by lia)) (fM I.hok eb) hd dd ?_
  have q:=(rel.val k).isSome_eq
  rw [Option.isSome_map]at q
  rw [<- q,<- l]
  exact h _ (I.tok _)
 ·subst ey
  cases (show u=Value.ref b from ry)
  obtain ⟨z,hd,xs,rel,dd⟩:=jS I.hok e
  refine wpAny_in_heap (show _+8<cLine by show A.units+1+8<cLine;lia) (fg I.hok eb) hd dd ?_
  have q:=(rel.val k).isSome_eq
  rw [Option.isSome_map]at q
  rw [<- q,<- l]
  exact h _ (I.tok _)
theorem vy {Q:Value->Shared->Prop} (hu:A.units+16<cLine) (I:Inv X pins σ H s) (g:DGet H a y o) (ry:RelV y u) (h: ∀ s',Inv X pins σ H s'->Q (.bool (!o.isSome)) s'):
  wpAny (model X.prog X.w) A (compareOp .NotIn u (.ref a)) Q E s:=by
 rcases g with ⟨kvs,k,e,ey,l⟩ | ⟨kvs,k,b,e,ey,eb,l⟩ | ⟨kvs,k,b,e,ey,eb,l⟩
 ·subst ey
  obtain ⟨z,hd,vs,rel,dd⟩:=jc I.hok e
  refine wpAny_notIn_of (gZ ry) hd dd.mapOf ?_
  rw [<- (rel.val k).isSome_eq,<- l]
  exact h _ (I.tok _)
 ·subst ey
  cases (show u=Value.ref b from ry)
  obtain ⟨z,hd,xs,rel,dd⟩:=jb I.hok e
  refine wpAny_notIn_heap (tupleKind_room_in1 (by lia)) (fM I.hok eb) hd dd ?_
  have q:=(rel.val k).isSome_eq
  rw [Option.isSome_map]at q
  rw [<- q,<- l]
  exact h _ (I.tok _)
 ·subst ey
  cases (show u=Value.ref b from ry)
  obtain ⟨z,hd,xs,rel,dd⟩:=jS I.hok e
  refine wpAny_notIn_heap (show _+8<cLine by show A.units+1+8<cLine;lia) (fg I.hok eb) hd dd ?_
  have q:=(rel.val k).isSome_eq
  rw [Option.isSome_map]at q
  rw [<- q,<- l]
  exact h _ (I.tok _)
theorem iq {h':Heap} {t':Nat} {ob:HO} (I:Inv X pins σ H s) (mu:Mut (H a)) (hs:Heap.SameBut a s.heap h') (he: ∃ q,h'.get? a=some q) (new:ObjOk X.prog X.w (upd H a ob) h' a ob):
  Inv X pins σ (upd H a ob) {s with heap:=h',toks:=t'}:=
 I.write (x:=a) (e:=a) mu (.inl rfl) (fun b q hb z=>(hs.2 b hb).trans z) he new
theorem wQ {P:Program} {w:World} {H':Hp} {h':Heap} {kvs:List (Key×V)} {vs:List (Key×Value)} (z:kvs.length<=sizeLine) (hd:(a==sysModules)=false) (rel:KV kvs vs) (dd:h'.DictOf (aV P w) a vs):
  ObjOk P w H' h' a (.dK kvs):=⟨z,hd,vs,rel,dd⟩
theorem jT {H':Hp} {Q:Unit->Shared->Prop} (hu:A.units+16<cLine) (I:Inv X pins σ H s) (g:DPut H a y v H') (ry:RelV y u) (rv:RelV v r) (h: ∀ s',Inv X pins σ H' s'->Q () s'):
  wpAny (model X.prog X.w) A (setItem (.ref a) u r) Q E s:=by
 rcases g with ⟨kvs,k,e,ey,l,eH⟩ | ⟨kvs,k,b,e,ey,eb,l,eH⟩ | ⟨kvs,k,b,e,ey,eb,l,eH⟩
 ·subst ey eH
  obtain ⟨z,hd,vs,rel,dd⟩:=xQ I.hok e
  have hz:vs.length<=sizeLine:=by rw [<- rel.length];exact z
  have hl:(bp kvs k v).length<=sizeLine:=by have:=bU kvs k v;lia
  refine wpAny_setItem_pairs (hsz:=hz) (gZ ry) dd fun h' dd' hs=>h _ ?_
  have he: ∃ q,h'.get? a=some q:=let ⟨q,_,_,hq,_⟩:=dd';⟨q,hq⟩
  exact iq I (by rw [e];exact True.intro) hs he (wQ hl hd (rel.put k rv) dd')
 ·subst ey eH
  cases (show u=Value.ref b from ry)
  obtain ⟨z,hd,xs,rel,dd⟩:=xN I.hok e
  have hz:xs.length<=sizeLine:=by rw [<- Paired.length rel];exact z
  have hl:(bp kvs k v).length<=sizeLine:=by have:=bU kvs k v;lia
  refine wpAny_setItem_heap (hsz:=hz) (tupleKind_room_in1 (by lia)) (fM I.hok eb) dd fun h' dd' hs=>h _ ?_
  obtain ⟨q,es,ep,hq,h2,h3,h4,_,h5⟩:=dd'
  refine iq I (by rw [e];exact True.intro) hs ⟨q,hq⟩ ⟨hl,hd,_,(rel.put k eb rv).keeps fun c ys ec=>?_,q,es,ep,hq,h2,h3,h4,h5⟩
  rw [ah (vG ec e (fun z=>nomatch z))]
  exact ec
 ·subst ey eH
  cases (show u=Value.ref b from ry)
  obtain ⟨z,hd,xs,rel,dd⟩:=xO I.hok e
  have hz:xs.length<=sizeLine:=by rw [<- Paired.length rel];exact z
  have hl:(bp kvs k v).length<=sizeLine:=by have:=bU kvs k v;lia
  refine wpAny_setItem_heap (hsz:=hz) (show _+8<cLine by show A.units+1+8<cLine;lia) (fg I.hok eb) dd fun h' dd' hs=>h _ ?_
  obtain ⟨q,es,ep,hq,h2,h3,h4,_,h5⟩:=dd'
  refine iq I (by rw [e];exact True.intro) hs ⟨q,hq⟩ ⟨hl,hd,_,(rel.put k eb rv).keeps fun c ys ec=>?_,q,es,ep,hq,h2,h3,h4,h5⟩
  rw [ah (vG ec e (fun z=>nomatch z))]
  exact ec
end
noncomputable def xU (i:Expr):Prop:= ∀ ov iv,subscripted i false ov iv=operate [ov,iv] (getItem ov iv)
theorem ux {prog:Program} {w:World} {A:Around} {E:Value->Shared->Prop} {s:Shared} {env:Env} {value slice:Expr} {pos:Pos} {T id:String} {Q:Value->Shared->Prop}
  (hl:typeLookup (.type T) "__getitem__"=pure (some (.builtin id))) (hs:xU slice)
  (h:wpAny (model prog w) A (eval value env) (fun o s₁=>wpAny (model prog w) A (eval slice env) (fun i s₂=>s₂.TypeIs o T/\wpAny (model prog w) A (getItem o i) Q E s₂) E s₁) E s):
  wpAny (model prog w) A (eval (.Subscript value slice pos) env) Q E s:=by
 refine Subscript_ (wpAny_mono h (fun o s₁ h₁=>wpAny_mono h₁ (fun i s₂ h₂=>?_) fun _ _ x=>x) fun _ _ x=>x)
 obtain ⟨hT,h₂⟩:=h₂
 unfold subscriptTail
 refine wpAny_bind ?_
 rw [getitemInPython_of_ne hT.not_modules]
 refine wpAny_bind (wpAny_specialOf hT hl ?_)
 have fin:wpAny (model prog w) A (subscripted slice false o i) (fun r s₃=>wpAny (model prog w) A (letTemporaryGo value o r >>= fun _=>pure r) Q E s₃) E s₂:=by
  rw [hs o i]
  exact wpAny_operating (wpAny_mono h₂ (fun r s₃ h₃=>wpAny_bind (wpAny_letTemporaryGo (wpAny_pure h₃))) fun _ _ x=>x)
 first
  | exact wpAny_pure (wpAny_bind fin)
  | exact wpAny_bind (wpAny_pure (wpAny_bind fin))
  | exact wpAny_bind fin
theorem mG {X:Cx} {pins:List (Addr×Obj)} {σ:St} {H:Hp} {s:Shared} {a:Addr} {y:V} {o:Option V} (I:Inv X pins σ H s) (g:DGet H a y o):s.TypeIs (.ref a) "dict":=by
 rcases g with ⟨kvs,k,e,_,_⟩ | ⟨kvs,k,b,e,_,_,_⟩ | ⟨kvs,k,b,e,_,_,_⟩
 ·obtain ⟨_,_,vs,_,dd⟩:=jc I.hok e
  exact dd.typeIs
 ·obtain ⟨_,_,xs,_,dd⟩:=jb I.hok e
  exact dd.typeIs
 ·obtain ⟨_,_,xs,_,dd⟩:=jS I.hok e
  exact dd.typeIs
noncomputable def xg (td ty:TE):TE:=fun σ H Q=>td σ H fun x H1=>ty σ H1 fun y H2=> ∃ a v,x=.ref a/\DGet H2 a y (some v)/\Q v H2
noncomputable def x5 (ty td:TE):TE:=fun σ H Q=>ty σ H fun y H1=>td σ H1 fun x H2=> ∃ a o,x=.ref a/\DGet H2 a y o/\Q (.bl o.isSome) H2
noncomputable def uw (ty td:TE):TE:=fun σ H Q=>ty σ H fun y H1=>td σ H1 fun x H2=> ∃ a o,x=.ref a/\DGet H2 a y o/\Q (.bl (!o.isSome)) H2
noncomputable def xn (td ty tv:TE):TS:=fun D σ H=>tv σ H fun v H1=>td σ H1 fun x H2=>ty σ H2 fun y H3=> ∃ a H4,x=.ref a/\DPut H3 a y v H4/\D.nx σ H4
noncomputable def xo (td ty tv:TE) (rd:V->V->Hp->VK->Prop):TS:=fun D σ H=>td σ H fun x H1=>ty σ H1 fun y H2=> ∃ a v,x=.ref a/\DGet H2 a y (some v)/\
 tv σ H2 fun y2 H3=>rd v y2 H3 fun z H4=> ∃ H5,DPut H4 a y z H5/\D.nx σ H5
section
variable {X:Cx} {o i e value:Expr} {pos pos' tpos:Pos} {td ty tv:TE}
theorem bV (hu:X.A.units+16<cLine) (ho:PE X o td) (hi:PE X i ty) (hs:xU i):PE X (.Subscript o i pos) (xg td ty):=by
 intro pins s σ H Q I h
 refine ux PySem.F.slot_dict_getitem.lookup hs (thn (ho pins s σ H _ I h) fun u s1 ⟨x,H1,I1,rx,q1⟩=>thn (hi pins s1 σ H1 _ I1 q1) fun iv s2 ⟨y,H2,I2,ry,a,v,ex,g,q2⟩=>?_)
 subst ex
 obtain rfl:u=Value.ref a:=rx
 exact ⟨mG I2 g,jU hu I2 g ry fun w' s3 I3 rw'=>⟨v,H2,I3,rw',q2⟩⟩
theorem sO (hu:X.A.units+16<cLine) (hi:PE X i ty) (ho:PE X o td):PC X .In i o (x5 ty td):=by
 intro pins s σ H Q I h
 refine thn (hi pins s σ H _ I h) fun iv s1 ⟨y,H1,I1,ry,q1⟩=>thn (ho pins s1 σ H1 _ I1 q1) fun u s2 ⟨x,H2,I2,rx,a,ov,ex,g,q2⟩=>?_
 subst ex
 obtain rfl:u=Value.ref a:=rx
 exact yx hu I2 g ry fun s3 I3=>⟨.bl ov.isSome,H2,I3,rfl,q2⟩
theorem jI (hu:X.A.units+16<cLine) (hi:PE X i ty) (ho:PE X o td):PC X .NotIn i o (uw ty td):=by
 intro pins s σ H Q I h
 refine thn (hi pins s σ H _ I h) fun iv s1 ⟨y,H1,I1,ry,q1⟩=>thn (ho pins s1 σ H1 _ I1 q1) fun u s2 ⟨x,H2,I2,rx,a,ov,ex,g,q2⟩=>?_
 subst ex
 obtain rfl:u=Value.ref a:=rx
 exact vy hu I2 g ry fun s3 I3=>⟨.bl (!ov.isSome),H2,I3,rfl,q2⟩
theorem cC (hu:X.A.units+16<cLine) (ho:PE X o td) (hi:PE X i ty) (hv:PE X value tv) (hs:swapsWith value (some (.Subscript o i pos')) pos.line X.env=pure false):
  PS X (.Assign [.Subscript o i pos'] value pos) (xn td ty tv):=by
 intro pins s σ H D I h
 refine wpAny_Assign_Subscript (thn (hv pins s σ H _ I h) fun r s1 ⟨v,H1,I1,rv,q1⟩=>thn (ho pins s1 σ H1 _ I1 q1) fun u s2 ⟨x,H2,I2,rx,q2⟩=>thn (hi pins s2 σ H2 _ I2 q2) fun iv s3 ⟨y,H3,I3,ry,a,H4,ex,g,q3⟩=>?_) hs
 subst ex
 obtain rfl:u=Value.ref a:=rx
 exact jT hu I3 g ry rv fun s4 I4=>⟨σ,H4,I4,q3⟩
theorem uQ {op:Operator} {rd:V->V->Hp->VK->Prop} (hu:X.A.units+16<cLine) (ho:PE X o td) (hi:PE X i ty) (hv:PE X value tv) (hop:xW X op rd)
  (ha: ∀ ov iv new,augStore i ov iv new=(do holding [new,ov,iv] (setItem ov iv new);release [new,ov,iv] [];pure .next)):PS X (.AugAssign (.Subscript o i tpos) op value pos) (xo td ty tv rd):=by
 intro pins s σ H D I h
 refine wpAny_AugAssign_SubscriptAny (thn (ho pins s σ H _ I h) fun u s1 ⟨x,H1,I1,rx,q1⟩=>thn (hi pins s1 σ H1 _ I1 q1) fun iv s2 ⟨y,H2,I2,ry,a,v,ex,g,q2⟩=>?_) ha
 subst ex
 obtain rfl:u=Value.ref a:=rx
 refine jU hu I2 g ry fun w' s3 I3 rw'=>thn (hv pins s3 σ H2 _ I3 q2) fun w2 s4 ⟨y2,H3,I4,ry2,q3⟩=>thn (hop pins s4 σ H3 v y2 w' w2 _ I4 rw' ry2 q3) fun w3 s5 ⟨z,H4,I5,rz,H5,g5,q4⟩=>?_
 exact jT hu I5 g5 ry rz fun s6 I6=>⟨σ,H5,I6,q4⟩
end
theorem ua {P:Program} {w:World} {H:Hp} (h:Heap) (hb:sysModules<h.objs.size):ObjOk P w H (h.push {cls:=.type "dict",data:=.dict #[]}) h.objs.size (.dK []):=
 ⟨Nat.zero_le _,beq_eq_false_iff_ne.mpr (Ne.symm (Nat.ne_of_lt hb)),[],.nil,Heap.DictOf.new h⟩
theorem t7 {P:Program} {w:World} {H:Hp} (h:Heap) (hb:sysModules<h.objs.size):ObjOk P w H (h.push {cls:=.type "dict",data:=.dict #[]}) h.objs.size (.dT []):=
 ⟨Nat.zero_le _,beq_eq_false_iff_ne.mpr (Ne.symm (Nat.ne_of_lt hb)),[],.nil,_,#[],0,Heap.get?_push_size _ rfl,⟨rfl,rfl,rfl⟩,rfl,rfl,List.nodup_nil⟩
noncomputable def vU:TE:=fun _ H Q=> ∀ p,H p=none->Q (.ref p) (upd H p (.dK []))
noncomputable def vT:TE:=fun _ H Q=> ∀ p,H p=none->Q (.ref p) (upd H p (.dT []))
section
variable {X:Cx} {pos:Pos}
theorem ma:PE X (.Dict [] [] pos) vU:=fun pins s σ H Q I h=>
 wpAny_Dict_empty ⟨.ref s.heap.objs.size,_,I.laid (a:=s.heap.objs.size) (o:=.dK []) (t':=s.toks) (fun _ _ q=>Heap.get?_push_of_some _ q) (Nat.le_refl _) (ua s.heap I.big),rfl,h _ (I.hok.fresh (Nat.le_refl _))⟩
theorem cx:PE X (.Dict [] [] pos) vT:=fun pins s σ H Q I h=>
 wpAny_Dict_empty ⟨.ref s.heap.objs.size,_,I.laid (a:=s.heap.objs.size) (o:=.dT []) (t':=s.toks) (fun _ _ q=>Heap.get?_push_of_some _ q) (Nat.le_refl _) (t7 s.heap I.big),rfl,h _ (I.hok.fresh (Nat.le_refl _))⟩
end
structure M2 (X:Cx) (o:Expr) (m:Str) (apos:Pos) (e f:Expr) (cpos:Pos):Prop where
 base:attributeBase o m X.env (eval o X.env)=eval o X.env
 few:((backTo cpos (starEach [e,f] X.env)).all (fun x=> !x.1)&&(backToKw cpos (keywordEach [] X.env)).all (fun x=>x.1.isSome)
  &&decide (([e,f]:List Expr).length+ ([]:List Keyword).length+ (if ([]:List Keyword).isEmpty then 0 else 1) <30))=true
 line:(apos.endLine==cpos.line)=true
 trees:backTo cpos (starEach [e,f] X.env)=[(false,eval e X.env),(false,eval f X.env)]
noncomputable def IsD (H:Hp) (a:Addr):Prop:=(∃ kvs,Rd H a (.dK kvs))\/ ∃ kvs,Rd H a (.dT kvs)
theorem wH {X:Cx} {pins:List (Addr×Obj)} {σ:St} {H:Hp} {s:Shared} {a:Addr} (I:Inv X pins σ H s) (d:IsD H a):
  s.TypeIs (.ref a) "dict"/\(∀ b,Value.ref a=.ref b-> ∃ ob,s.heap.get? b=some ob/\ob.dict=none)/\(a==sysModules)=false:=by
 rcases d with ⟨kvs,e⟩ | ⟨kvs,e⟩
 ·obtain ⟨_,hd,vs,_,dd⟩:=jc I.hok e
  refine ⟨dd.typeIs,fun b q=>?_,hd⟩
  cases q
  obtain ⟨ob,_,_,h1,h2,_⟩:=dd
  exact ⟨ob,h1,h2.2.1⟩
 ·obtain ⟨_,hd,xs,_,dd⟩:=jb I.hok e
  refine ⟨dd.typeIs,fun b q=>?_,hd⟩
  cases q
  obtain ⟨ob,_,_,h1,h2,_⟩:=dd
  exact ⟨ob,h1,h2.2.1⟩
section
variable {X:Cx} {pins:List (Addr×Obj)} {σ:St} {H:Hp} {s:Shared} {a:Addr} {y d:V} {u r:Value} {o:Option V} {A:Around} {E:Value->Shared->Prop}
theorem wR {Q:Value->Shared->Prop} (hu:A.units+16<cLine) (I:Inv X pins σ H s) (g:DGet H a y o) (ry:RelV y u) (rd:RelV d r) (h: ∀ w' s',Inv X pins σ H s'->RelV (o.getD d) w'->Q w' s'):
  wpAny (model X.prog X.w) A (call (.builtin "dict.get") [.ref a,u,r]) Q E s:=by
 rcases g with ⟨kvs,k,e,ey,l⟩ | ⟨kvs,k,b,e,ey,eb,l⟩ | ⟨kvs,k,b,e,ey,eb,l⟩
 ·subst ey
  obtain ⟨z,hd,vs,rel,dd⟩:=jc I.hok e
  refine call_meetsIn PySem.F.slot_dict_get dd.typeIs PySem.F.entry_dict_get (PySem.F.args_dict_get_3 _ _ _) (meets_dict_get_default (aV X.prog X.w) a (gZ ry) hd r) ⟨_,dd.mapOf,h _ _ (I.tok _) ?_⟩
  rw [l]
  exact (rel.val k).getD rd
 ·subst ey
  cases (show u=Value.ref b from ry)
  obtain ⟨z,hd,xs,rel,dd⟩:=jb I.hok e
  refine call_meetsIn PySem.F.slot_dict_get dd.typeIs PySem.F.entry_dict_get (PySem.F.args_dict_get_3 _ _ _) (meetsH_dict_get_default (tupleKind (aV X.prog X.w)) a b hd r) ⟨tupleKind_room_in1 (by lia),k,xs,fM I.hok eb,dd,h _ _ (I.tok _) ?_⟩
  rw [l]
  exact (rel.val k).getD rd
 ·subst ey
  cases (show u=Value.ref b from ry)
  obtain ⟨z,hd,xs,rel,dd⟩:=jS I.hok e
  refine call_meetsIn PySem.F.slot_dict_get dd.typeIs PySem.F.entry_dict_get (PySem.F.args_dict_get_3 _ _ _) (meetsH_dict_get_default (dI (aV X.prog X.w) (aV X.prog X.w)) a b hd r) ⟨(show _+8<cLine by show A.units+1+8<cLine;lia),k,xs,fg I.hok eb,dd,h _ _ (I.tok _) ?_⟩
  rw [l]
  exact (rel.val k).getD rd
end
noncomputable def vV (td ty tx:TE):TE:=fun σ H Q=>td σ H fun x H1=> ∃ a,x=.ref a/\IsD H1 a/\ty σ H1 fun y H2=>tx σ H2 fun z H3=> ∃ o,DGet H3 a y o/\Q (o.getD z) H3
section
variable {X:Cx} {o e f:Expr} {apos cpos:Pos} {td ty tx:TE}
theorem eQ (hu:X.A.units+16<cLine) (ho:PE X o td) (he:PE X e ty) (hf:PE X f tx) (m:M2 X o "get" apos e f cpos):PE X (.Call (.Attribute o "get" apos) [e,f] [] cpos) (vV td ty tx):=by
 intro pins s σ H Q I h
 refine wpAny_Call_method m.base m.few m.line PySem.F.plainAttrs_dict PySem.F.slot_dict_get PySem.F.type_dict_get (thn (ho pins s σ H _ I h) fun u s1 ⟨x,H1,I1,rx,a,ex,d,q1⟩=>?_)
 subst ex
 obtain rfl:u=Value.ref a:=rx
 obtain ⟨t1,t2,_⟩:=wH I1 d
 refine ⟨t1,t2,?_⟩
 rw [m.trees]
 refine Calls.callWith_builtin rfl (Calls.evalArgs_plain (Calls.spliced_cons (thn (he pins s1 σ H1 _ I1 q1) fun iv s2 ⟨y,H2,I2,ry,q2⟩=>
  Calls.spliced_cons (thn (hf pins s2 σ H2 _ I2 q2) fun fv s3 ⟨z,H3,I3,rz,ov,g,q3⟩=>Calls.spliced_nil ?_))))
 exact wR hu I3 g ry rz fun w' s4 I4 rw'=>⟨_,H3,I4,rw',q3⟩
end
end L2
namespace Att
open PySem PySem.W PySem.Calls PyProof.Rows
theorem ia {P:Params} {h:Heap}: ∀ (ns:List Int) (vs:List Value),WellAll P h vs (ns.map WData.int)->IntsAre vs ns:=by
 intro ns
 induction ns with
 | nil=>
  intro vs w
  rw [List.map_nil]at w
  cases w
  exact .nil
 | cons n ns ih=>
  intro vs w
  rw [List.map_cons]at w
  cases w with
  | cons a b=>
   cases a
   exact .cons _ _ (ih _ b)
theorem pZ {l:OpenLaw} {n:Nat} (hn:l.most=some n) {P:Params} {h:Heap} {args:List WData} {vals:List Value}
  (hpre:l.row.toRowW.claim.pre args=true) (hwl:WellAll P h vals args):
  ∃ a vs ns,vals=[Value.ref a]/\args=[WData.list (ns.map WData.int)]/\h.get? a=some {cls:=.type "list",data:=.seq vs.toArray}/\IntsAre vs ns/\ns.length<=n:=by
 have hsh:WShape.hasAll [] args [.list .int]=true:=(pre_splitW hpre).1
 have hc:l.pre.holds [] {args:=args}=true:=(pre_splitW hpre).2
 obtain ⟨d,r,rfl,h1,h2⟩:=hasAllW_cons hsh
 obtain rfl:=hasAllW_nil h2
 obtain ⟨xs,rfl,h3⟩:=hasW_list h1
 obtain ⟨ns,rfl⟩:=items_int h3
 have hlen:ns.length<=n:=by
  unfold OpenLaw.pre at hc
  have h4:(WTm.not (.lt (.lit (.int (n:Int))) (.len (.arg 0)))).holds [] {args:=[.list (ns.map .int)]}=true:=by
   have h4:=(holds_andW hc).1
   rw [hn]at h4
   exact h4
  have h5:=condW_of h4 (w_not (w_lt w_lit (w_len_list (w_arg rfl))))
  rw [List.length_map]at h5
  refine Nat.le_of_not_lt fun q=>?_
  have q':(n:Int) < ((ns.length:Nat):Int):=by lia
  first
   | (rw [decide_eq_true q']at h5;exact absurd h5 (by decide))
   | (simp at h5;lia)
 cases hwl with
 | cons w1 w2=>
  cases w2
  cases w1 with
  | list ho hall=>exact ⟨_,_,ns,rfl,rfl,ho,ia ns _ hall,hlen⟩
theorem qm (l:OpenLaw) (args:List WData):l.row.toRowW.claim.post args (.bool true) args=true:=
 postW_of (r:=l.row.toRowW) (X:=(true==true))
  (show WShape.has [] (.bool true) .bool=true by first | rfl | decide | simp [WShape.has,WShape.arms,WShape.armsAll])
  (show (WTm.eq .res (.lit (.bool true))).value [] {args:=args,res:=some (.bool true),after:=args}=some (.bool (true==true))from w_eq_bool (w_res rfl) w_lit) rfl
theorem attach_call {l:OpenLaw} {n:Nat} {q:Program} {loose:List Str} {XP:(Str->Option Value)->Heap->Prop} {YP:World->Heap->Prop} {d:DefRec}
  (hn:l.most=some n) (hdf:d.params.defaults=[])
  (call: ∀ (w:World) (s₀ s₁:Shared) (mg mb:Str->Option Value) (fa:Addr) (o:Obj) (pm cd doc:Value) (a:Addr) (vs:List Value) (ns:List Int),
   Ground q loose [] XP w s₀ mg mb s₁.heap->YP w s₁.heap->
   s₁.heap.get? fa=some o->o.data=.func (docDef d.name d.params d.body d.scope pm cd doc)->s₁.heap.CodeRec cd d.name->mg d.name=some (.ref fa)->
   s₁.heap.get? a=some {cls:=.type "list",data:=.seq vs.toArray}->IntsAre vs ns->ns.length<=n->s₁.gens= #[]->
   codeAny (model l.prog w) callerA (.call (.ref fa) ⟨[.ref a],[]⟩) (fun r s'=>r=.ok (.ret (.bool true))/\OldK s₁.heap s'.heap/\s'.os=s₁.os/\AllBare s'.gens) s₁):
  WalkO q loose XP YP l.row.toRowW d [] (fun f vs=>PySem.call f vs):=by
 intro w s₀ s₁ mg mb G Y fa o pm cd doc dV kV ho hd hcd hD hmg hg args vals as hpre hlay hrd hwl hlo
 obtain rfl:dV=.none:=Dflts.none hD hdf
 obtain rfl:kV=.none:=Dflts.noKw hD
 obtain ⟨a,vs,ns,rfl,rfl,hobj,hints,hlen⟩:=pZ hn hpre hwl
 refine enter_call (codeAny_mono (call w s₀ s₁ mg mb fa o pm cd doc a vs ns G Y ho (fd_plain hd) hcd hmg hobj hints hlen hg) fun r s' hq=>?_)
 obtain ⟨rfl,h2,h3,h4⟩:=hq
 exact ⟨.inl ⟨.bool true,.bool true,[],rfl,fun _=>rfl,.bool true,qm l _,fun _=>⟨List.Pairwise.nil,fun _ hm=>(nomatch hm)⟩⟩,h2,h3,h4⟩
end Att
namespace L2
open PySem PySem.Spec PyProof.Rows
theorem jr: ∀ {vs:List Value} {ns:List Int},IntsAre vs ns->Vals (ns.map V.int) vs
 | _,_,.nil=>.nil
 | _,_,.cons n t h=>.cons ⟨t,rfl⟩ (jr h)
noncomputable def gw (s:Stmt):Arguments:=match s with
 | .FunctionDef _ a _ _ _ _ _ _ _ _=>a
 | _=>{posonlyargs:=[],args:=[],vararg:=none,kwonlyargs:=[],kw_defaults:=[],kwarg:=none,defaults:=[]}
noncomputable def cp (s:Stmt):List Stmt:=match s with
 | .FunctionDef _ _ b _ _ _ _ _ _ _=>b
 | _=>[]
noncomputable def ak (s:Stmt):Scope:=match s with
 | .FunctionDef _ _ _ _ _ _ sc _ _ _=>sc
 | _=>{kind:=.function,names:=[],isGenerator:=false,isCoroutine:=false}
noncomputable abbrev CX0:CXT:=fun _ _ _ _ _ _=>False
noncomputable abbrev E0:XK:=fun _ _ _=>False
theorem aq {X:Cx}:oH CX0 X E0:=fun _ _ _ _ _ _ _ h=>h.elim
structure Fun (K:PySem.W.Frag) (x qual:Str) (st:Stmt) (f:Addr) (fd:FuncData):Prop where
 ex: ∃ (oc:Value) (od:Option Addr) (kV doc pm:Value) (an:Option Addr) (cdv ct:Value) (osl:Array (Option Value)),
  fd=PySem.W.fnOf x qual (gw st) (cp st) (ak st) .none kV doc pm an cdv ct/\K.lookup f=some ⟨oc,od,.func fd,osl⟩/\PySem.W.codeIn K cdv qual=true
 kp:PySem.W.keepIn K (.ref f)=true
section
variable {P:Program} {w:World} {K:PySem.W.Frag} {mg:Str->Option Value} {base:Heap}
theorem Fun.ok {x qual:Str} {st:Stmt} {f:Addr} {fd:FuncData} {N ps:List Str} {k:Nat} {sp:Sp} (F:Fun K x qual st f fd) (S:ay N ps (ak st)) (len: ∀ vs H Q E,sp vs H Q E->vs.length=ps.length)
  (hbody: ∀ (cdv:Value) (A:Around) (outer:List Env) (s:Shared) (H:Hp) (vs:List V) (Q:VK) (E:XK),Room k (A.deeper (envOfC qual (ak st) s.heap.objs.size f cdv))->sp vs H Q E->
   ∃ t,PSs (eU CX0 P w K mg base N qual (ak st) f cdv A outer s H E).nox (cp st) t/\t {nx:=fun _ H'=>Q .non H',rt:=Q} (start N vs) H):ar P w K mg base CX0 (k+1) f fd ps sp:=by
 obtain ⟨oc,od,kV,doc,pm,an,cdv,ct,osl,rfl,lk,hcd⟩:=F.ex
 refine vI lk hcd S len fun A outer s H vs Q E hr hsp=>?_
 obtain ⟨t,h,q⟩:=hbody cdv A outer s H vs Q E hr hsp
 exact ⟨t,h.nox,q⟩
theorem Fun.binds {x qual:Str} {st:Stmt} {f:Addr} {fd:FuncData} {ps:List Str} (F:Fun K x qual st f fd)
  (h: ∀ (kV doc pm:Value) (an:Option Addr) (cdv ct:Value) (us:List Value),us.length=ps.length->bindArgs (PySem.W.fnOf x qual (gw st) (cp st) (ak st) .none kV doc pm an cdv ct) ⟨us,[]⟩=pure (ps.zip us)):Binds K fd ps []:=by
 obtain ⟨oc,od,kV,doc,pm,an,cdv,ct,osl,rfl,lk,hcd⟩:=F.ex
 exact .all (h kV doc pm an cdv ct)
end
theorem cW {A:Around} {k:Nat} (hr:Room k A):A.units+16<cLine:=Nat.lt_of_le_of_lt (Nat.add_le_add_left (by decide:16<=64) _) hr.units
theorem ao {n:Nat} (h:n<=1000):n<sizeLine:=Nat.lt_of_le_of_lt h (by decide)
section
variable {X:Cx}
theorem pv (i:Nat) {x:Str} {pos:Pos} (hN:X.N[i]? =some x:=by rfl) (hv:Vis X.env.scope x:=by first | exact Or.inl rfl | exact Or.inr (Or.inl rfl) | exact Or.inr (Or.inr rfl)) (hd:(x==("__debug__":Str))=false:=by decide)
  (hcd:(x==("__classdict__":Str))=false:=by decide):PE X (.Name x pos) (vQ i):=sI hN hv hd hcd
end
theorem bu {A B:Prop} (h:B):if false=true then A else B:=by
 rw [if_neg Bool.false_ne_true]
 exact h
theorem cH {A B:Prop} (h:A):if true=true then A else B:=by
 rw [if_pos rfl]
 exact h
theorem c8 {c A B:Prop} [Decidable c] (h1:c->A) (h2: ¬ c->B):if c then A else B:=by
 by_cases h:c
 ·rw [if_pos h]
  exact h1 h
 ·rw [if_neg h]
  exact h2 h
noncomputable def Same (H H':Hp):Prop:= ∀ b o,H b=some o->H' b=some o
theorem Same.refl (H:Hp):Same H H:=fun _ _ h=>h
theorem Same.trans {H H1 H2:Hp} (a:Same H H1) (b:Same H1 H2):Same H H2:=fun c o h=>b c o (a c o h)
theorem Same.free {H H':Hp} (e:Same H H') {l:Addr} (h:H' l=Option.none):H l=Option.none:=by
 cases q:H l with
 | none=>rfl
 | some o=>
  rw [e l o q]at h
  cases h
section
variable {κ:Type} [DecidableEq κ]
theorem iA {kvs:List (κ×V)} {k:κ} (h:aU kvs k=none): ¬ k∈kvs.map (·.1):=by
 intro m
 obtain ⟨p,hp,e⟩:=List.mem_map.mp m
 have q:(kvs.any fun kv=>decide (kv.1=k))=true:=List.any_eq_true.mpr ⟨p,hp,decide_eq_true e⟩
 rw [df,h]at q
 exact absurd q (by simp)
theorem j6 {kvs:List (κ×V)} {k:κ} {v:V} (h:aU kvs k=some v):k∈kvs.map (·.1):=by
 have q:(kvs.any fun kv=>decide (kv.1=k))=true:=by
  rw [df,h]
  all_goals rfl
 obtain ⟨p,hp,e⟩:=List.any_eq_true.mp q
 exact List.mem_map.mpr ⟨p,hp,of_decide_eq_true e⟩
end
section
variable {X:Cx}
theorem ue:c5 X (.builtin "isinstance") (fun xs H Q=> ∃ x T t b,xs=[x,.ty T]/\gA X.K H x t/\PySem.W.kitOne X.K t (.type T)=some b/\Q (.bl b) H):=by
 intro pins s σ H xs us Q I r h
 obtain ⟨x,T,t,b,rfl,ty,e,q⟩:=h
 obtain ⟨u,w',rfl,ru,rw'⟩:=iz r
 cases (show w'=Value.type T from rw')
 exact qR I ru ty e fun tk=>⟨.bl b,H,I.tok tk,rfl,q⟩
end
noncomputable def Itw (n:Nat) (R:Nat->V->Prop):It:=⟨fun i _=>i<n,fun i H x H'=>H'=H/\R i x,fun i _=>i=n⟩
theorem ni {P:Program} {w:World} {K:PySem.W.Frag} {tg:Expr} (it:Addr) (n:Nat) (Pv:Nat->Value->Prop) (tn:Nat->Heap->Prop) (R:Nat->V->Prop)
  (hW: ∀ A:Around,A.handled=none->Walks P w A it [it] [it] n Pv tn)
  (hobj: ∀ i h,tn i h-> ∃ (o:Obj) (nm:String) (vs:Array Value),h.get? it=some o/\o.cls=.type nm/\o.data=.fields vs/\
   ["enumerate","zip","dict_itemiterator","dict_reverseitemiterator","odict_iterator","itertools.zip_longest","itertools.pairwise"].contains nm=false)
  (hP: ∀ i v,Pv i v-> ∃ x,RelV x v/\R i x)
  (hself: ∀ (A:Around) (i:Nat) (s:Shared) (Q:Value->Shared->Prop) (E:Value->Shared->Prop),tn i s.heap->Q (.ref it) s->wpAny (model P w) A (pyIter (.ref it)) Q E s):jq P w K tg (Itw n R) [it] it tn where
 mem:=by simp
 obj:=fun i h st b hb=>by
  have e:b=it:=by simpa using hb
  subst e
  obtain ⟨o,nm,vs,e,_,d,_⟩:=hobj i h st
  exact ⟨o,e,fun v z=>by rw [d]at z;cases z⟩
 keep:=fun i h h' st k=>(hW callerA rfl).frame i h h' st fun b hb o e=>k b hb o e
 item:=by
  intro X hP' hw hK hc i pins s σ H E I hf st hg
  subst hP' hw hK
  obtain ⟨f0,f1,f2,f3,f4,f5⟩:=hf it (by simp)
  refine (hW X.A (I.ok.hd hc)).item i s _ _ hg st fun v h' tk hv st' kk=>?_
  obtain ⟨x,rx,qx⟩:=hP i v hv
  have I1:Inv X pins σ H {s with heap:=h',toks:=tk}:=I.turned (fun b o hb e=>kk b o (by simpa using hb) e) f0 f1 f3 f4 f5
  obtain ⟨o,nm,vs,e,c,d,ne⟩:=hobj _ _ st'
  exact ⟨v,rfl,jQ (s:={s with heap:=h',toks:=tk}) e c d ne ⟨x,H,I1,rx,⟨rfl,qx⟩,st',fun b hb=>(hf b hb).1⟩⟩
 done:=by
  intro X hP' hw hK hc i pins s σ H E I hf st hg
  subst hP' hw hK
  obtain ⟨f0,f1,f2,f3,f4,f5⟩:=hf it (by simp)
  have hg':i=n:=hg
  subst hg'
  exact (hW X.A (I.ok.hd hc)).done s _ _ st fun h' tk kk=>⟨rfl,I.turned (t':=tk) (fun b o hb e=>kk b o (by simpa using hb) e) f0 f1 f3 f4 f5⟩
 self:=hself
theorem tY {n:Nat} {R:Nat->V->Prop} {g:TG} {tb:TS} {D:eV} {σ:St} {H:Hp} (Pv:Nat->St->Hp->Prop) (h0:Pv 0 σ H)
  (hs: ∀ i x σ H,i<n->R i x->Pv i σ H->g x σ H fun σ2 H2=>tb {D with nx:=Pv (i+1),ct:=Pv (i+1),bk:=D.nx} σ2 H2) (hd: ∀ σ H,Pv n σ H->D.nx σ H):
  ∃ W:Nat->Nat->St->Hp->Prop,(∃ m,W 0 m σ H)/\ ∀ i m σ H,W i m σ H->
   ((Itw n R).stop i H/\D.nx σ H)\/((Itw n R).go i H/\ ∃ N:St->Hp->Prop,(∀ σ' H',N σ' H'-> ∃ m',m'<m/\W (i+1) m' σ' H')/\ ∀ x H',(Itw n R).yld i H x H'->g x σ H' fun σ2 H2=>tb {D with nx:=N,ct:=N,bk:=D.nx} σ2 H2):=by
 refine ⟨fun i m σ H=>i<=n/\m=n-i/\Pv i σ H,⟨n,Nat.zero_le _,by simp,h0⟩,?_⟩
 rintro i m σ H ⟨hi,hm,p⟩
 by_cases e:i=n
 ·subst e
  exact .inl ⟨rfl,hd σ H p⟩
 ·have hlt:i<n:=by lia
  refine .inr ⟨hlt,Pv (i+1),fun σ' H' p'=>⟨n- (i+1),by lia,by lia,rfl,p'⟩,?_⟩
  rintro x H' ⟨rfl,r⟩
  exact hs i x σ H' hlt r p
section
variable {X:Cx} {tg:Expr}
noncomputable def xE (ta:TA):TI:=fun σ H R=>ta σ H fun vs H1=> ∃ i j c:Int,vs=[.int i,.int j,.int c]/\(-(2^40)<=i/\i<2^40/\ -(2^40)<=j/\j<2^40/\0<c/\c<2^20)/\
 R (Itw (Builtin.Range.rangeSize i j c).toNat fun k v=>v=.int (i+k*c)) H1
theorem nz {a b c:Int} (h1: -(2^40)<=a) (h2:a<2^40) (h3: -(2^40)<=b) (h4:b<2^40) (h5:0<c) (h6:c<2^20):Builtin.Range.small a b c=true:=by
 have hz:Builtin.Range.rangeSize a b c<=2^41/\0<=Builtin.Range.rangeSize a b c:=by
  unfold Builtin.Range.rangeSize
  rw [if_pos h5]
  split
  ·have e1:(b-a-1) /c<=b-a-1:=Int.ediv_le_self _ (by lia)
   have e2:0<=(b-a-1) /c:=Int.ediv_nonneg (by lia) (by lia)
   lia
  ·lia
 unfold Builtin.Range.small
 simp only [Builtin.Range.rangeFitsLong,Bool.and_eq_true,Bool.or_eq_true,decide_eq_true_eq,beq_iff_eq,show c>0 from h5,if_true]
 lia
theorem qp {a b c:Expr} {ta:TA} {p pos:Pos} (hg:Gl X "range") (hm:X.mg "range"=none) (ha:PA X [a,b,c] ta) (hs:starEach [a,b,c] X.env=[(false,eval a X.env),(false,eval b X.env),(false,eval c X.env)]:=by rfl)
  (hs2:starEach [b,c] X.env=[(false,eval b X.env),(false,eval c X.env)]:=by rfl):PI X tg (.Call (.Name "range" p) [a,b,c] [] pos) (xE ta):=by
 intro pins s σ H R I h
 refine Call_ (eR I hg hm boot_range (PyProof.Rows.callWith_type1 (thn (ha pos pins s σ H _ I h) fun us s1 ⟨vs,H1,I1,r1,q1⟩=>?_) (by rw [hs,hs2]) (by rw [hs2];rfl)))
 obtain ⟨i,j,c,e,⟨q1,q2,q3,q4,q5,q6⟩,q⟩:=q1
 subst e
 cases r1 with
 | cons r rr=>
  cases rr with
  | cons r' rr=>
   cases rr with
   | cons r'' rr=>
    cases rr
    obtain ⟨t,rfl⟩:=r
    obtain ⟨t',rfl⟩:=r'
    obtain ⟨t'',rfl⟩:=r''
    refine call_range_3 (by lia) ?_ (Or.inl (PyProof.noPylong_small (by lia)))
    refine wpAny_pyIter_range (IsRange.new ..) (nz q1 q2 q3 q4 q5 q6) ?_
    have I2:Inv X pins σ H1 {s1 with heap:=s1.heap.push {cls:=.type "range",data:=.fields #[.int i t,.int j t',.int c t'']}}:=I1.kept (t':=s1.toks) fun b o e=>Heap.get?_push_of_some _ e
    have hn:0<=Builtin.Range.rangeSize i j c:=by
     unfold Builtin.Range.rangeSize
     rw [if_pos q5]
     split
     ·have:=Int.ediv_nonneg (a:=j-i-1) (b:=c) (by lia) (by lia)
      lia
     ·lia
    refine ⟨(s1.heap.push {cls:=.type "range",data:=.fields #[.int i t,.int j t',.int c t'']}).objs.size,[(s1.heap.push {cls:=.type "range",data:=.fields #[.int i t,.int j t',.int c t'']}).objs.size],_,_,H1,rfl,
     I2.kept (t':=s1.toks) fun b o e=>Heap.get?_push_of_some _ e,
     ni _ (Builtin.Range.rangeSize i j c).toNat _ _ (fun k v=>v=.int (i+k*c)) (fun A hA=>Walks.range hA _ i c _) (fun k h st=>⟨_,"range_iterator",_,st,rfl,rfl,by decide⟩) (fun k v hv=>?_) (fun _ _ _ _ _ st h=>wpAny_pyIter_rangeiter st h),?_,fun b hb=>?_,q⟩
    ·obtain ⟨tt,rfl⟩:=hv
     exact ⟨.int (i+k*c),⟨tt,rfl⟩,rfl⟩
    ·show IsRangeIter _ _ (i+ ((0:Nat):Int) *c) (((Builtin.Range.rangeSize i j c).toNat:Int) - ((0:Nat):Int)) c
     have e1:i+ ((0:Nat):Int) *c=i:=by simp
     have e2:(((Builtin.Range.rangeSize i j c).toNat:Nat):Int) - ((0:Nat):Int)=Builtin.Range.rangeSize i j c:=by lia
     rw [e1,e2]
     exact Heap.get?_push_size _ rfl
    ·have e:b=(s1.heap.push {cls:=.type "range",data:=.fields #[.int i t,.int j t',.int c t'']}).objs.size:=by simpa using hb
     subst e
     exact I2.fpOk (Nat.le_refl _) I2.fresh
end
theorem gu {α β:Type} {f:α->β->Sem (ForInStep β)} (g:β->α->β): ∀ {l:List α} (c:β),(∀ x∈l,∀ c,f x c=pure (.yield (g c x)))->forIn l c f=pure (l.foldl g c)
 | [],c,_=>rfl
 | x::l,c,h=>by
  have hx:=h x List.mem_cons_self c
  rw [List.forIn_cons,hx,pure_bind]
  exact gu g (g c x) fun y hy=>h y (List.mem_cons_of_mem _ hy)
noncomputable def ca (cells:List (Str×Addr)) (c:List (Str×Addr)) (x:Str×NameKind):List (Str×Addr):=
 if x.2=.free then (match cells.lookup x.1 with | some a=>(x.1,a)::c | none=>c)else c
noncomputable def cb (cells:List (Str×Addr)) (names:List (Str×NameKind)):List (Str×Addr):=names.foldl (ca cells) []
theorem cU {scope:Scope} {env:Env} (h: ∀ x∈scope.names,x.2=.free-> ∃ c,env.cells.lookup x.1=some c):closureFor scope env=pure (cb env.cells scope.names):=by
 simp only [closureFor]
 rw [gu (ca env.cells) [] (fun x hx c=>by
  obtain ⟨n,kind⟩:=x
  by_cases hk:kind=.free
  ·subst hk
   obtain ⟨a,ha⟩:=h _ hx rfl
   simp only [ca,if_true,beq_self_eq_true,cellOf,ha,pure_bind]
  ·have hb:(kind==NameKind.free)=false:=by simpa using hk
   simp only [ca,hb,hk,Bool.false_eq_true,if_false])]
 rfl
theorem jh {cells:List (Str×Addr)}: ∀ {names:List (Str×NameKind)} {acc:List (Str×Addr)},(∀ p∈acc,cells.lookup p.1=some p.2)-> ∀ p∈names.foldl (ca cells) acc,cells.lookup p.1=some p.2
 | [],_,h=>h
 | x::r,acc,h=>by
  refine jh (names:=r) (acc:=ca cells acc x) ?_
  intro p hp
  unfold ca at hp
  split at hp
  ·split at hp
   ·rename_i a ha
    rcases List.mem_cons.mp hp with e | e
    ·subst e
     exact ha
    ·exact h p e
   ·exact h p hp
  ·exact h p hp
theorem ji {cells:List (Str×Addr)}: ∀ {names:List (Str×NameKind)} {acc:List (Str×Addr)} {p:Str×Addr},p∈acc->p∈names.foldl (ca cells) acc
 | [],_,_,h=>h
 | x::r,acc,p,h=>by
  refine ji (names:=r) (acc:=ca cells acc x) ?_
  unfold ca
  split
  ·split
   ·exact List.mem_cons_of_mem _ h
   ·exact h
  ·exact h
theorem mJ {cells:List (Str×Addr)} {n:Str} {c:Addr} (hc:cells.lookup n=some c): ∀ {names:List (Str×NameKind)} {acc:List (Str×Addr)},(n,NameKind.free)∈names->(n,c)∈names.foldl (ca cells) acc
 | [],_,h=>by simp at h
 | x::r,acc,h=>by
  rcases List.mem_cons.mp h with e | e
  ·subst e
   refine ji (names:=r) ?_
   simp [ca,hc]
  ·exact mJ hc (names:=r) e
theorem mem_of_lookup {α β:Type} [BEq α] [LawfulBEq α] {k:α} {v:β}: ∀ {l:List (α×β)},l.lookup k=some v->(k,v)∈l
 | [],h=>by simp at h
 | (a,b)::r,h=>by
  rw [List.lookup_cons]at h
  split at h
  ·rename_i e
   have:=eq_of_beq e
   subst this
   cases h
   exact List.mem_cons_self
  ·exact List.mem_cons_of_mem _ (mem_of_lookup h)
theorem fu {α β:Type} [BEq α] [LawfulBEq α] {k:α} {v:β}: ∀ {l:List (α×β)},(k,v)∈l-> ∃ v',l.lookup k=some v'
 | [],h=>by simp at h
 | (a,b)::r,h=>by
  rw [List.lookup_cons]
  split
  ·exact ⟨b,rfl⟩
  ·rename_i e
   rcases List.mem_cons.mp h with q | q
   ·cases q
    simp at e
   ·exact fu q
theorem bX {cells:List (Str×Addr)} {names:List (Str×NameKind)} {n:Str} {c:Addr} (h:(cb cells names).lookup n=some c):cells.lookup n=some c:=
 jh (names:=names) (acc:=[]) (by simp) (n,c) (mem_of_lookup h)
theorem cI {cells:List (Str×Addr)} {names:List (Str×NameKind)} {n:Str} {c:Addr} (hc:cells.lookup n=some c) (h:(n,NameKind.free)∈names):(cb cells names).lookup n=some c:=by
 obtain ⟨c',e⟩:=fu (mJ hc (acc:=[]) h)
 have:=bX e
 rw [hc]at this
 cases this
 exact e
noncomputable def bo (sc0 scope:Scope):List (Str×NameKind):=
 scope.names.map fun (n,k)=>if (k== .free&&sc0.kind== .function&&sc0.names.lookup n==some .cell)then (n,.cell)else (n,k)
structure fO (sc0:Scope) (N0:List Str) (scope:Scope) (x:Str) (ys:List Str) (fr:List Nat):Prop where
 kind:scope.kind=.function
 nocell: ∀ y∈scope.names,y.2≠ .cell
 loc: ∀ y∈scope.names,y.2=.local->scope.names.lookup y.1=some .local
 xl:(bo sc0 scope).lookup x=some .local
 free: ∀ y∈scope.names,y.2=.free->sc0.names.lookup y.1=some .cell
 nd:(x::ys).Nodup
 len:ys.length=fr.length
 sl: ∀ q∈ys.zip fr,N0[q.2]? =some q.1/\sc0.names.lookup q.1=some .cell/\(bo sc0 scope).lookup q.1=some .cell
theorem cok {sc0:Scope} {N0:List Str} {scope:Scope} {x:Str} {ys:List Str} {fr:List Nat} (kind_:scope.kind=.function:=by rfl) (nocell_: ∀ y∈scope.names,y.2≠ .cell:=by decide +kernel) (loc_: ∀ y∈scope.names,y.2=.local->scope.names.lookup y.1=some .local:=by decide +kernel) (xl_:(bo sc0 scope).lookup x=some .local:=by decide +kernel) (free_: ∀ y∈scope.names,y.2=.free->sc0.names.lookup y.1=some .cell:=by decide +kernel) (nd_:(x::ys).Nodup:=by decide +kernel) (len_:ys.length=fr.length:=by rfl) (sl_: ∀ q∈ys.zip fr,N0[q.2]? =some q.1/\sc0.names.lookup q.1=some .cell/\(bo sc0 scope).lookup q.1=some .cell:=by decide +kernel):fO sc0 N0 scope x ys fr:=⟨kind_,nocell_,loc_,xl_,free_,nd_,len_,sl_⟩
noncomputable def bn (X:Cx) (x:Str) (ys:List Str) (scope:Scope) (C:Addr) (s:Shared) (H:Hp) (ex:List Addr):Cx:=
 {X with N:=x::ys,s₀:=s,H₀:=H,env:=compEnvC scope (cb X.env.cells scope.names) C X.env,outer:=X.stack,stack:=X.stack,ex:=ex,fn:=fun _=>false,pn:=[],xe:=fun _ _=>False}
section
variable {prog:Program} {w:World} {A:Around} {R:Result->Shared->Prop} {s:Shared}
theorem fw {elt target iter:Expr} {scope:Scope} {pos:Pos} {it acc:Value} {env:Env} (I:Nat->Shared->Prop)
  (turn: ∀ n s,I n s->wpAny (model prog w) A (pyNext it) (fun r s₁=>match r with
   | none=>R (.ok .next) s₁
   | some v=>wpAny (model prog w) A (letOwnedTupleGo target it v) (fun _ s₁'=>wpAny (model prog w) A (assign target env v) (fun _ s₂=>wpAny (model prog w) A (eval elt env) (fun x s₃=>
     wpAny (model prog w) A (call (.builtin "list.append") [acc,x]) (fun _ s₄=> ∃ m,m<n/\I m s₄) (fun _ _=>False) s₃) (fun _ _=>False) s₂) (fun _ _=>False) s₁') (fun _ _=>False) s₁) (fun _ _=>False) s)
  (n:Nat) (h:I n s):codeAny (model prog w) A (.compLoop (.ListComp elt [⟨target,iter,[],0⟩] scope pos) 0 it acc env) R s:=by
 refine codeAny_loop rfl I (fun n s hI=>?_) n h
 show wpAny _ _ ((compTurn (.ListComp elt [⟨target,iter,[],0⟩] scope pos) 0 it acc env).onRaise (fun x=>do noteFrame x env;theTreesLotGoes x)) _ _ s
 refine wpAny_noted ?_
 rw [compTurn_list1]
 refine wpAny_noRaise ?_
 refine wpAny_bind (wpAny_standAt (wpAny_bind (wpAny_mono (turn n s hI) (fun r s₁ h₁=>?_) fun _ _ h'=>h')))
 cases r with
 | none=>exact wpAny_pure h₁
 | some v=>
  refine wpAny_bind (wpAny_mono h₁ (fun _ s₁' h₁'=>?_) fun _ _ h'=>h')
  exact wpAny_bind (wpAny_mono h₁' (fun _ s₂ h₂=>wpAny_bind (wpAny_bind (wpAny_mono h₂ (fun x s₃ h₃=>wpAny_bind (wpAny_mono h₃
   (fun _ s₄ h₄=>wpAny_pure (wpAny_pure ⟨rfl,h₄⟩)) fun _ _ h'=>h')) fun _ _ h'=>h'))) fun _ _ h'=>h')
end
noncomputable def bJ (fr:List Nat) (σ:St):St:=fr.map fun j=>(σ[j]?).join
noncomputable def fC (fr:List Nat) (te:TE) (σ:St) (J:It) (H1:Hp) (Q:VK):Prop:=
 ∀ p,H1 p=none-> ∃ W:Nat->Nat->List V->Hp->Prop,(∃ m,W 0 m [] (upd H1 p (.lst [])))/\ ∀ i m ys H,W i m ys H->H p=some (.lst ys)/\
  ((J.stop i H/\Q (.ref p) H)\/(J.go i H/\ys.length<sizeLine/\ ∀ x H',J.yld i H x H'->te (some x::bJ fr σ) H' fun v H2=>
   H2 p=some (.lst ys)/\ ∃ m',m'<m/\W (i+1) m' (ys++[v]) (upd H2 p (.lst (ys++[v])))))
noncomputable def rK (wi:TI) (fr:List Nat) (te:TE):TE:=fun σ H Q=>wi σ H fun J H1=>fC fr te σ J H1 Q
section
variable {X:Cx} {x:Str} {px pos fpos:Pos} {iter elt:Expr} {scope sc0:Scope} {N0 ys:List Str} {fr:List Nat} {wi:TI} {te:TE} {pins:List (Addr×Obj)} {σ:St} {H:Hp} {s:Shared}
theorem jV {use:Option (Value->Sem Unit)} {Qv:Value->Shared->Prop} {Q:VK} (hcalm:X.calm=true) (hi:PI X (.Name x px) iter wi) (hsc:X.env.scope=sc0) (hN:X.N=N0) (ok:fO sc0 N0 scope x ys fr)
  (hE: ∀ C s H ex,PE (bn X x ys scope C s H ex) elt te) (I:Inv X pins σ H s) (h:rK wi fr te σ H Q) (hs: ∀ v,foldedSetIterable iter X.env v=pure v)
  (fin: ∀ (p C:Addr) (H':Hp) (s':Shared) (m:Str->Option Value),Inv X pins σ H' s'->s'.heap.Ns C m->H' C=none->C≠X.env.locals->X.s₀.heap.objs.size<=C->(∀ y c,X.env.cells.lookup y=some c->c≠C)->(∀ q∈X.pn++pins,q.1≠C)->Q (.ref p) H'->
   compPost (model X.prog X.w) X.A X.xe use Qv (.ref p) C (.ok .next) s'):
  wpAny (model X.prog X.w) X.A (comprehension (.ListComp elt [⟨.Name x px,iter,[],0⟩] scope pos) scope X.env fpos (newList []) false (eval iter X.env) use) Qv X.xe s:=by
 subst hsc hN
 have hkof: ∀ y,X.env.kindOf y=X.env.scope.names.lookup y:=fun y=>rfl
 have hfree: ∀ y∈scope.names,y.2=.free-> ∃ c,X.env.cells.lookup y.1=some c:=fun y hy e=>I.ok.has y.1 (.inl (ok.free y hy e))
 refine wpAny_comprehension_free (gs:=[]) rfl hs (cU hfree) ok.kind ok.loc (thn (hi pins s σ H _ I h) fun v s1 h1=>thn h1 fun itv s2 h2=>?_)
 obtain ⟨it,fp,tn,J,H2,e,I2,T,st2,f2,hp⟩:=h2
 subst e
 refine wpAny_newObj_type (wpAny_newFunctionEnv ok.nocell (by intro y hy;simp at hy) (fun h₁ hns₁ hsb₁=>?_) ok.kind)
 dsimp only at hns₁ hsb₁ ⊢
 have I3:Inv X pins σ (upd H2 s2.heap.objs.size (.lst [])) {s2 with heap:=s2.heap.push {cls:=.type "list",data:=.seq ([]:List Value).toArray}}:=
  I2.lnew (its:=[]) (ys:=[]) (t':=s2.toks) .nil (Nat.zero_le _)
 have hf2: ∀ b∈fp,b<s2.heap.objs.size:=fun b hb=>by
  obtain ⟨o,e,_⟩:=T.obj _ _ st2 b hb
  exact Heap.lt_size e
 have hps:s2.heap.objs.size< (s2.heap.push {cls:=.type "list",data:=.seq ([]:List Value).toArray}).objs.size:=by rw [Heap.size_push];exact Nat.lt_succ_self _
 have W0:=hp s2.heap.objs.size I2.fresh
 have st3:tn 0 (s2.heap.push {cls:=.type "list",data:=.seq ([]:List Value).toArray}):=T.keep _ _ _ st2 fun b hb o e=>Heap.get?_push_of_some _ e
 generalize hpp:s2.heap.objs.size=p at I3 W0 hf2 hps ⊢
 generalize hh3:(s2.heap.push {cls:=.type "list",data:=.seq ([]:List Value).toArray})=h3 at I3 hns₁ hsb₁ hps st3 ⊢
 generalize hH3:upd H2 p (.lst [])=H3 at I3 W0
 have hold: ∀ b o,h3.get? b=some o->h₁.get? b=some o:=fun b o e=>hsb₁.extBut b o (Nat.ne_of_lt (Heap.lt_size e)) (Heap.get?_push_of_some _ e)
 have fH3: ∀ b∈fp,H3 b=none:=fun b hb=>by
  rw [<- hH3,ah (Nat.ne_of_lt (hf2 b hb))]
  exact (f2 b hb).1
 have hclos: ∀ y c,(cb X.env.cells scope.names).lookup y=some c->X.env.cells.lookup y=some c:=fun y c e=>bX e
 have hcell3: ∀ y c,X.env.cells.lookup y=some c->c<h3.objs.size:=fun y c e=>by
  obtain ⟨v,o,ho,_⟩:=I3.cell y c e
  exact Heap.lt_size ho
 have hlt3:X.env.locals<h3.objs.size:=I3.lt
 have Yok:(bn X x ys scope h3.objs.size {s2 with heap:=h3} H3 fp).Ok:={
  mod:=I.ok.mod
  kind:=ok.kind
  glob:=I.ok.glob
  blt:=I.ok.blt
  above:=Nat.le_refl _
  inj:=fun y z c e1 e2=>I.ok.inj y z c (hclos _ _ e1) (hclos _ _ e2)
  has:=fun y hk=>by
   have hfr:(y,NameKind.free)∈scope.names:=by
    have hm: ∃ k,(bo X.env.scope scope).lookup y=some k/\(k=.cell\/k=.free):=by
     rcases hk with hk | hk
     ·exact ⟨_,hk,.inl rfl⟩
     ·exact ⟨_,hk,.inr rfl⟩
    obtain ⟨k,hk,hkk⟩:=hm
    have hmem:=mem_of_lookup hk
    unfold bo at hmem
    obtain ⟨⟨n,k0⟩,hn,en⟩:=List.mem_map.mp hmem
    dsimp only at en
    split at en
    ·rename_i hc
     simp only [Bool.and_eq_true]at hc
     have hk0:k0=.free:=by simpa using hc.1.1
     cases en
     rw [<- hk0]
     exact hn
    ·cases en
     rcases hkk with e | e
     ·exact absurd e (ok.nocell _ hn)
     ·rw [<- e]
      exact hn
   obtain ⟨c,hc⟩:=hfree _ hfr rfl
   exact ⟨c,cI hc hfr⟩
  cab:=fun y c hf _=>by cases hf
  hd:=I.ok.hd
  frames:=I.ok.frames
  stk:=.inl rfl
  exf:=fun b hb=>⟨fun e=>absurd (hf2 b hb) (by rw [e];exact Nat.not_lt.mpr (Nat.le_of_lt hps)),fun y c e=>(f2 b hb).2.2.2.2.1 y c (hclos _ _ e)⟩
  bs:=fun b o e=>⟨(I3.bs b o e).1,(I3.bs b o e).2⟩
  bsz:=Nat.le_trans I.ok.bsz I3.sz
  noex:=fun b o e hb=>by
   rcases (f2 b hb).2.2.2.1 with q | q
   ·exact I.ok.noex b o e q
   ·have h1:b<X.base.objs.size:=Heap.lt_size e
    exact absurd h1 (Nat.not_lt.mpr (Nat.le_trans I.ok.bsz q))
  exfs:=fun b hb hm=>by
   rcases List.mem_cons.mp (I3.stkSub b hm)with q | q
   ·exact (f2 b hb).2.1 q
   ·exact (f2 b hb).2.2.1 q
  funs:=I3.stack
  frf:=I3.stkFree}
 have IY:Inv (bn X x ys scope h3.objs.size {s2 with heap:=h3} H3 fp) [] (none::bJ fr σ) H3 {s2 with heap:=h₁,toks:=s2.toks+ ([]:List (Str×Value)).length}:={
  ok:=Yok
  os:=rfl
  bare:=I2.bare
  base:=Un.kept hold
  loc:=by
   refine ⟨_,hns₁,fun i y v hy hv hvis=>?_⟩
   cases i with
   | zero=>cases hv
   | succ j=>
    have hy':ys[j]? =some y:=hy
    have hv':(bJ fr σ)[j]? =some (some v):=hv
    unfold bJ at hv'
    rw [List.getElem?_map]at hv'
    obtain ⟨i0,hi0,hv0⟩:=Option.map_eq_some_iff.mp hv'
    have hz:(y,i0)∈ys.zip fr:=by
     refine List.mem_iff_getElem?.mpr ⟨j,?_⟩
     rw [List.getElem?_zip_eq_some]
     exact ⟨hy',hi0⟩
    obtain ⟨hn,hk,hk2⟩:=ok.sl _ hz
    have hσ:σ[i0]? =some (some v):=by
     cases e:σ[i0]? with
     | none=>rw [e]at hv0;cases hv0
     | some o=>
      rw [e]at hv0
      rw [show o=some v from hv0]
    obtain ⟨m,hm,hl⟩:=I3.loc
    obtain ⟨u,ru,lk⟩:=hl i0 y v hn hσ (.inr (.inl hk))
    refine ⟨u,ru,.inr ⟨.inl hk2,?_⟩⟩
    rcases lk with ⟨a,_⟩ | ⟨_,c,hc,hcell⟩
    ·have a':X.env.scope.names.lookup y=some .local:=a
     have hk':X.env.scope.names.lookup y=some .cell:=hk
     rw [hk']at a'
     cases a'
    ·have hfr:(y,NameKind.free)∈scope.names:=by
      have hmem:=mem_of_lookup hk2
      unfold bo at hmem
      obtain ⟨⟨n,k0⟩,hn0,en⟩:=List.mem_map.mp hmem
      dsimp only at en
      split at en
      ·rename_i hc0
       simp only [Bool.and_eq_true]at hc0
       have hk0:k0=.free:=by simpa using hc0.1.1
       cases en
       rw [<- hk0]
       exact hn0
      ·cases en
       exact absurd rfl (ok.nocell _ hn0)
     exact ⟨c,cI hc hfr,hcell.keeps hold⟩
  cell:=fun y c e=>by
   obtain ⟨v,hv⟩:=I3.cell y c (hclos _ _ e)
   exact ⟨v,hv.keeps hold⟩
  free:=I3.fresh
  freeC:=fun y c e=>I3.freeC y c (hclos _ _ e)
  pin:=fun q hq=>by cases hq
  hok:=I3.hok.kept hold
  len:=by
   show (none::bJ fr σ).length=(x::ys).length
   rw [List.length_cons,List.length_cons,ok.len]
   unfold bJ
   rw [List.length_map]}
 have hxl:(bn X x ys scope h3.objs.size {s2 with heap:=h3} H3 fp).env.scope.names.lookup x=some .local:=ok.xl
 have pgx:PG (bn X x ys scope h3.objs.size {s2 with heap:=h3} H3 fp) (.Name x px) (eD 0):=av (i:=0) ok.nd rfl (.inl hxl) (.inr hxl)
 have pel:=hE h3.objs.size {s2 with heap:=h3} H3 fp
 obtain ⟨W,⟨m0,w0⟩,turn⟩:=W0
 have stat: ∀ {H':Hp},(∀ b∈fp,H' b=none)-> ∀ b∈fp,ib (bn X x ys scope h3.objs.size {s2 with heap:=h3} H3 fp) [] H' b:=fun hn b hb=>
  ⟨hn b hb,(Yok.exf b hb).1,Yok.exfs b hb,.inl hb,(Yok.exf b hb).2,fun q hq=>by cases hq⟩
 have loop:codeAny (model X.prog X.w) X.A (.compLoop (.ListComp elt [⟨.Name x px,iter,[],0⟩] scope pos) 0 (.ref it) (.ref p) (compEnvC scope (cb X.env.cells scope.names) h3.objs.size X.env))
   (compPost (model X.prog X.w) X.A X.xe use Qv (.ref p) h3.objs.size) {s2 with heap:=h₁,toks:=s2.toks+ ([]:List (Str×Value)).length}:=by
  refine fw (fun n s'=> ∃ i zs v0 H',Inv (bn X x ys scope h3.objs.size {s2 with heap:=h3} H3 fp) [] (v0::bJ fr σ) H' s'/\tn i s'.heap/\(∀ b∈fp,H' b=none)/\W i n zs H') ?_ m0
   ⟨0,[],none,H3,IY,T.keep _ _ _ st3 fun b hb o e=>hold b o e,fH3,w0⟩
  rintro n s5 ⟨i,zs,v0,H5,I5,st5,fr5,w5⟩
  obtain ⟨hacc,turn5⟩:=turn i n zs H5 w5
  rcases turn5 with ⟨stop,qn⟩ | ⟨go,hlen,step⟩
  ·refine thn (T.done (bn X x ys scope h3.objs.size {s2 with heap:=h3} H3 fp) rfl rfl rfl hcalm i [] s5 _ H5 _ I5 (stat fr5) st5 stop) fun r s6 ⟨hr,I6⟩=>?_
   subst hr
   obtain ⟨m6,n6,_⟩:=I6.loc
   refine fin p h3.objs.size H5 s6 m6 (I3.call' I6.os I6.base I6.hok I6.bare fun b hb=>⟨(f2 b hb).2.2.2.1,(f2 b hb).2.1,(f2 b hb).2.2.2.2.1,(f2 b hb).2.2.2.2.2⟩) n6 I6.free (Nat.ne_of_gt hlt3) I3.sz (fun y c e=>Nat.ne_of_lt (hcell3 y c e)) (fun q hq=>?_) qn
   exact Nat.ne_of_lt (Heap.lt_size (I3.pin q hq).1)
  ·refine thn (T.item (bn X x ys scope h3.objs.size {s2 with heap:=h3} H3 fp) rfl rfl rfl hcalm i [] s5 _ H5 _ I5 (stat fr5) st5 go) fun r s6 ⟨u,hr,h6⟩=>?_
   subst hr
   refine thn h6 fun _ s7 ⟨xv,H7,I7,r7,y7,st7,fr7⟩=>?_
   have I7':=I7.pinned (stat fr7) (T.obj _ _ st7)
   refine thn (pgx _ s7 _ H7 xv u (fun σ' H'=>σ'=some xv::bJ fr σ/\H'=H7) I7' r7 ⟨rfl,rfl⟩) fun _ s8 ⟨σ8,H8,I8,e8,e8'⟩=>?_
   subst e8 e8'
   refine thn (pel _ s8 _ H8 _ I8 (step xv H8 y7)) fun yv s9 ⟨v9,H9,I9,r9,hp9,m',hm',w9⟩=>?_
   refine thn (bi _ s9 _ H9 (.ref p) [v9] (.ref p) [yv] (fun _ H'=>H'=upd H9 p (.lst (zs++[v9]))) I9 rfl (.cons r9 .nil) ⟨p,zs,v9,rfl,rfl,hp9,hlen,rfl⟩) fun _ s10 ⟨_,H10,I10,_,e10⟩=>?_
   subst e10
   refine ⟨m',hm',i+1,zs++[v9],some xv,_,I10.unpinned,T.keep _ _ _ st7 fun b hb o e=>(I10.pin (b,o) (List.mem_append_right _ (List.mem_append_right _ (bz hb e)))).1,fun b hb=>?_,w9⟩
   obtain ⟨o,e,d⟩:=T.obj _ _ st7 b hb
   exact (I10.pin (b,o) (List.mem_append_right _ (List.mem_append_right _ (bz hb e)))).2.1
 exact codeAny_compStart_list loop (T.self X.A 0 _ _ _ (T.keep _ _ _ st3 fun b hb o e=>hold b o e) loop)
theorem gc (hcalm:X.calm=true) (hi:PI X (.Name x px) iter wi) (hsc:X.env.scope=sc0) (hN:X.N=N0) (ok:fO sc0 N0 scope x ys fr)
  (hE: ∀ C s H ex,PE (bn X x ys scope C s H ex) elt te) (hs: ∀ v,foldedSetIterable iter X.env v=pure v:=by intro _;rfl):
  PE X (.ListComp elt [⟨.Name x px,iter,[],0⟩] scope pos) (rK wi fr te):=by
 intro pins s σ H Q I h
 rw [eval_ListComp]
 refine jV (use:=none) (Qv:=EP X pins σ Q) (Q:=Q) hcalm hi hsc hN ok hE I h hs fun p C H' s' m I' hn h0 h1 h2 h3 h4 q=>?_
 refine ⟨m,hn,fun h' sb=>⟨.ref p,H',I'.turned (t':=s'.toks) (fun b o hb e=>sb.extBut b o hb e) h0 (Ne.symm (Ne.symm h1)) (.inr h2) h3 h4,rfl,q⟩⟩
theorem cT {i:Nat} {y:Str} {py spos:Pos} (hcalm:X.calm=true) (hnd:X.N.Nodup) (hiN:X.N[i]? =some y) (hy:Loc X.env.scope y) (hi:PI X (.Name x px) iter wi) (hsc:X.env.scope=sc0) (hN:X.N=N0) (ok:fO sc0 N0 scope x ys fr)
  (hE: ∀ C s H ex,PE (bn X x ys scope C s H ex) elt te) (hsw:swapsWith (.ListComp elt [⟨.Name x px,iter,[],0⟩] scope pos) (some (.Name y py)) spos.line X.env=pure true:=by rfl)
  (hs: ∀ v,foldedSetIterable iter X.env v=pure v:=by intro _;rfl) (hf:X.fn y=true\/X.env.scope.names.lookup y=some .local:=by first | exact .inl rfl | exact .inr rfl | assumption):
  PS X (.Assign [.Name y py] (.ListComp elt [⟨.Name x px,iter,[],0⟩] scope pos) spos) (lN (rK wi fr te) (eD i)):=by
 intro pins s σ H D I h
 rw [exec_Assign_Name_used _ _ _ _ hsw]
 refine wpAny_bind (wpAny_standAt (wpAny_bind ?_))
 show wpAny _ X.A (do let _ <- comprehension (.ListComp elt [⟨.Name x px,iter,[],0⟩] scope pos) scope X.env _ (newList []) false (eval iter X.env) (some (assign (.Name y py) X.env))) _ _ s
 refine wpAny_bind (thn (jV (use:=some (assign (.Name y py) X.env)) (Qv:=fun _ s'=>SP X pins D .next s') (Q:=fun v H'=>D.nx (σ.set i (some v)) H') hcalm hi hsc hN ok hE I h hs fun p C H' s' m I' hn h0 h1 h2 h3 h4 q=>?_) fun _ s' hq=>wpAny_pure (wpAny_pure hq))
 show wpAny _ X.A (assign (.Name y py) X.env (.ref p)) _ _ s'
 refine wpAny_assign_Name (eX (v:=.ref p) I' hnd hiN hy rfl (fun s'' I'' ⟨a,sb,ha⟩=>?_) hf)
 have hCa:C≠a:=by
  rcases ha with e | e
  ·rw [e];exact h1
  ·exact (h3 y a e).symm
 refine ⟨m,hn.sameBut sb hCa,fun h' sb'=>⟨_,H',I''.turned (t':=s''.toks) (fun b o hb e=>sb'.extBut b o hb e) h0 h1 (.inr h2) h3 h4,q⟩⟩
theorem fj {n:Nat} {J:It} {H1:Hp} {Q:VK} {R:Nat->V->Prop} (hn:n<=1000) (hgo: ∀ i H,i<n->J.go i H) (hstop: ∀ H,J.stop n H) (hy: ∀ i H v H',J.yld i H v H'->H'=H/\R i v)
  (Pv:Addr->Nat->List V->Hp->Prop) (h0: ∀ p,H1 p=none->Pv p 0 [] (upd H1 p (.lst []))) (hl: ∀ p i zs H,Pv p i zs H->H p=some (.lst zs)/\zs.length=i)
  (hs: ∀ p i zs H v (k:VK),H1 p=none->i<n->R i v->Pv p i zs H->(∀ u H2,H2 p=some (.lst zs)->Pv p (i+1) (zs++[u]) (upd H2 p (.lst (zs++[u])))->k u H2)->te (some v::bJ fr σ) H k)
  (hd: ∀ p zs H,H1 p=none->Pv p n zs H->Q (.ref p) H):fC fr te σ J H1 Q:=by
 intro p hp
 refine ⟨fun i m zs H=>i<=n/\m=n-i/\Pv p i zs H,⟨n,Nat.zero_le _,by simp,h0 p hp⟩,?_⟩
 rintro i m zs H ⟨hi,hm,q⟩
 obtain ⟨hp',hz⟩:=hl p i zs H q
 refine ⟨hp',?_⟩
 by_cases e:i=n
 ·subst e
  exact .inl ⟨hstop H,hd p zs H hp q⟩
 ·have hlt:i<n:=by lia
  refine .inr ⟨hgo i H hlt,ao (by lia),fun v H' hv=>?_⟩
  obtain ⟨rfl,r⟩:=hy i H v H' hv
  refine hs p i zs H' v _ hp hlt r q fun u H2 a b=>?_
  exact ⟨a,n- (i+1),by lia,by lia,rfl,b⟩
theorem lq {lo:Int} {n:Nat}: ∀ i H,i<n->(Itr lo n).go i H:=fun _ _ h=>h
theorem gm {lo:Int} {n:Nat}: ∀ H,(Itr lo n).stop n H:=fun _=>Nat.le_refl n
theorem ip {lo:Int} {n:Nat}: ∀ i H v H',(Itr lo n).yld i H v H'->H'=H/\v=.int (lo+i):=fun _ _ _ _ h=>h
end
section
variable {X:Cx} {e k:Expr} {te tk:TE} {pos p2:Pos}
theorem dA: ∀ (ix:List Nat) {xs:List V} {us:List Value},Vals xs us->Vals (ix.filterMap (xs[·]?)) (ix.filterMap (us[·]?))
 | [],_,_,_=>.nil
 | i::r,xs,us,h=>by
  rw [List.filterMap_cons,List.filterMap_cons]
  cases ex:xs[i]? with
  | none=>
   rw [h.none_of ex]
   exact dA r h
  | some x=>
   obtain ⟨u,eu,ru⟩:=h.get ex
   rw [eu]
   exact .cons ru (dA r h)
noncomputable def eK (n:Nat) (c:Int):List Nat:=sliceRange (sliceBounds none none (some c) n).1 (sliceBounds none none (some c) n).2.1 (sliceBounds none none (some c) n).2.2
noncomputable def gR (xs:List V) (c:Int):List V:=(eK xs.length c).filterMap (xs[·]?)
theorem nK {α:Type} (xs:List α):(List.range xs.length).filterMap (xs[·]?)=xs:=by
 induction xs with
 | nil=>rfl
 | cons x r ih=>
  rw [List.length_cons,List.range_succ_eq_map,List.filterMap_cons,List.filterMap_map]
  show x::List.filterMap ((fun j=>(x::r)[j]?)∘Nat.succ) (List.range r.length)=x::r
  congr 1
theorem nv (n:Nat):eK n 1=List.range n:=by
 unfold eK sliceBounds sliceRange
 simp only [Option.getD_some,show (1:Int) >0 by decide,if_true]
 by_cases h:n=0
 ·subst h
  rfl
 ·rw [if_pos (by lia)]
  have e:(((n:Int) -0+1-1) /1).toNat=n:=by rw [Int.ediv_one];lia
  rw [e]
  conv=>rhs;rw [<- List.map_id (List.range n)]
  apply List.map_congr_left
  intro k hk
  show (0+1* (k:Int)).toNat=k
  lia
theorem pX (xs:List V):gR xs 1=xs:=by
 unfold gR
 rw [nv]
 exact nK xs
theorem nw (n:Nat):eK n (-1)=(List.range n).map fun k=>n-1-k:=by
 unfold eK sliceBounds sliceRange
 simp only [Option.getD_some,show ¬ ((-1:Int) >0) by decide,if_false]
 by_cases h:n=0
 ·subst h
  rfl
 ·rw [if_pos (by lia)]
  have e:(((n:Int) -1- -1- -1-1) / (- -1)).toNat=n:=by
   rw [show (- -1:Int)=1 by decide,Int.ediv_one];lia
  rw [e]
  apply List.map_congr_left
  intro k hk
  have:=List.mem_range.mp hk
  show ((n:Int) -1+ -1* (k:Int)).toNat=n-1-k
  lia
theorem rev_pick {α:Type} (xs:List α):((List.range xs.length).map fun k=>xs.length-1-k).filterMap (xs[·]?)=xs.reverse:=by
 apply List.ext_getElem?
 intro i
 have hall:((List.range xs.length).map fun k=>xs.length-1-k).filterMap (xs[·]?)=(List.range xs.length).filterMap fun k=>xs[xs.length-1-k]? :=by
  rw [List.filterMap_map]
  rfl
 rw [hall]
 have hsome: ∀ (l:List Nat),(∀ k∈l,k<xs.length)-> ∀ j:Nat,(l.filterMap fun k=>xs[xs.length-1-k]?)[j]? =l[j]?.bind fun k=>xs[xs.length-1-k]? :=by
  intro l
  induction l with
  | nil=>intro _ j;rfl
  | cons a r ih=>
   intro hl j
   have ha:=hl a List.mem_cons_self
   have hx:xs[xs.length-1-a]? =some xs[xs.length-1-a]:=List.getElem?_eq_getElem (by lia)
   rw [List.filterMap_cons,hx]
   cases j with
   | zero=>simp [hx]
   | succ j=>
    rw [List.getElem?_cons_succ,List.getElem?_cons_succ]
    exact ih (fun k hk=>hl k (List.mem_cons_of_mem _ hk)) j
 rw [hsome _ (fun k hk=>List.mem_range.mp hk) i]
 by_cases hi:i<xs.length
 ·rw [List.getElem?_range hi,List.getElem?_reverse hi]
  rfl
 ·rw [List.getElem?_eq_none (by simpa using hi),List.getElem?_eq_none (by simpa using hi)]
  rfl
theorem pY (xs:List V):gR xs (-1)=xs.reverse:=by
 unfold gR
 rw [nw]
 exact rev_pick xs
noncomputable def w6 (K:PySem.W.Frag) (te tk:TE):TE:=fun σ H Q=>te σ H fun x H1=>tk σ H1 fun y H2=> ∃ a xs c,x=.ref a/\y=.int c/\SqL K H2 a xs/\c≠0/\ ∀ p,H2 p=none->Q (.ref p) (upd H2 p (.lst (gR xs c)))
theorem uR (he:PE X e te) (hk:PE X k tk):PE X (.Subscript e (.Slice none none (some k) p2) pos) (w6 X.K te tk):=by
 intro pins s σ H Q I h
 refine Subscript_ (thn (he pins s σ H _ I h) fun v s1 ⟨x,H1,I1,r1,q1⟩=>?_)
 refine wpAny_Slice ?_
 rw [evalPart_none,evalPart_some]
 refine wpAny_pure (wpAny_pure ?_)
 refine thn (hk pins s1 σ H1 _ I1 q1) fun vk s3 ⟨y,H3,I3,ry,a,xs,c,ex,ey,hq,hc,q⟩=>?_
 subst ex ey
 obtain ⟨t,rfl⟩:=ry
 cases r1
 have I4:Inv X pins σ H3 {s3 with heap:=s3.heap.push {cls:=.type "slice",data:=.fields #[.none,.none,.int c t]}}:=I3.kept (t':=s3.toks) fun b ob q=>Heap.get?_push_of_some _ q
 obtain ⟨its,r,ht,hz⟩:=I4.list hq
 have hlen:=r.length
 have hpick:slicePick its.toArray none none (some c)=((eK xs.length c).filterMap (its[·]?)).toArray:=by
  unfold slicePick eK
  rw [List.size_toArray,hlen]
  simp
 have hle:(gR xs c).length<=sizeLine:=by
  have h1:=slicePick_size_le its.toArray none none (some c)
  rw [hpick,List.size_toArray,List.size_toArray]at h1
  have h2:=(dA (eK xs.length c) r).length
  unfold gR
  lia
 show wpAny (model X.prog X.w) X.A (subscriptTail e (.Slice none none (some k) p2) (.ref a) (.ref s3.heap.objs.size)) (EP X pins σ Q) X.xe {s3 with heap:=s3.heap.push {cls:=.type "slice",data:=.fields #[.none,.none,.int c t]}}
 refine tail_any (ops:=[.ref a,.ref s3.heap.objs.size]) ht.isList.typeIs slot_list_getitem.lookup (wpAny_getItem_list_slice ht.isList (Heap.IsSliceOf.new ..) .none .none (.int c t) (by simpa using hc) ?_ (by rw [List.size_toArray];lia)) (by with_unfolding_all rfl)
 rw [hpick]
 refine ⟨.ref (s3.heap.push {cls:=.type "slice",data:=.fields #[.none,.none,.int c t]}).objs.size,_,I4.laid (t':=s3.toks) (o:=.lst (gR xs c)) (fun b ob q=>Heap.get?_push_of_some _ q) (Nat.le_refl _) ?_,rfl,q _ I4.fresh⟩
 exact ⟨hle,_,0,dA _ r,Heap.get?_push_size _ rfl⟩
noncomputable def yc:V->Option Int->Option Int->Hp->VK->Prop:=fun x lo hi H Q=> ∃ z,x=.str z/\z.length<=sizeLine/\Q (.str (Txt.slice z lo hi)) H
theorem kj:SlR X yc:=by
 intro pins s σ H x v vl vu lo hi sl Q I rx hs pl pu h
 obtain ⟨z,rfl,hz,q⟩:=h
 obtain ⟨t,rfl⟩:=rx
 refine ⟨"str",_,F.slot_str_getitem.lookup,typeIs_str _ _ _,?_⟩
 have go: ∀ (l u:Option (Int×Tok)),vl=partValue l->vu=partValue u->lo=l.map (·.1)->hi=u.map (·.1)->wpAny (model X.prog X.w) X.A (getItem (.str z t) (.ref sl)) (EP X pins σ Q) X.xe s:=by
  intro l u e1 e2 e3 e4
  subst e1 e2 e3 e4
  refine wpAny_getItem_str_slice (l:=l) (u:=u) (st:=none) hs rfl ?_
  exact post_val_or_str ⟨Nat.le_trans (Txt.slice_le z _ _) hz,fun t' k=>⟨.str (Txt.slice z (l.map (·.1)) (u.map (·.1))),H,I.tok k,⟨t',rfl⟩,q⟩⟩
 cases pl with
 | none=>
  cases pu with
  | none=>exact go none none rfl rfl rfl rfl
  | int j tj=>exact go none (some (j,tj)) rfl rfl rfl rfl
 | int i ti=>
  cases pu with
  | none=>exact go (some (i,ti)) none rfl rfl rfl rfl
  | int j tj=>exact go (some (i,ti)) (some (j,tj)) rfl rfl rfl rfl
open PySem.AutoSeq1 (wpAny_loadPart')in
theorem ou (l:Addr) (items:Array Value) (n:Nat) (b:Addr) (items2:Array Value) (n2:Nat) (dd:Option Addr) (sl:Array (Option Value)) (hs0: ¬(!items.isEmpty&&Builtin.List.listTooLong (items.size+items2.size))=true) (hs1:items.size<=sizeLine) (hs2:items.size+items2.size<=sizeLine+1):
  Meets (Builtin.«list.extend» ⟨[.ref l,.ref b],[]⟩) (fun _ R s=>s.heap.get? l=some {cls:=.type "list",dict:=none,data:=.seq items n,slots:= #[]}/\s.heap.get? b=some {cls:=.type "tuple",dict:=dd,data:=.seq items2 n2,slots:=sl}/\R (.ok (.ret Value.none)) {s with heap:=s.heap.update l (Obj.mapSeq fun x=>x++items2),toks:=s.toks}):=
 .of_wp fun prog w A R s h=>by
  obtain ⟨hp,g,d,tk,os⟩:=s;obtain ⟨hl,hb,h⟩:=h;have f1:=AutoSeq1.idx_int;have f2:=AutoSeq1.sub_tuple_tuple;have f3:=AutoSeq1.sub_list_list;have f4:=AutoSeq1.sub_tuple_list;have f5:=AutoSeq1.sub_list_tuple;
  have hz':(items++items2).size<=sizeLine+1:=by rw [Array.size_append];exact hs2
  wp_walk using (wpAny_updateSeq hl rfl (hz:=hs1) (_hz':=hz')),wpAny_loadPart' hl,wpAny_loadPart' hb;exact ⟨_,rfl,h⟩
noncomputable def xu (K:PySem.W.Frag):V->List V->Hp->VK->Prop:=fun x vs H Q=> ∃ l b xs zs,x=.ref l/\vs=[.ref b]/\H l=some (.lst xs)/\SqT K H b zs/\xs.length+zs.length<=sizeLine/\Q .non (upd H l (.lst (xs++zs)))
theorem u0:MtM X "list.extend" (xu X.K):=by
 intro pins s σ H x vs v us Q I rx rv h
 obtain ⟨l,b,xs,zs,rfl,rfl,hH,hB,hz,q⟩:=h
 cases rx
 obtain ⟨u,rfl,ru⟩:=rv.one
 cases ru
 obtain ⟨z,its,n,r,hl,e⟩:=I.lstM hH
 obtain ⟨its2,r2,ht2,hz2⟩:=I.tuple hB
 obtain ⟨⟨c2,d2,dat2,sl2⟩,e2,hc2,n2,hd2⟩:=ht2
 dsimp only at hc2 hd2
 subst hc2 hd2
 have hl2:=r2.length
 have hsz:its.toArray.size+its2.toArray.size<=sizeLine:=by rw [List.size_toArray,List.size_toArray];lia
 have hlong: ¬ (!its.toArray.isEmpty&&Builtin.List.listTooLong (its.toArray.size+its2.toArray.size))=true:=by
  rw [ml hsz,Bool.and_false]
  exact Bool.false_ne_true
 refine call_meets F.slot_list_extend ⟨_,e,rfl⟩ F.entry_list_extend (F.args_list_extend_2 _ _)
  (ou l its.toArray n b its2.toArray n2 d2 sl2 hlong (by rw [List.size_toArray];lia) (by lia)) ⟨e,e2,?_⟩
 refine ⟨.non,_,I.lset (its':=its++its2) hH e (by simp) (r.append r2) ?_,rfl,q⟩
 rw [List.length_append]
 lia
theorem qk (bs:List Bool):((List.range bs.length).all fun i=>(bs[i]?).getD true)=bs.all id:=by
 induction bs with
 | nil=>rfl
 | cons b r ih=>
  rw [List.length_cons,List.range_succ_eq_map,List.all_cons,List.all_map]
  show (b&&(List.range r.length).all (fun i=>((b::r)[i+1]?).getD true))=(b&&r.all id)
  rw [<- ih]
  rfl
theorem uf (hc:X.calm=true):c5 X (.builtin "all") (fun xs H Q=> ∃ (p:Addr) (bs:List Bool),xs=[.ref p]/\SqL X.K H p (bs.map V.bl)/\Q (.bl (bs.all id)) H):=by
 intro pins s σ H xs us Q I r h
 obtain ⟨p,bs,rfl,hq,q⟩:=h
 obtain ⟨u,rfl,ru⟩:=fq r
 cases ru
 obtain ⟨its,rv,pl,hz⟩:=I.list hq
 have hl:=pl.isList
 have hlt:p<s.heap.objs.size:=by obtain ⟨_,e,_⟩:=hl;exact Heap.lt_size e
 have hn:its.toArray.size=bs.length:=by have:=rv.length;rw [List.length_map]at this;rw [List.size_toArray];lia
 refine call_all_walk (wpAny_pyIter_list hl ?_)
 refine ⟨s.heap.objs.size,[s.heap.objs.size,p],[s.heap.objs.size],its.toArray.size,_,_,fun i=>(bs[i]?).getD true,rfl,Walks.list (A:=X.A.in1) (I.ok.hd hc) _ p (Nat.ne_of_lt hlt) its.toArray,
  ⟨⟨_,Heap.get?_push_size _ rfl,rfl,rfl⟩,hl.push _⟩,fun i v s' Q' E' hP hQ=>?_,fun h' tk hk=>?_⟩
 ·have hv:its[i]? =some v:=by simpa using hP
  have hi:i<bs.length:=by
   have:=(List.getElem?_eq_some_iff.mp hv).1
   have:=rv.length
   rw [List.length_map]at this
   lia
  have hb:(bs.map V.bl)[i]? =some (V.bl bs[i]):=by rw [List.getElem?_map,List.getElem?_eq_getElem hi] <;> rfl
  obtain ⟨u,eu,ru⟩:=rv.get hb
  rw [hv]at eu
  cases eu
  cases (show v=Value.bool bs[i]from ru)
  have hQ':=hQ
  simp only [List.getElem?_eq_getElem hi,Option.getD_some]at hQ'
  exact wpAny_truthy_bool hQ'
 ·rw [hn,qk]
  refine ⟨.bl (bs.all id),H,I.kept (t':=tk) fun b x e=>?_,rfl,q⟩
  exact hk b x (fun hm=>by rw [List.mem_singleton.mp hm]at e;exact Nat.lt_irrefl _ (Heap.lt_size e)) (Heap.get?_push_of_some _ e)
noncomputable def vE (P:Program) (w:World) (K:PySem.W.Frag) (a:Addr) (kvs:List (Key×V)):Prop:=
 (a==sysModules)=false/\ ∀ h:Heap,K.In h-> ∃ vs,KV kvs vs/\h.DictOf (aV P w) a vs
noncomputable def yh (P:Program) (w:World) (K:PySem.W.Frag) (neg:Bool):R2:=fun x y H Q=> ∃ k a kvs,x=kV k/\y=.ref a/\vE P w K a kvs/\Q (.bl (if neg then !(aU kvs k).isSome else (aU kvs k).isSome)) H
theorem wq:OpR X (compareOp .In) (yh X.prog X.w X.K false):=by
 intro pins s σ H x y v u Q I rx ry h
 obtain ⟨k,a,kvs,rfl,rfl,⟨hd,T⟩,q⟩:=h
 cases (show u=Value.ref a from ry)
 obtain ⟨vs,rel,dd⟩:=T _ I.kIn
 refine wpAny_in_of (gZ rx) hd dd.mapOf ?_
 rw [<- (rel.val k).isSome_eq]
 exact ⟨.bl (aU kvs k).isSome,H,I.tok _,rfl,q⟩
end
noncomputable def pi:Expr->Bool
 | .Starred _ _=>false
 | _=>true
theorem jl {e:Expr} {es:List Expr} {env:Env} (h:pi e=true):starEach (e::es) env=(false,eval e env)::starEach es env:=by
 cases e <;> first | rfl | cases h
theorem pac {X:Cx} {e:Expr} {es:List Expr} {te:TE} {t:TA} (ha:PE X e te) (hr:PA X es t) (h:pi e=true:=by rfl):PA X (e::es) (vF te t):=aa ha hr (jl h)
noncomputable def oB:Const->Option V
 | .str x=>some (.str x)
 | .int i=>some (.int i)
 | .bool b=>some (.bl b)
 | .none=>some .non
 | _=>none
noncomputable def gx:List Expr->Option (List V)
 | []=>some []
 | .Constant c _ _::r=>(match oB c,gx r with | some v,some vs=>some (v::vs) | _,_=>none)
 | _::_=>none
theorem sJ {X:Cx} {c:Const} {j:Nat} {pos:Pos} {v:V} (h:oB c=some v):PE X (.Constant c j pos) (tC v):=by
 cases c with
 | str x=>cases h;exact aL
 | int i=>cases h;exact ai
 | bool b=>cases h;exact gW
 | none=>cases h;exact nQ
 | _=>cases h
theorem jL {X:Cx}: ∀ {es:List Expr} {vs:List V},gx es=some vs->PA X es (fun _ H Q=>Q vs H)
 | [],vs,h=>by
  cases h
  exact ad
 | e::r,vs,h=>by
  cases e with
  | Constant c j pos=>
   simp only [gx]at h
   cases hc:oB c with
   | none=>rw [hc]at h;cases h
   | some v=>
    cases hr:gx r with
    | none=>rw [hc,hr]at h;cases h
    | some ws=>
     rw [hc,hr]at h
     cases h
     exact pac (sJ hc) (jL hr)
  | _=>cases h
theorem uP {X:Cx} {i:Nat} {x:Str} {es:List Expr} {vs:List V} {pos p pos':Pos} (hN:X.N.Nodup) (hi:X.N[i]? =some x) (hx:Loc X.env.scope x) (hf:X.fn x=true\/X.env.scope.names.lookup x=some .local) (h:gx es=some vs):
  PS X (.Assign [.Name x pos'] (.List es p) pos) (lN (xc (fun _ H Q=>Q vs H)) (eD i)):=
 am hN hi hx (bc (jL h)) rfl hf
end L2
namespace HT
open PySem PyProof.Rows
section
variable {prog:Program} {w:World} {A:Around} {s:Shared} {E:Value->Shared->Prop}
theorem mV (n:Nat):Builtin.Slice.sliceAdjust none none (-1) (n:Int)=((n:Int) -1,-1):=by
 unfold Builtin.Slice.sliceAdjust
 simp
theorem l9 (n:Nat):Builtin.Slice.slicePlaces ((n:Int) -1) (-1) (-1)=n:=by
 unfold Builtin.Slice.slicePlaces
 have h1: ¬ ((-1:Int) >0):=by lia
 simp only [h1,if_false]
 rw [show (- -1:Int)=1 by decide,Int.ediv_one]
 split <;> lia
theorem lC {sl:Addr} {t:Tok} {n:Nat} {Q:Int×Int×Nat->Shared->Prop} (hs:s.heap.IsSliceOf sl .none .none (.int (-1) t)) (h:Q ((n:Int) -1,-1,n) s):
  wpAny (model prog w) A (Builtin.Slice.sliceApplied (.ref sl) (pure (n:Int))) Q E s:=by
 obtain ⟨os,hos,hcs,hds⟩:=id hs
 unfold Builtin.Slice.sliceApplied Builtin.Slice.sliceFields
 refine wpAny_bind (wpAny_bind (wpAny_field hos hds (x:=.none) rfl (wpAny_bind (wpAny_field hos hds (x:=.none) rfl (wpAny_bind (wpAny_field hos hds (x:=.int (-1) t) rfl (wpAny_pure ?_)))))))
 refine wpAny_bind (dg (.int (-1) t) ?_)
 show wpAny _ _ (if ((-1:Int)==0)=true then _ else _) _ _ s
 rw [if_neg (by decide)]
 refine wpAny_bind (dg .none (wpAny_bind (dg .none (wpAny_bind (wpAny_pure ?_)))))
 show wpAny _ _ (match Builtin.Slice.sliceAdjust none none (-1) (n:Int)with | (lo,hi)=>pure (lo,(-1:Int),Builtin.Slice.slicePlaces lo hi (-1))) _ _ s
 rw [mV n]
 show wpAny _ _ (pure ((n:Int) -1,(-1:Int),Builtin.Slice.slicePlaces ((n:Int) -1) (-1) (-1))) _ _ s
 rw [l9]
 exact wpAny_pure h
theorem my {α β:Type} {f g:α->Option β}: ∀ {l:List α},(∀ x∈l,f x=g x)->l.filterMap f=l.filterMap g
 | [],_=>rfl
 | x::r,h=>by rw [List.filterMap_cons,List.filterMap_cons,h x List.mem_cons_self,my fun y hy=>h y (List.mem_cons_of_mem _ hy)]
theorem qo (xs:Array Value):((List.range xs.size).filterMap fun (m:Nat)=>xs[((xs.size:Int) -1+ (m:Int) * -1).toNat]?).toArray=xs.toList.reverse.toArray:=by
 congr 1
 rw [<- L2.rev_pick xs.toList,List.filterMap_map,Array.length_toList]
 refine my fun m hm=>?_
 have:=List.mem_range.mp hm
 have e:((xs.size:Int) -1+ (m:Int) * -1).toNat=xs.size-1-m:=by lia
 rw [e]
 simp
theorem getItem_tuple_back {a sl:Addr} {items:Array Value} {t:Tok} {Q:Value->Shared->Prop} (ht:IsTup s.heap a items) (hs:s.heap.IsSliceOf sl .none .none (.int (-1) t))
  (h:Q (.ref s.heap.objs.size) {s with heap:=s.heap.push {cls:=.type "tuple",data:=.seq items.toList.reverse.toArray}})
  (hsz:items.size<=sizeLine):wpAny (model prog w) A (getItem (.ref a) (.ref sl)) Q E s:=by
 have hok:sizeOk (.seq items.toList.reverse.toArray):=by
  show items.toList.reverse.toArray.size<=sizeLine
  rw [List.size_toArray,List.length_reverse,Array.length_toList]
  exact hsz
 obtain ⟨os,hos,hcs,hds⟩:=id hs
 have hTs:s.TypeIs (.ref sl) "slice":=⟨os,hos,hcs⟩
 unfold getItem
 try with_reducible refine wpAny_holding ?_
 first | refine wpAny_bind (wpAny_pure ?_) | skip
 refine wpAny_bind (wpAny_sequenceKey ht.typeIs (by decide) ?_)
 refine wpAny_bind (wpAny_callSpecial?_slot (name:=Str.ofString "__getitem__") ht.typeIs PyProof.Rows.slot_tuple_getitem
  (wpAny_call_entry PyProof.Rows.slot_tuple_getitem ht.typeIs entry_tuple_getitem ?_ (args_tuple_getitem _ _)))
 show wpAny _ _ (Builtin.Tuple.tupleItemsOf (.ref a) >>= _) _ _ s
 refine wpAny_bind (tupleItemsOf_ ht ?_)
 refine wpAny_bind (wpAny_typeOf hTs ?_)
 rw [if_pos (by decide)]
 refine wpAny_bind (lC hs ?_)
 show wpAny _ _ (if (((items.size:Int) -1)==0&&(-1:Int)==1&&items.size==items.size)=true then _ else _) _ _ s
 rw [if_neg (by simp),qo]
 first
  | exact wpAny_bind (m:=Builtin.Tuple.tupleExact _) (wpAny_newObj_type (wpAny_pure ⟨_,rfl,wpAny_pure h⟩) hok)
  | exact wpAny_bind (m:=Builtin.Tuple.tupleExact _) (wpAny_newObj_type (wpAny_bind (wpAny_pure (wpAny_pure ⟨_,rfl,wpAny_pure h⟩))) hok)
  | exact wpAny_bind (wpAny_bind (m:=Builtin.Tuple.tupleExact _) (wpAny_newObj_type (wpAny_pure (wpAny_pure ⟨_,rfl,wpAny_pure h⟩)) hok))
  | exact wpAny_bind (wpAny_bind (m:=Builtin.Tuple.tupleExact _) (wpAny_newObj_type (wpAny_pure ⟨_,rfl,wpAny_pure h⟩) hok))
end
end HT
namespace L2
open PySem PySem.Spec PyProof.Rows
section
variable {X:Cx} {e k:Expr} {te tk:TE} {pos p2:Pos}
noncomputable def vX (K:PySem.W.Frag) (te tk:TE):TE:=fun σ H Q=>te σ H fun x H1=>tk σ H1 fun y H2=> ∃ a xs,x=.ref a/\y=.int (-1)/\SqT K H2 a xs/\ ∀ p,H2 p=none->Q (.ref p) (upd H2 p (.tup xs.reverse))
theorem rm {xs:List V} {us:List Value} (h:Vals xs us):Vals xs.reverse us.reverse:=by
 rw [<- rev_pick xs,<- rev_pick us,h.length]
 exact dA _ h
theorem sN (he:PE X e te) (hk:PE X k tk):PE X (.Subscript e (.Slice none none (some k) p2) pos) (vX X.K te tk):=by
 intro pins s σ H Q I h
 refine Subscript_ (thn (he pins s σ H _ I h) fun v s1 ⟨x,H1,I1,r1,q1⟩=>?_)
 refine wpAny_Slice ?_
 rw [evalPart_none,evalPart_some]
 refine wpAny_pure (wpAny_pure ?_)
 refine thn (hk pins s1 σ H1 _ I1 q1) fun vk s3 ⟨y,H3,I3,ry,a,xs,ex,ey,hq,q⟩=>?_
 subst ex ey
 obtain ⟨t,rfl⟩:=ry
 cases r1
 have I4:Inv X pins σ H3 {s3 with heap:=s3.heap.push {cls:=.type "slice",data:=.fields #[.none,.none,.int (-1) t]}}:=I3.kept (t':=s3.toks) fun b ob q=>Heap.get?_push_of_some _ q
 obtain ⟨its,r,ht,hz⟩:=I4.tuple hq
 show wpAny (model X.prog X.w) X.A (subscriptTail e (.Slice none none (some k) p2) (.ref a) (.ref s3.heap.objs.size)) (EP X pins σ Q) X.xe {s3 with heap:=s3.heap.push {cls:=.type "slice",data:=.fields #[.none,.none,.int (-1) t]}}
 refine tail_any (ops:=[.ref a,.ref s3.heap.objs.size]) ht.typeIs PyProof.Rows.slot_tuple_getitem.lookup (HT.getItem_tuple_back ht (Heap.IsSliceOf.new ..) ?_ (by rw [List.size_toArray,<- r.length];exact hz)) (by with_unfolding_all rfl)
 refine ⟨.ref (s3.heap.push {cls:=.type "slice",data:=.fields #[.none,.none,.int (-1) t]}).objs.size,_,I4.laid (t':=s3.toks) (o:=.tup xs.reverse) (fun b ob q=>Heap.get?_push_of_some _ q) (Nat.le_refl _) ?_,rfl,q _ I4.fresh⟩
 exact ⟨by rw [List.length_reverse];exact hz,_,rm r,IsTup.new _ _⟩
end
section
variable {X:Cx}
noncomputable def lO:List Int->Int
 | []=>0
 | n::r=>n+lO r
end
end L2
namespace HT
open PySem PyProof.Rows
section
variable {prog:Program} {w:World} {A:Around} {s:Shared} {E:Value->Shared->Prop} {d j:Addr} {ks:List Value} {i ep:Nat}
noncomputable def DEs (h:Heap) (d:Addr) (ks:List Value) (ep:Nat):Prop:= ∃ o es,h.get? d=some o/\o.ExactDict/\o.data=.dict es ep/\es.toList.map (·.key)=ks
theorem DEs.type (m:DEs s.heap d ks ep):s.TypeIs (.ref d) "dict":=by
 obtain ⟨o,_,ho,hc,_⟩:=m
 exact ⟨o,ho,hc.1⟩
theorem DEs.keeps {h h':Heap} (m:DEs h d ks ep) (k: ∀ o,h.get? d=some o->h'.get? d=some o):DEs h' d ks ep:=by
 obtain ⟨o,es,ho,r⟩:=m
 exact ⟨o,es,k o ho,r⟩
theorem DEs.lt {h:Heap} (m:DEs h d ks ep):d<h.objs.size:=by
 obtain ⟨o,es,ho,_⟩:=m
 exact Heap.lt_size ho
theorem fb {es:Array DictEntry} (e:es.toList.map (·.key)=ks):es.size=ks.length:=by
 rw [<- e,List.length_map,Array.length_toList]
theorem iter_des {Q:Value->Shared->Prop} (lo:(d==sysModules)=false) (m:DEs s.heap d ks ep)
  (q:Q (.ref s.heap.objs.size) {s with heap:=s.heap.push {cls:=.type "dict_keyiterator",data:=.fields #[.ref d,.int 0 0,.int ks.length 0,.int ep 0]}}):wpAny (model prog w) A (pyIter (.ref d)) Q E s:=by
 have ty:=m.type
 obtain ⟨o,es,ho,hc,hdat,hk⟩:=m
 refine wpAny_pyIter_slot ty PySem.F.slot_dict_iter (wpAny_call_entry PySem.F.slot_dict_iter ty PySem.F.entry_dict_iter ?_ (PySem.F.args_dict_iter_1 _))
 unfold Builtin.«dict.__iter__» Builtin.Dict.dictSlotNone
 refine wpAny_bind (wpAny_bind (wpAny_notOrdered_dict ty ?_))
 refine wpAny_pure (show wpAny _ _ (Builtin.Dict.showsAll d >>= _) _ _ s from ?_)
 unfold Builtin.Dict.showsAll
 rw [if_neg (by rw [lo];exact Bool.false_ne_true)]
 refine wpAny_bind (wpAny_pure (wpAny_bind (wpAny_dictEntries ho hdat (wpAny_bind (wpAny_dictEpoch ho hdat ?_)))))
 refine wpAny_bind (wpAny_newObj_type (wpAny_pure ⟨_,rfl,"dict_keyiterator",_,⟨_,Heap.get?_push_size _ rfl,rfl⟩,PySem.F.slot_dict_keyiterator_next.lookup,?_⟩))
 simpa [rawInt,fb hk]using q
theorem next_des {x:Value} {Q:Option Value->Shared->Prop} (st:s.heap.IsKeyIter j d i ks.length ep) (m:DEs s.heap d ks ep) (hx:ks[i]? =some x)
  (q: ∀ h',h'.IsKeyIter j d (i+1) ks.length ep->Heap.SameBut j s.heap h'->Q (some x) {s with heap:=h'}):wpAny (model prog w) A (pyNext (.ref j)) Q E s:=by
 have ty:=st.typeIs
 obtain ⟨o,ho,hc,hd⟩:=id st
 obtain ⟨od,es,hod,hcd,hdd,hk⟩:=m
 have hz:=fb hk
 have hlt:i<ks.length:=(List.getElem?_eq_some_iff.mp hx).1
 have hes:i<es.size:=by lia
 have hkey:es[i].key=x:=by
  have e1:(es.toList.map (·.key))[i]? =some x:=by rw [hk];exact hx
  rw [List.getElem?_map,Array.getElem?_toList,Array.getElem?_eq_getElem hes]at e1
  exact Option.some.inj e1
 unfold pyNext
 refine wpAny_bind (wpAny_attempt (wpAny_callSpecial?_slot (name:=Str.ofString "__next__") ty PySem.F.slot_dict_keyiterator_next (wpAny_call_entry PySem.F.slot_dict_keyiterator_next ty PySem.F.entry_dict_keyiterator_next ?_ (PySem.F.args_dict_keyiterator_next_1 _))))
 refine wpAny_bind (wpAny_pure (wpAny_bind (wpAny_bind ?_)))
 first | refine wpAny_bind (wpAny_typeNameOfWhole_keyiter ty (wpAny_pure (wpAny_bind (wpAny_fieldsOf ho hd ?_)))) | refine wpAny_bind (wpAny_typeNameOf_keyiter ty (wpAny_pure (wpAny_bind (wpAny_fieldsOf ho hd ?_))))
 have own:Builtin.Dict_items.ownsTuple "dict_keyiterator"=false:=by decide
 simp only [own,Bool.false_eq_true,if_false]
 refine (show wpAny _ _ (if (Value.ref d==Value.none)=true then _ else _) _ _ s from ?_)
 rw [if_neg fun b0:(Value.ref d==Value.none)=true=>Bool.false_ne_true b0]
 refine wpAny_bind (wpAny_pure (wpAny_bind (wpAny_dictEntries hod hdd ?_)))
 rw [if_neg (by rw [hz];simp)]
 refine wpAny_bind (wpAny_pure (wpAny_bind (wpAny_dictEpoch hod hdd ?_)))
 rw [if_neg (by simp)]
 refine wpAny_pure ?_
 simp only [show ¬ ((i:Int) <0)from by lia,if_false,Int.toNat_natCast,Array.getElem?_eq_getElem hes]
 refine wpAny_bind ?_
 first | refine wpAny_bind (wpAny_typeNameOfWhole_keyiter ty (wpAny_pure (wpAny_bind (wpAny_isOneOf_keyiter ty ?_)))) | refine wpAny_bind (wpAny_typeNameOf_keyiter ty (wpAny_pure (wpAny_bind (wpAny_isOneOf_keyiter ty ?_))))
 refine (show wpAny _ _ (setField (.ref j) 1 (rawInt ((i:Int) +1)) >>= _) _ _ s from ?_)
 refine wpAny_bind (wpAny_setField ho hd (by simp) ?_)
 have st':(s.heap.update j (Obj.mapFields (·.setIfInBounds 1 (rawInt ((i:Int) +1))))).IsKeyIter j d (i+1) ks.length ep:=by
  refine ⟨_,Heap.get?_update_self _ ho (Obj.isFreed_of_fields (Obj.data_mapFields hd _)),(Obj.cls_mapFields ..).trans hc,?_⟩
  rw [Obj.data_mapFields hd];simp [rawInt]
 refine wpAny_bind (wpAny_holding (wpAny_bind (wpAny_isOneOf_keyiter (s:={s with heap:=s.heap.update j (Obj.mapFields (·.setIfInBounds 1 (rawInt ((i:Int) +1))))}) st'.typeIs ?_)))
 refine (show wpAny _ _ (pure es[i].key) _ _ _ from ?_)
 rw [hkey]
 exact wpAny_pure (wpAny_pure ⟨_,rfl,wpAny_pure (q _ st' (Heap.SameBut.update ..))⟩)
theorem end_des {Q:Option Value->Shared->Prop} (hh:A.handled=none) (st:s.heap.IsKeyIter j d i ks.length ep) (m:DEs s.heap d ks ep) (hx:ks.length<=i)
  (q: ∀ h',Heap.ExtBut j s.heap h'->Q none {s with heap:=h'}):wpAny (model prog w) A (pyNext (.ref j)) Q E s:=by
 have ty:=st.typeIs
 obtain ⟨o,ho,hc,hd⟩:=id st
 obtain ⟨od,es,hod,hcd,hdd,hk⟩:=m
 have hz:=fb hk
 unfold pyNext
 refine wpAny_bind (wpAny_attempt (wpAny_callSpecial?_slot (name:=Str.ofString "__next__") ty PySem.F.slot_dict_keyiterator_next (wpAny_call_entry PySem.F.slot_dict_keyiterator_next ty PySem.F.entry_dict_keyiterator_next ?_ (PySem.F.args_dict_keyiterator_next_1 _))))
 refine wpAny_bind (wpAny_pure (wpAny_bind (wpAny_bind ?_)))
 first | refine wpAny_bind (wpAny_typeNameOfWhole_keyiter ty (wpAny_pure (wpAny_bind (wpAny_fieldsOf ho hd ?_)))) | refine wpAny_bind (wpAny_typeNameOf_keyiter ty (wpAny_pure (wpAny_bind (wpAny_fieldsOf ho hd ?_))))
 have own:Builtin.Dict_items.ownsTuple "dict_keyiterator"=false:=by decide
 simp only [own,Bool.false_eq_true,if_false]
 refine (show wpAny _ _ (if (Value.ref d==Value.none)=true then _ else _) _ _ s from ?_)
 rw [if_neg fun b0:(Value.ref d==Value.none)=true=>Bool.false_ne_true b0]
 refine wpAny_bind (wpAny_pure (wpAny_bind (wpAny_dictEntries hod hdd ?_)))
 rw [if_neg (by rw [hz];simp)]
 refine wpAny_bind (wpAny_pure (wpAny_bind (wpAny_dictEpoch hod hdd ?_)))
 rw [if_neg (by simp)]
 refine wpAny_pure ?_
 have hge:es.size<=i:=by lia
 simp only [show ¬ ((i:Int) <0)from by lia,if_false,Int.toNat_natCast,Array.getElem?_eq_none hge]
 refine wpAny_bind ?_
 first | refine wpAny_bind (wpAny_typeNameOfWhole_keyiter ty (wpAny_pure ?_)) | refine wpAny_bind (wpAny_typeNameOf_keyiter ty (wpAny_pure ?_))
 refine (show wpAny _ _ (setField (.ref j) 0 .none >>= _) _ _ s from wpAny_bind (wpAny_setField ho hd (by simp) ?_))
 refine (show wpAny _ _ (newExc (.type "StopIteration") [] >>= _) _ _ _ from wpAny_bind ?_)
 simp only [newExc,newTuple]
 refine wpAny_bind (wpAny_newObj_type (wpAny_bind (m:=firstArgMember _ _) (wpAny_of_eq (a:=Value.none) (by first | rfl | (simp only [firstArgMember];rfl)) (wpAny_newObj_type ?_ (by size_fits)))) (by size_fits))
 simp only [raiseNew]
 refine wpAny_bind (wpAny_handled ?_)
 rw [show A.in1.handled=none from hh]
 refine (wpAny_bind (wpAny_pure (wpAny_throw (?_))))
 refine wpAny_bind (wpAny_isInstance (T:="StopIteration") (b:=true) ⟨_,Heap.get?_push_size _ rfl,rfl⟩ isSubtype_stop (wpAny_pure (q _ ?_)))
 exact ((Heap.SameBut.update ..).extBut.push _).push _
theorem pT (hh:A.handled=none) (hne:d≠j):Walks prog w A j [j,d] [j] ks.length (fun i v=>ks[i]? =some v) (fun i h=>h.IsKeyIter j d i ks.length ep/\DEs h d ks ep) where
 sub:=fun b hb=>by rw [List.mem_singleton.mp hb];exact List.mem_cons_self
 frame:=fun _ _ _ st k=>⟨st.1.at fun o e=>k j (by simp) o e,st.2.keeps fun o e=>k d (by simp) o e⟩
 item:=fun i s Q E hi st hQ=>by
  have hx:ks[i]? =some ks[i]:=List.getElem?_eq_getElem hi
  refine next_des st.1 st.2 hx fun h' st' sb=>?_
  exact hQ _ h' s.toks hx ⟨st',st.2.keeps fun o e=>sb.extBut d o hne e⟩ fun b o hb e=>sb.extBut b o (fun z=>hb (by rw [z];exact List.mem_cons_self)) e
 done:=fun s Q E st hQ=>end_des hh st.1 st.2 (Nat.le_refl _) fun h' eb=>hQ h' s.toks fun b o hb e=>eb b o (fun z=>hb (by rw [z];exact List.mem_cons_self)) e
 self:=fun _ _ _ _ st hQ=>wpAny_pyIter_keyiter st.1 hQ
theorem src_des (lo:(d==sysModules)=false):PySem.W.KdlSrc prog w "dict" d d ks.length (fun i v=>ks[i]? =some v) (fun h=>DEs h d ks ep) where
 type:=fun _ m=>m.type
 there:=fun _ m=>⟨m.lt,m.lt⟩
 keep:=fun _ _ m k=>m.keeps fun o e=>k d (.inl rfl) o e
 notList:=by decide
 notTuple:=by decide
 hint:=fun _ _ _ _ m q=>PySem.W.kdl_hint_dict m.type q
 iter:=fun _ _ hh m=>⟨_,_,fun _ _ q=>iter_des lo m q,pT hh (Nat.ne_of_lt m.lt),⟨⟨_,Heap.get?_push_size _ rfl,rfl,rfl⟩,m.keeps fun o e=>Heap.get?_push_of_some _ e⟩⟩
end
end HT
namespace L2
open PySem PySem.Spec PyProof.Rows
section
variable {X:Cx}
noncomputable def KsOf (H:Hp):List V->List (List Key)->Prop:=Paired fun y ks=> ∃ b,y=.ref b/\H b=some (.tup (ks.map kV))
theorem KsOf.mono {H H':Hp} {ys:List V} {kss:List (List Key)} (h:KsOf H ys kss) (t: ∀ b xs,H b=some (.tup xs)->H' b=some (.tup xs)):KsOf H' ys kss:=
 Paired.mapP h fun _ _ ⟨b,e,hb⟩=>⟨b,e,t _ _ hb⟩
theorem tO {H:Hp} {kvs:List (List Key×V)} {xs:List (List Key×Addr×Value)} (r:KT H kvs xs):KsOf H (xs.map fun q=>V.ref q.2.1) (kvs.map (·.1)):=by
 induction r with
 | nil=>exact .nil
 | cons h _ ih=>exact .cons ⟨_,rfl,h.2.1⟩ ih
theorem oE (hc:X.calm=true):c5 X (.type "list") (fun xs H Q=> ∃ a kvs,xs=[.ref a]/\H a=some (.dT kvs)/\ ∀ p ys,H p=none->KsOf H ys (kvs.map (·.1))->Q (.ref p) (upd H p (.lst ys))):=by
 intro pins s σ H xs us Q I r h
 obtain ⟨a,kvs,rfl,ha,q⟩:=h
 obtain ⟨u,rfl,ru⟩:=fq r
 cases ru
 obtain ⟨hz,lo,ys,kt,o,es,ep,h1,h2,h3,h4,h5⟩:=(show ObjOk X.prog X.w H s.heap a (.dT kvs)from I.hok a _ ha)
 have hm:HT.DEs s.heap a (ys.map fun q=>Value.ref q.2.1) ep:=by
  refine ⟨o,es,h1,h2,h3,?_⟩
  rw [h4,List.map_map]
  rfl
 have hl:ys.length=kvs.length:=(Paired.length kt).symm
 refine PySem.W.kdl_call (HT.src_des lo) (I.ok.hd hc) hm (by rw [List.length_map];lia) fun h' tk acc c' kp e hi=>?_
 obtain ⟨i1,i2⟩:=hi
 have hacc:acc.toList=ys.map fun q=>Value.ref q.2.1:=by
  refine List.ext_getElem? fun i=>?_
  rw [Array.getElem?_toList]
  cases hv:acc[i]? with
  | some v=>exact (i2 i v hv).symm
  | none=>
   have:acc.size<=i:=Array.getElem?_eq_none_iff.mp hv
   exact (List.getElem?_eq_none (by rw [<- i1];exact this)).symm
 have rv:Vals (ys.map fun q=>V.ref q.2.1) (ys.map fun q=>Value.ref q.2.1):=by
  clear kt h4 h5 hl i1 i2 hacc hm
  induction ys with
  | nil=>exact .nil
  | cons y r ih=>exact .cons rfl ih
 refine ⟨.ref s.heap.objs.size,_,I.laid (t':=tk) (o:=.lst (ys.map fun q=>V.ref q.2.1)) kp (Nat.le_refl _) ?_,rfl,q _ _ (I.hok.fresh (Nat.le_refl _)) (tO kt)⟩
 refine ⟨by rw [List.length_map];lia,_,c',rv,?_⟩
 rw [<- hacc,Array.toArray_toList]
 exact e
end
section
variable {X:Cx}
theorem qq (hu:X.A.units<cLine):OpR X (compareOp .NotEq) (fun x y H Q=> ∃ a b xs,x=.ref a/\y=.ref b/\SqL X.K H a xs/\SqL X.K H b []/\Q (.bl (!xs.isEmpty)) H):=by
 intro pins s σ H x y v u Q I rx ry h
 obtain ⟨a,b,xs,rfl,rfl,ha,hb,q⟩:=h
 cases rx
 cases ry
 obtain ⟨its,r,pl,_⟩:=I.list ha
 obtain ⟨its2,r2,pl2,_⟩:=I.list hb
 cases r2
 cases r with
 | nil=>exact SeqAt.RcNeAt.lists (e:=fun _=>true) pl.isList pl2.isList rfl hu (fun j h1 _=>absurd h1 (Nat.not_lt_zero _)) X.prog X.w X.xe _ ⟨.bl _,H,I,rfl,q⟩
 | cons r1 t=>exact SeqAt.RcNeAt.lists_lengths pl.isList pl2.isList (by simp) hu X.prog X.w X.xe _ ⟨.bl _,H,I,rfl,q⟩
instance yJ (ks:List Key) (kss:List (List Key)):Decidable (ks∈kss):=decidable_of_iff (kss.any (fun l=>decide (l=ks))=true) ⟨fun h=>by
  obtain ⟨x,hx,e⟩:=List.any_eq_true.mp h
  rw [<- of_decide_eq_true e]
  exact hx,fun h=>List.any_eq_true.mpr ⟨ks,h,decide_eq_true rfl⟩⟩
theorem pz {P P':Program} {w w':World} {H:Hp} {h:Heap} {a:Addr} {ks:List Key} (ok:HOk P w H h) (e:H a=some (.tup (ks.map kV))):IsTupleKey (aV P' w') h ks a:=by
 obtain ⟨_,its,r,o,h1,h2,n,h3⟩:=(show ObjOk P w H h a (.tup (ks.map kV))from ok a _ e)
 exact ⟨o,its.toArray,n,h1,h2,h3,by simpa using gM r⟩
noncomputable def tQ (H:Hp) (ks:List Key):Value->Bool
 | .ref b=>(match H b with | some (.tup xs)=>decide (xs=ks.map kV) | _=>false)
 | _=>false
theorem pG {H:Hp} {b:Addr} {ks ls:List Key} (h:H b=some (.tup (ls.map kV))):tQ H ks (.ref b)=decide (ls=ks):=by
 show (match H b with | some (.tup xs)=>decide (xs=ks.map kV) | _=>false)=_
 rw [h]
 show decide (ls.map kV=ks.map kV)=decide (ls=ks)
 by_cases e:ls=ks
 ·rw [decide_eq_true e,decide_eq_true (by rw [e])]
 ·rw [decide_eq_false e,decide_eq_false fun z=>e (pD z)]
theorem wV {H:Hp} {ks:List Key} {ys:List V} {us:List Value} {kss:List (List Key)} (r:Vals ys us) (h:KsOf H ys kss):us.any (tQ H ks)=decide (ks∈kss):=by
 induction r generalizing kss with
 | nil=>cases h;exact (decide_eq_false (by simp)).symm
 | @cons y u ys us r1 t ih=>
  cases h with
  | @cons _ ls _ kss h1 t2=>
   obtain ⟨b,rfl,hb⟩:=h1
   cases (show u=Value.ref b from r1)
   rw [List.any_cons,pG hb,ih t2]
   by_cases e:ls=ks
   ·have m:ks∈ls::kss:=by rw [e];exact List.mem_cons_self
    rw [decide_eq_true e,decide_eq_true m,Bool.true_or]
   ·rw [decide_eq_false e,Bool.false_or]
    refine decide_eq_decide.mpr ⟨fun h=>List.mem_cons_of_mem _ h,fun h=>?_⟩
    rcases List.mem_cons.mp h with z | z
    ·exact absurd z.symm e
    ·exact z
theorem wu {H:Hp} {ys:List V} {us:List Value} {kss:List (List Key)} (r:Vals ys us) (h:KsOf H ys kss): ∀ u∈us,∃ (b:Addr) (ls:List Key),u=.ref b/\H b=some (.tup (ls.map kV)):=by
 induction r generalizing kss with
 | nil=>intro u hu;cases hu
 | @cons y u ys us r1 t ih=>
  cases h with
  | cons h1 t2=>
   intro v hv
   rcases List.mem_cons.mp hv with e | e
   ·obtain ⟨b,rfl,hb⟩:=h1
    exact ⟨b,_,e.trans (show u=Value.ref b from r1),hb⟩
   ·exact ih t2 v e
noncomputable def xt (K:PySem.W.Frag) (neg:Bool):R2:=fun x y H Q=> ∃ a p ks ys kss,x=.ref a/\y=.ref p/\H a=some (.tup (ks.map kV))/\SqL K H p ys/\KsOf H ys kss/\Q (.bl (if neg then !decide (ks∈kss)else decide (ks∈kss))) H
theorem me (hu:X.A.units+1<cLine):OpR X (compareOp .NotIn) (xt X.K true):=by
 intro pins s σ H x y v u Q I rx ry h
 obtain ⟨a,p,ks,ys,kss,rfl,rfl,ha,hp,hk,q⟩:=h
 cases rx
 cases ry
 obtain ⟨its,r,pl,hz⟩:=I.list hp
 refine SeqAt.notIn_listAt (tQ H ks) pl.isList (fun w hw=>?_) ⟨.bl _,H,I,rfl,?_⟩
 ·obtain ⟨b,ls,rfl,hb⟩:=wu r hk w (by simpa using hw)
  rw [pG hb]
  exact fun prog w' E Q hq=>wpAny_eqBool_tuple (show X.A.units+1<cLine from hu) (pz I.hok hb) (pz I.hok ha) hq
 ·rw [show its.toArray.any (tQ H ks)=its.any (tQ H ks) by simp,wV r hk]
  exact q
theorem ik (K:PySem.W.Frag) (t:String) (ht:t∈["NoneType","bool","int","str","list","tuple","dict"]):
  PySem.W.kitAny K (.type t) [.type "tuple",.type "list"]=some (t=="tuple"||t=="list"):=by
 simp only [List.mem_cons,List.not_mem_nil,or_false]at ht
 rcases ht with rfl | rfl | rfl | rfl | rfl | rfl | rfl <;> first | rfl | (with_unfolding_all rfl) | (with_unfolding_all decide)
inductive TL (H:Hp):V->Bool->Prop where
 | str (z:Str):TL H (.str z) false
 | int (i:Int):TL H (.int i) false
 | tup {a:Addr} {xs:List V}:H a=some (.tup xs)->TL H (.ref a) true
 | lst {a:Addr} {xs:List V}:H a=some (.lst xs)->TL H (.ref a) true
theorem qX:c5 X (.builtin "isinstance") (fun xs H Q=> ∃ x p b,xs=[x,.ref p]/\H p=some (.tup [.ty "tuple",.ty "list"])/\TL H x b/\Q (.bl b) H):=by
 intro pins s σ H xs us Q I r h
 obtain ⟨x,p,b,rfl,hp,ty,q⟩:=h
 obtain ⟨u,w',rfl,rx,rp⟩:=iz r
 cases (show w'=Value.ref p from rp)
 obtain ⟨_,its,rv,o,h1,h2,n,h3⟩:=(show ObjOk X.prog X.w H s.heap p (.tup [.ty "tuple",.ty "list"])from I.hok p _ hp)
 obtain ⟨u1,u2,rfl,r1,r2⟩:=iz rv
 cases (show u1=Value.type "tuple" from r1)
 cases (show u2=Value.type "list" from r2)
 obtain ⟨c,d,dt,sl⟩:=o
 simp only at h2 h3
 subst h2 h3
 have k: ∀ tk,EP X pins σ Q (.bool b) {s with toks:=tk}:=fun tk=>⟨.bl b,H,I.tok tk,rfl,q⟩
 cases ty with
 | int i=>
  obtain ⟨t,e⟩:=(show ∃ t,u=Value.int i t from rx)
  cases e
  exact PySem.W.kia_tup PySem.W.kitx_int I.kIn True.intro h1 (ik _ "int" (by simp)) (fun z=>nomatch z) k
 | str y=>
  obtain ⟨t,e⟩:=(show ∃ t,u=Value.str y t from rx)
  cases e
  exact PySem.W.kia_tup PySem.W.kitx_str I.kIn True.intro h1 (ik _ "str" (by simp)) (fun z=>nomatch z) k
 | @lst a xs ea=>
  cases (show u=Value.ref a from rx)
  obtain ⟨_,_,_,_,h4⟩:=(show ObjOk X.prog X.w H s.heap a (.lst xs)from I.hok a _ ea)
  exact PySem.W.kia_tup PySem.W.kitx_list I.kIn ⟨_,h4,rfl⟩ h1 (ik _ "list" (by simp)) (fun z=>nomatch z) k
 | @tup a xs ea=>
  cases (show u=Value.ref a from rx)
  obtain ⟨_,_,_,o2,h4,h5,_⟩:=(show ObjOk X.prog X.w H s.heap a (.tup xs)from I.hok a _ ea)
  exact PySem.W.kia_tup PySem.W.kitx_tuple I.kIn ⟨o2,h4,h5⟩ h1 (ik _ "tuple" (by simp)) (fun z=>nomatch z) k
end
end L2
namespace HT
open PySem PyProof.Rows
section
variable {prog:Program} {w:World} {A:Around} {s:Shared} {E:Value->Shared->Prop} {j t:Addr} {i:Nat} {items:Array Value}
theorem t8 {x:Value} {Q:Value->Shared->Prop} (st:s.heap.IsTupleIter j t i) (ht:s.heap.IsTuple t items) (hx:items[i]? =some x)
  (q: ∀ h',h'.IsTupleIter j t (i+1)->Heap.SameBut j s.heap h'->Q x {s with heap:=h'}):wpAny (model prog w) A (Builtin.SmallTypes.nextOf (.ref j)) Q E s:=by
 have ty:=st.typeIs
 obtain ⟨o,ho,hc,hd⟩:=id st
 obtain ⟨ol,hol,_,nl,hdl⟩:=ht
 unfold Builtin.SmallTypes.nextOf
 refine wpAny_bind (wpAny_callSpecial?_slot (name:=Str.ofString "__next__") ty PySem.F.slot_tuple_iterator_next (wpAny_call_entry PySem.F.slot_tuple_iterator_next ty PySem.F.entry_tuple_iterator_next ?_ (PySem.F.args_tuple_iterator_next_1 _)))
 refine (show wpAny _ _ (field (.ref j) 0 >>= _) _ _ s from wpAny_bind (wpAny_field ho hd (x:=.ref t) rfl ?_))
 refine (show wpAny _ _ (if (Value.ref t==Value.none)=true then _ else _) _ _ s from ?_)
 rw [if_neg fun b0:(Value.ref t==Value.none)=true=>Bool.false_ne_true b0]
 refine (show wpAny _ _ (field (.ref j) 1 >>= _) _ _ s from wpAny_bind (wpAny_field ho hd (x:=.int i 0) rfl ?_))
 refine (show wpAny _ _ (seqItems? (.ref t) >>= _) _ _ s from wpAny_bind (wpAny_seqItems hol hdl ?_))
 simp only [Int.toNat_natCast,hx]
 refine wpAny_bind (wpAny_setField ho hd (by simp) (wpAny_pure ⟨x,rfl,wpAny_pure (q _ ⟨_,Heap.get?_update_self _ ho (Obj.isFreed_of_fields (Obj.data_mapFields hd _)),(Obj.cls_mapFields ..).trans hc,?_⟩ (Heap.SameBut.update ..))⟩))
 rw [Obj.data_mapFields hd];simp [rawInt]
theorem mz {Q:Value->Shared->Prop} (hh:A.handled=none) (st:s.heap.IsTupleIter j t i) (ht:s.heap.IsTuple t items) (hx:items[i]? =none)
  (q: ∀ h' e,Heap.ExtBut j s.heap h'->(∃ o,h'.get? e=some o/\o.cls=.type "StopIteration")->E (.ref e) {s with heap:=h'}):wpAny (model prog w) A (Builtin.SmallTypes.nextOf (.ref j)) Q E s:=by
 have ty:=st.typeIs
 obtain ⟨o,ho,hc,hd⟩:=id st
 obtain ⟨ol,hol,_,nl,hdl⟩:=ht
 unfold Builtin.SmallTypes.nextOf
 refine wpAny_bind (wpAny_callSpecial?_slot (name:=Str.ofString "__next__") ty PySem.F.slot_tuple_iterator_next (wpAny_call_entry PySem.F.slot_tuple_iterator_next ty PySem.F.entry_tuple_iterator_next ?_ (PySem.F.args_tuple_iterator_next_1 _)))
 refine (show wpAny _ _ (field (.ref j) 0 >>= _) _ _ s from wpAny_bind (wpAny_field ho hd (x:=.ref t) rfl ?_))
 refine (show wpAny _ _ (if (Value.ref t==Value.none)=true then _ else _) _ _ s from ?_)
 rw [if_neg fun b0:(Value.ref t==Value.none)=true=>Bool.false_ne_true b0]
 refine (show wpAny _ _ (field (.ref j) 1 >>= _) _ _ s from wpAny_bind (wpAny_field ho hd (x:=.int i 0) rfl ?_))
 refine (show wpAny _ _ (seqItems? (.ref t) >>= _) _ _ s from wpAny_bind (wpAny_seqItems hol hdl ?_))
 simp only [Int.toNat_natCast,hx]
 refine wpAny_bind (wpAny_rule (wpAny_bind (wpAny_setField ho hd (by simp) (show wpAny _ _ (newExc (.type "StopIteration") [] >>= _) _ _ _ from wpAny_bind ?_))))
 simp only [newExc,newTuple]
 refine wpAny_bind (wpAny_newObj_type (wpAny_bind (m:=firstArgMember _ _) (wpAny_of_eq (a:=Value.none) (by first | rfl | (simp only [firstArgMember];rfl)) (wpAny_newObj_type ?_ (by size_fits)))) (by size_fits))
 simp only [raiseNew]
 refine wpAny_bind (wpAny_handled ?_)
 rw [show A.in1.handled=none from hh]
 exact wpAny_bind (wpAny_pure (wpAny_throw (q _ _ (((Heap.SameBut.update ..).extBut.push _).push _) ⟨_,Heap.get?_push_size _ rfl,rfl⟩)))
noncomputable def SIter (c:Bool) (h:Heap) (j l:Addr) (i:Nat):Prop:=if c=true then h.IsTupleIter j l i else h.IsListIter j l i
noncomputable def SSeq (c:Bool) (h:Heap) (l:Addr) (items:Array Value):Prop:=if c=true then h.IsTuple l items else h.IsList l items
theorem SIter.obj {c:Bool} {h:Heap} {l:Addr} (x:SIter c h j l i): ∃ o,h.get? j=some o/\ ∀ v,o.data≠ .cell v:=by
 cases c with
 | true=>obtain ⟨o,e,_,d⟩:=(show h.IsTupleIter j l i from x);exact ⟨o,e,fun v z=>by rw [d]at z;cases z⟩
 | false=>obtain ⟨o,e,_,d⟩:=(show h.IsListIter j l i from x);exact ⟨o,e,fun v z=>by rw [d]at z;cases z⟩
theorem SIter.at {c:Bool} {h h':Heap} {l:Addr} (x:SIter c h j l i) (k: ∀ o,h.get? j=some o->h'.get? j=some o):SIter c h' j l i:=by
 cases c with
 | true=>obtain ⟨o,e,r⟩:=(show h.IsTupleIter j l i from x);exact (show h'.IsTupleIter j l i from ⟨o,k o e,r⟩)
 | false=>obtain ⟨o,e,r⟩:=(show h.IsListIter j l i from x);exact (show h'.IsListIter j l i from ⟨o,k o e,r⟩)
theorem SSeq.at {c:Bool} {h h':Heap} {l:Addr} (x:SSeq c h l items) (k: ∀ o,h.get? l=some o->h'.get? l=some o):SSeq c h' l items:=by
 cases c with
 | true=>obtain ⟨o,e,r⟩:=(show h.IsTuple l items from x);exact (show h'.IsTuple l items from ⟨o,k o e,r⟩)
 | false=>obtain ⟨o,e,r⟩:=(show h.IsList l items from x);exact (show h'.IsList l items from ⟨o,k o e,r⟩)
theorem draws_seq (c:Bool) (hh:A.handled=none) (j l:Addr) (hne:l≠j) (items:Array Value):
  Draws prog w A j [j,l] items.size (fun i v=>items[i]? =some v) (fun i h=>SIter c h j l i/\SSeq c h l items) where
 live:=fun _ _ st=>let ⟨o,e,_⟩:=st.1.obj;⟨o,e⟩
 frame:=fun _ _ _ st k=>⟨st.1.at fun o e=>k j (by simp) o e,st.2.at fun o e=>k l (by simp) o e⟩
 item:=fun i s Q E hi st hQ=>by
  have hx:items[i]? =some items[i]:=Array.getElem?_eq_getElem hi
  cases c with
  | true=>exact t8 st.1 st.2 hx fun h' st' sb=>hQ _ h' s.toks hx ⟨st',st.2.at fun o e=>sb.extBut l o hne e⟩ sb
  | false=>exact wpAny_nextOf_list_item st.1 st.2 hx fun h' st' sb=>hQ _ h' s.toks hx ⟨st',st.2.at fun o e=>sb.extBut l o hne e⟩ sb
 done:=fun s Q E st hE=>by
  cases c with
  | true=>exact mz hh st.1 st.2 (by simp) hE
  | false=>exact wpAny_nextOf_list_end hh st.1 st.2 (by simp) hE
end
structure ZAp (z TI TO i1 i2:Addr) (f1 f2:List Addr):Prop where
 tz:TI≠z
 oz:TO≠z
 a1z:i1≠z
 a2z:i2≠z
 to:TI≠TO
 t1:TI≠i1
 t2:TI≠i2
 o1:TO≠i1
 o2:TO≠i2
 ii:i1≠i2
 z1:z∉f1
 z2:z∉f2
 p1:TO∉f1
 p2:TO∉f2
 q1:i2∉f1
 q2:i1∉f2
section
variable {prog:Program} {w:World} {A:Around} {s:Shared} {E:Value->Shared->Prop} {z TI TO i1 i2:Addr} {f1 f2:List Addr} {n1 n2 k:Nat} {P1 P2:Nat->Value->Prop} {S1 S2:Nat->Heap->Prop} {a b:Value}
theorem rj {Q:Value->Shared->Prop} (D1:Draws prog w A i1 f1 n1 P1 S1) (D2:Draws prog w A i2 f2 n2 P2 S2) (D:ZAp z TI TO i1 i2 f1 f2)
  (hz:IsZip s.heap z TI TO .none) (hTI:IsPair s.heap TI (.ref i1) (.ref i2)) (hTO:IsPair s.heap TO a b) (st1:S1 k s.heap) (st2:S2 k s.heap) (k1:k<n1) (k2:k<n2)
  (q: ∀ x y h' tk,P1 k x->P2 k y->IsZip h' z TI TO (rawInt s.heap.objs.size)->IsPair h' TO x y->S1 (k+1) h'->S2 (k+1) h'->IsPair h' s.heap.objs.size x y->
   (∀ c o,c≠z->c≠TO->c≠i1->c≠i2->s.heap.get? c=some o->h'.get? c=some o)->Q (.ref s.heap.objs.size) {s with heap:=h',toks:=tk}):
  wpAny (model prog w) A (Builtin.«zip.__next__» ⟨[.ref z],[]⟩) (fun fin s'=> ∃ v,fin=.done (.ret v)/\Q v s') E s:=by
 refine (show wpAny _ _ (field (.ref z) 2 >>= _) _ _ _ from wpAny_bind (wpAny_field hz rfl (x:=.bool false) rfl ?_))
 refine (show wpAny _ _ (field (.ref z) 3 >>= _) _ _ _ from wpAny_bind (wpAny_field hz rfl (x:=.ref TI) rfl (wpAny_bind (wpAny_seqItems hTI rfl ?_))))
 refine (show wpAny _ _ (Builtin.SmallTypes.ownedTupleIsFree (.ref z) >>= _) _ _ _ from wpAny_bind ?_)
 unfold Builtin.SmallTypes.ownedTupleIsFree
 refine wpAny_bind (wpAny_field hz rfl (x:=.none) rfl (wpAny_pure ?_))
 simp only [if_true]
 refine wpAny_bind (wpAny_rule (wpAny_bind (wpAny_field hz rfl (x:=.ref TO) rfl (wpAny_bind (wpAny_setField_rec hz (by simp) fun g1 zz1 sb1=>?_)))))
 replace zz1:IsZip g1 z TI TO .ellipsis:=zz1
 refine wpAny_bind ?_
 simp only [List.zipIdx_cons,List.zipIdx_nil,List.forIn_cons,List.forIn_nil]
 refine wpAny_bind (wpAny_bind (wpAny_onRaise (show wpAny _ _ (Builtin.SmallTypes.nextOf (.ref i1) >>= _) _ _ _ from ?_)))
 refine wpAny_bind (D1.item k _ _ _ k1 (D1.frame k s.heap g1 st1 fun c hc o e=>sb1.extBut c o (fun x=>D.z1 (x▸hc)) e) fun x g2 tk2 hx s1' sb2=>wpAny_pure ?_)
 have to2:IsPair g2 TO a b:=sb2.extBut _ _ D.o1 (sb1.extBut _ _ D.oz hTO)
 refine wpAny_bind (wpAny_seqItems to2 rfl (wpAny_bind (wpAny_updateSeq_pair to2 fun g3 to3 sb3=>?_)))
 replace to3:IsPair g3 TO x b:=to3
 refine wpAny_bind (wpAny_letGo (wpAny_pure ?_))
 refine wpAny_bind (wpAny_bind (wpAny_onRaise (show wpAny _ _ (Builtin.SmallTypes.nextOf (.ref i2) >>= _) _ _ _ from ?_)))
 refine wpAny_bind (D2.item k _ _ _ k2 (D2.frame k s.heap g3 st2 fun c hc o e=>?_) fun y g4 tk4 hy s2' sb4=>wpAny_pure ?_)
 ·exact sb3.extBut c o (fun x=>D.p2 (x▸hc)) (sb2.extBut c o (fun x=>D.q2 (x▸hc)) (sb1.extBut c o (fun x=>D.z2 (x▸hc)) e))
 have to4:IsPair g4 TO x b:=sb4.extBut _ _ D.o2 to3
 refine wpAny_bind (wpAny_seqItems to4 rfl (wpAny_bind (wpAny_updateSeq_pair to4 fun g5 to5 sb5=>?_)))
 replace to5:IsPair g5 TO x y:=to5
 refine wpAny_bind (wpAny_letGo (wpAny_pure (wpAny_pure ?_)))
 refine wpAny_bind (wpAny_seqItems to5 rfl (wpAny_bind (wpAny_newTuple ?_)))
 have sz:g5.objs.size=s.heap.objs.size:=by rw [sb5.1,sb4.1,sb3.1,sb2.1,sb1.1]
 have zz5:IsZip g5 z TI TO .ellipsis:=sb5.extBut _ _ D.oz.symm (sb4.extBut _ _ D.a2z.symm (sb3.extBut _ _ D.oz.symm (sb2.extBut _ _ D.a1z.symm zz1)))
 have kk5: ∀ c o,c≠z->c≠TO->c≠i1->c≠i2->s.heap.get? c=some o->g5.get? c=some o:=fun c o c1 c2 c3 c4 e=>
  sb5.extBut c o c2 (sb4.extBut c o c4 (sb3.extBut c o c2 (sb2.extBut c o c3 (sb1.extBut c o c1 e))))
 have zlt:z<g5.objs.size:=Heap.lt_size zz5
 refine (show wpAny _ _ (Builtin.SmallTypes.ownedTupleHandOut (.ref z) (.ref g5.objs.size) >>= _) _ _ _ from wpAny_bind ?_)
 unfold Builtin.SmallTypes.ownedTupleHandOut
 have zz6:IsZip (g5.push {cls:=.type "tuple",data:=.seq #[x,y]}) z TI TO .ellipsis:=Heap.get?_push_of_some _ zz5
 refine wpAny_bind (wpAny_setField_rec zz6 (by simp) fun g7 zz7 sb7=>?_)
 replace zz7:IsZip g7 z TI TO (rawInt g5.objs.size):=zz7
 refine wpAny_setField_rec zz7 (by simp) fun g8 zz8 sb8=>?_
 replace zz8:IsZip g8 z TI TO (rawInt g5.objs.size):=zz8
 have up: ∀ c o,c≠z->g5.get? c=some o->g8.get? c=some o:=fun c o c1 e=>sb8.extBut c o c1 (sb7.extBut c o c1 (Heap.get?_push_of_some _ e))
 have tt8:IsPair g8 g5.objs.size x y:=sb8.extBut _ _ (Nat.ne_of_gt zlt) (sb7.extBut _ _ (Nat.ne_of_gt zlt) (Heap.get?_push_size _ rfl))
 rw [sz]at zz8 tt8
 refine wpAny_pure ⟨_,rfl,(show Q (.ref g5.objs.size) _ from ?_)⟩
 rw [sz]
 refine q x y g8 _ hx hy zz8 (up _ _ D.oz to5) ?_ ?_ tt8 fun c o c1 c2 c3 c4 e=>up c o c1 (kk5 c o c1 c2 c3 c4 e)
 ·refine D1.frame (k+1) g2 g8 s1' fun c hc o e=>up c o (fun x=>D.z1 (x▸hc)) (sb5.extBut c o (fun x=>D.p1 (x▸hc)) (sb4.extBut c o (fun x=>D.q1 (x▸hc)) (sb3.extBut c o (fun x=>D.p1 (x▸hc)) e)))
 ·exact D2.frame (k+1) g4 g8 s2' fun c hc o e=>up c o (fun x=>D.z2 (x▸hc)) (sb5.extBut c o (fun x=>D.p2 (x▸hc)) e)
theorem lI {Q:Fin->Shared->Prop} (D1:Draws prog w A i1 f1 n1 P1 S1) (D:ZAp z TI TO i1 i2 f1 f2)
  (hz:IsZip s.heap z TI TO .none) (hTI:IsPair s.heap TI (.ref i1) (.ref i2)) (hTO:IsPair s.heap TO a b) (st1:S1 n1 s.heap)
  (q: ∀ h' e,(∀ c o,c≠z->c≠TO->c≠i1->c≠i2->s.heap.get? c=some o->h'.get? c=some o)->(∃ o,h'.get? e=some o/\o.cls=.type "StopIteration")->E (.ref e) {s with heap:=h'}):
  wpAny (model prog w) A (Builtin.«zip.__next__» ⟨[.ref z],[]⟩) Q E s:=by
 refine (show wpAny _ _ (field (.ref z) 2 >>= _) _ _ _ from wpAny_bind (wpAny_field hz rfl (x:=.bool false) rfl ?_))
 refine (show wpAny _ _ (field (.ref z) 3 >>= _) _ _ _ from wpAny_bind (wpAny_field hz rfl (x:=.ref TI) rfl (wpAny_bind (wpAny_seqItems hTI rfl ?_))))
 refine (show wpAny _ _ (Builtin.SmallTypes.ownedTupleIsFree (.ref z) >>= _) _ _ _ from wpAny_bind ?_)
 unfold Builtin.SmallTypes.ownedTupleIsFree
 refine wpAny_bind (wpAny_field hz rfl (x:=.none) rfl (wpAny_pure ?_))
 simp only [if_true]
 refine wpAny_bind (wpAny_rule (wpAny_bind (wpAny_field hz rfl (x:=.ref TO) rfl (wpAny_bind (wpAny_setField_rec hz (by simp) fun g1 zz1 sb1=>?_)))))
 replace zz1:IsZip g1 z TI TO .ellipsis:=zz1
 refine wpAny_bind ?_
 simp only [List.zipIdx_cons,List.zipIdx_nil,List.forIn_cons,List.forIn_nil]
 refine wpAny_bind (wpAny_bind (wpAny_onRaise (show wpAny _ _ (Builtin.SmallTypes.nextOf (.ref i1) >>= _) _ _ _ from ?_)))
 refine wpAny_bind (D1.done _ _ _ (D1.frame n1 s.heap g1 st1 fun c hc o e=>sb1.extBut c o (fun x=>D.z1 (x▸hc)) e) fun g2 e eb2 he=>?_)
 obtain ⟨oe,hoe,hce⟩:=he
 have zz2:IsZip g2 z TI TO .ellipsis:=eb2 _ _ D.a1z.symm zz1
 have ez:e≠z:=fun x=>by subst x;rw [zz2]at hoe;cases hoe;simp at hce
 exact wpAny_setField_rec zz2 (by simp) fun g3 _ sb3=>q g3 e (fun c o c1 _ c3 _ x=>sb3.extBut c o c1 (eb2 c o c3 (sb1.extBut c o c1 x))) ⟨oe,sb3.extBut _ _ ez hoe,hce⟩
theorem next_zip {Q:Option Value->Shared->Prop} (D1:Draws prog w A.in1 i1 f1 n1 P1 S1) (D2:Draws prog w A.in1 i2 f2 n2 P2 S2) (D:ZAp z TI TO i1 i2 f1 f2)
  (hz:IsZip s.heap z TI TO .none) (hTI:IsPair s.heap TI (.ref i1) (.ref i2)) (hTO:IsPair s.heap TO a b) (st1:S1 k s.heap) (st2:S2 k s.heap) (k1:k<n1) (k2:k<n2)
  (q: ∀ x y h' tk,P1 k x->P2 k y->IsZip h' z TI TO (rawInt s.heap.objs.size)->IsPair h' TO x y->S1 (k+1) h'->S2 (k+1) h'->IsPair h' s.heap.objs.size x y->
   (∀ c o,c≠z->c≠TO->c≠i1->c≠i2->s.heap.get? c=some o->h'.get? c=some o)->Q (some (.ref s.heap.objs.size)) {s with heap:=h',toks:=tk}):
  wpAny (model prog w) A (pyNext (.ref z)) Q E s:=by
 have ty:s.TypeIs (.ref z) "zip":=⟨_,hz,rfl⟩
 unfold pyNext
 exact wpAny_bind (wpAny_attempt (wpAny_callSpecial?_slot (name:=Str.ofString "__next__") ty PySem.F.slot_zip_next (wpAny_call_entry PySem.F.slot_zip_next ty PySem.F.entry_zip_next
  (rj D1 D2 D hz hTI hTO st1 st2 k1 k2 fun x y h' tk a0 b0 a1 a2 a3 a4 a5 a6=>wpAny_pure (q x y h' tk a0 b0 a1 a2 a3 a4 a5 a6)) (PySem.F.args_zip_next_1 _))))
theorem end_zip {Q:Option Value->Shared->Prop} (D1:Draws prog w A.in1 i1 f1 n1 P1 S1) (D:ZAp z TI TO i1 i2 f1 f2)
  (hz:IsZip s.heap z TI TO .none) (hTI:IsPair s.heap TI (.ref i1) (.ref i2)) (hTO:IsPair s.heap TO a b) (st1:S1 n1 s.heap)
  (q: ∀ h',(∀ c o,c≠z->c≠TO->c≠i1->c≠i2->s.heap.get? c=some o->h'.get? c=some o)->Q none {s with heap:=h'}):wpAny (model prog w) A (pyNext (.ref z)) Q E s:=by
 have ty:s.TypeIs (.ref z) "zip":=⟨_,hz,rfl⟩
 unfold pyNext
 refine wpAny_bind (wpAny_attempt (wpAny_callSpecial?_slot (name:=Str.ofString "__next__") ty PySem.F.slot_zip_next (wpAny_call_entry PySem.F.slot_zip_next ty PySem.F.entry_zip_next
  (lI D1 D hz hTI hTO st1 fun h' e kk he=>?_) (PySem.F.args_zip_next_1 _))))
 obtain ⟨o,ho,hc⟩:=he
 exact wpAny_bind (wpAny_isInstance (T:="StopIteration") (b:=true) ⟨o,ho,hc⟩ isSubtype_stop (wpAny_pure (q _ kk)))
end
section
variable {prog:Program} {w:World} {A:Around} {s:Shared} {E:Value->Shared->Prop}
noncomputable def tIt (l:Addr):Obj:={cls:=.type "tuple_iterator",data:=.fields #[.ref l,.int 0 0]}
noncomputable def zG2 (h:Heap) (l1 l2:Addr):Heap:=(h.push (tIt l1)).push (tIt l2)
noncomputable def zG3 (h:Heap) (l1 l2:Addr):Heap:=(zG2 h l1 l2).push {cls:=.type "tuple",data:=.seq #[.ref h.objs.size,.ref (h.push (tIt l1)).objs.size]}
noncomputable def zG4 (h:Heap) (l1 l2:Addr):Heap:=(zG3 h l1 l2).push {cls:=.type "tuple",data:=.seq #[.none,.none]}
noncomputable def zG5 (h:Heap) (l1 l2:Addr):Heap:=(zG4 h l1 l2).push {cls:=.type "zip",data:=.fields #[.none,.bool false,.bool false,.ref (zG2 h l1 l2).objs.size,.ref (zG3 h l1 l2).objs.size]}
theorem rg (l1 l2:Addr) (xs ys:Array Value):Meets (Builtin.«zip.__new__» ⟨[.type "zip",.ref l1,.ref l2],[]⟩)
  (fun _ R s=>s.heap.IsTuple l1 xs/\s.heap.IsTuple l2 ys/\R (.ok (.ret (.ref (zG4 s.heap l1 l2).objs.size))) {s with heap:=zG5 s.heap l1 l2}):=
 .of_wp fun prog w A R s h=>by
  obtain ⟨hp,g,d,tk,os⟩:=s
  obtain ⟨a1,a2,h⟩:=h
  have sub:=sub_zip
  have b1:Heap.IsTuple (Shared.heap ⟨hp,g,d,tk,os⟩) l1 xs:=a1
  have b2:Heap.IsTuple (Shared.heap ⟨hp.push {cls:=.type "tuple_iterator",data:=.fields #[.ref l1,.int 0 0]},g,d,tk,os⟩) l2 ys:=Heap.IsTuple.push a2 _
  wp_walk using wpAny_pyIter_tuple b1,wpAny_pyIter_tuple b2
  exact ⟨_,rfl,h⟩
theorem call_zipS {c:Bool} {l1 l2:Addr} {xs ys:Array Value} {Q:Value->Shared->Prop} (a1:SSeq c s.heap l1 xs) (a2:SSeq c s.heap l2 ys)
  (q: ∀ h',IsZip h' (s.heap.objs.size+4) (s.heap.objs.size+2) (s.heap.objs.size+3) .none->IsPair h' (s.heap.objs.size+2) (.ref s.heap.objs.size) (.ref (s.heap.objs.size+1))->
   IsPair h' (s.heap.objs.size+3) .none .none->SIter c h' s.heap.objs.size l1 0->SIter c h' (s.heap.objs.size+1) l2 0->
   (∀ b o,s.heap.get? b=some o->h'.get? b=some o)->Q (.ref (s.heap.objs.size+4)) {s with heap:=h'}):wpAny (model prog w) A (call (.type "zip") [.ref l1,.ref l2]) Q E s:=by
 cases c with
 | false=>exact call_zip_2 a1 a2 fun h' b1 b2 b3 b4 b5 _ b7=>q h' b1 b2 b3 b4 b5 b7
 | true=>
  refine callType_new PySem.F.called_zip (by decide) (PySem.F.typeCall_zip_2 _ _) (PySem.F.newCall_zip_2 _ _) (fun obj=>PySem.F.args_object_init_3 obj _ _) PySem.F.entry_zip_new (rg l1 l2 xs ys) ⟨a1,a2,?_⟩
  have z1:(s.heap.push (tIt l1)).objs.size=s.heap.objs.size+1:=Heap.size_push ..
  have z2:(zG2 s.heap l1 l2).objs.size=s.heap.objs.size+2:=by unfold zG2;rw [Heap.size_push,z1]
  have z3:(zG3 s.heap l1 l2).objs.size=s.heap.objs.size+3:=by unfold zG3;rw [Heap.size_push,z2]
  have z4:(zG4 s.heap l1 l2).objs.size=s.heap.objs.size+4:=by unfold zG4;rw [Heap.size_push,z3]
  have g5:(zG5 s.heap l1 l2).get? (zG4 s.heap l1 l2).objs.size=some {cls:=.type "zip",data:=.fields #[.none,.bool false,.bool false,.ref (zG2 s.heap l1 l2).objs.size,.ref (zG3 s.heap l1 l2).objs.size]}:=Heap.get?_push_size _ rfl
  have g4:(zG5 s.heap l1 l2).get? (zG3 s.heap l1 l2).objs.size=some {cls:=.type "tuple",data:=.seq #[.none,.none]}:=Heap.get?_push_of_some _ (Heap.get?_push_size _ rfl)
  have g3:(zG5 s.heap l1 l2).get? (zG2 s.heap l1 l2).objs.size=some {cls:=.type "tuple",data:=.seq #[.ref s.heap.objs.size,.ref (s.heap.push (tIt l1)).objs.size]}:=Heap.get?_push_of_some _ (Heap.get?_push_of_some _ (Heap.get?_push_size _ rfl))
  have g2:(zG5 s.heap l1 l2).get? (s.heap.push (tIt l1)).objs.size=some (tIt l2):=Heap.get?_push_of_some _ (Heap.get?_push_of_some _ (Heap.get?_push_of_some _ (Heap.get?_push_size _ rfl)))
  have g1:(zG5 s.heap l1 l2).get? s.heap.objs.size=some (tIt l1):=Heap.get?_push_of_some _ (Heap.get?_push_of_some _ (Heap.get?_push_of_some _ (Heap.get?_push_of_some _ (Heap.get?_push_size _ rfl))))
  show _/\_
  rw [z2,z3,z4]at g5
  rw [z1,z2]at g3
  rw [z3]at g4
  rw [z1]at g2
  rw [z4]
  exact ⟨⟨_,g5,rfl⟩,q _ g5 g3 g4 (show Heap.IsTupleIter _ _ _ _ from ⟨_,g1,rfl,rfl⟩) (show Heap.IsTupleIter _ _ _ _ from ⟨_,g2,rfl,rfl⟩) fun b o x=>
   Heap.get?_push_of_some _ (Heap.get?_push_of_some _ (Heap.get?_push_of_some _ (Heap.get?_push_of_some _ (Heap.get?_push_of_some _ x))))⟩
end
end HT
namespace L2
open PySem PySem.Spec PyProof.Rows
noncomputable def dZ (c:Bool) (xs:List V):HO:=if c=true then .tup xs else .lst xs
theorem lU {c:Bool} {xs ys:List V} (h:dZ c xs=dZ c ys):xs=ys:=by
 cases c with
 | true=>exact HO.tup.inj h
 | false=>exact HO.lst.inj h
theorem Inv.seqS {X:Cx} {pins:List (Addr×Obj)} {σ:St} {H:Hp} {s:Shared} {c:Bool} {a:Addr} {xs:List V} (I:Inv X pins σ H s) (h:H a=some (dZ c xs)): ∃ its:List Value,Vals xs its/\HT.SSeq c s.heap a its.toArray/\xs.length<=sizeLine:=by
 cases c with
 | true=>obtain ⟨its,r,p,z⟩:=I.tuple (SqT.of (K:=X.K) h);exact ⟨its,r,p,z⟩
 | false=>obtain ⟨its,r,p,z⟩:=I.list (SqL.of (K:=X.K) h);exact ⟨its,r,p.isList,z⟩
noncomputable def Itz (c:Bool) (l1 l2:Addr):It:=
 ⟨fun i H=> ∃ xs ys x y,H l1=some (dZ c xs)/\H l2=some (dZ c ys)/\xs[i]? =some x/\ys[i]? =some y,
  fun i H v H'=> ∃ T x y,H T=none/\v=.ref T/\H'=upd H T (.tup [x,y])/\ ∀ xs ys,H l1=some (dZ c xs)->H l2=some (dZ c ys)->xs[i]? =some x/\ys[i]? =some y,
  fun i H=> ∃ xs ys,H l1=some (dZ c xs)/\H l2=some (dZ c ys)/\xs.length=i/\ys.length=i⟩
noncomputable def ZAt (c:Bool) (z TI TO i1 i2 l1 l2:Addr) (i:Nat) (h:Heap):Prop:=IsZip h z TI TO .none/\IsPair h TI (.ref i1) (.ref i2)/\(∃ a b,IsPair h TO a b)/\HT.SIter c h i1 l1 i/\HT.SIter c h i2 l2 i
theorem fp5 {z TI TO i1 i2 b:Addr} (h:b∈[z,TI,TO,i1,i2]):b=z\/b=TI\/b=TO\/b=i1\/b=i2:=by simpa using h
theorem rE {P:Program} {w:World} {K:PySem.W.Frag} {es:List Expr} {kk:Nat} {tpos:Pos} (c:Bool) (z TI TO i1 i2 l1 l2:Addr) (nd:[z,TI,TO,i1,i2].Nodup):
  jq P w K (.Tuple es kk tpos) (Itz c l1 l2) [z,TI,TO,i1,i2] z (ZAt c z TI TO i1 i2 l1 l2):=by
 simp only [List.nodup_cons,List.mem_cons,List.not_mem_nil,or_false,not_or,List.nodup_nil,and_true]at nd
 obtain ⟨⟨n1,n2,n3,n4⟩,⟨n5,n6,n7⟩,⟨n8,n9⟩,n10,_⟩:=nd
 have ap: ∀ {X:Cx} {pins:List (Addr×Obj)} {H:Hp} {xs ys:List V},(∀ b∈[z,TI,TO,i1,i2],ib X pins H b)->H l1=some (dZ c xs)->H l2=some (dZ c ys)->
   HT.ZAp z TI TO i1 i2 [i1,l1] [i2,l2]/\l1≠i1/\l2≠i2:=by
  intro X pins H xs ys hf h1 h2
  have a: ∀ b∈[z,TI,TO,i1,i2],b≠l1/\b≠l2:=fun b hb=>⟨(af h1 (hf b hb).1).symm,(af h2 (hf b hb).1).symm⟩
  have az:=a z (by simp)
  have aO:=a TO (by simp)
  have a1:=a i1 (by simp)
  have a2:=a i2 (by simp)
  refine ⟨⟨Ne.symm n1,Ne.symm n2,Ne.symm n3,Ne.symm n4,n5,n6,n7,n8,n9,n10,?_,?_,?_,?_,?_,?_⟩,Ne.symm a1.1,Ne.symm a2.2⟩ <;> simp only [List.mem_cons,List.not_mem_nil,or_false,not_or]
  ·exact ⟨n3,az.1⟩
  ·exact ⟨n4,az.2⟩
  ·exact ⟨n8,aO.1⟩
  ·exact ⟨n9,aO.2⟩
  ·exact ⟨Ne.symm n10,a2.1⟩
  ·exact ⟨n10,a1.2⟩
 refine ⟨by simp,fun i h st b hb=>?_,fun i h h' st k=>?_,?_,?_,fun _ _ _ _ _ st h=>wpAny_pyIter_zip st.1 h⟩
 ·obtain ⟨h1,h2,⟨a,b',h3⟩,h4,h5⟩:=st
  rcases fp5 hb with rfl | rfl | rfl | rfl | rfl
  ·exact ⟨_,h1,fun v e=>nomatch e⟩
  ·exact ⟨_,h2,fun v e=>nomatch e⟩
  ·exact ⟨_,h3,fun v e=>nomatch e⟩
  ·exact h4.obj
  ·exact h5.obj
 ·obtain ⟨h1,h2,⟨a,b',h3⟩,h4,h5⟩:=st
  exact ⟨k z (by simp) _ h1,k TI (by simp) _ h2,⟨a,b',k TO (by simp) _ h3⟩,h4.at fun o e=>k i1 (by simp) o e,h5.at fun o e=>k i2 (by simp) o e⟩
 ·intro X hP hw hK hc i pins s σ H E I hf st hg
  subst hP hw hK
  obtain ⟨xs,ys,x,y,hx,hy,ex,ey⟩:=hg
  obtain ⟨its1,r1,q1,_⟩:=I.seqS hx
  obtain ⟨its2,r2,q2,_⟩:=I.seqS hy
  obtain ⟨u,hu,ru⟩:=r1.get ex
  obtain ⟨v,hv,rv⟩:=r2.get ey
  obtain ⟨z0,t0,⟨a,b,o0⟩,s1,s2⟩:=st
  obtain ⟨D,e1,e2⟩:=ap hf hx hy
  refine HT.next_zip (HT.draws_seq (A:=X.A.in1) c (I.ok.hd hc) i1 l1 e1 its1.toArray) (HT.draws_seq (A:=X.A.in1) c (I.ok.hd hc) i2 l2 e2 its2.toArray) D z0 t0 o0 ⟨s1,q1⟩ ⟨s2,q2⟩
   (by rw [List.size_toArray];exact (List.getElem?_eq_some_iff.mp hu).1) (by rw [List.size_toArray];exact (List.getElem?_eq_some_iff.mp hv).1) fun x' y' h' tk px py z1 o1 t1 t2 pr kk=>?_
  have ex':x'=u:=by
   have p1:its1[i]? =some x':=by simpa using px
   rw [hu]at p1;exact (Option.some.inj p1).symm
  have ey':y'=v:=by
   have p1:its2[i]? =some y':=by simpa using py
   rw [hv]at p1;exact (Option.some.inj p1).symm
  subst ex' ey'
  refine ⟨_,rfl,wpAny_letOwnedTupleGo_zip z1 fun h'' z2 sb=>?_⟩
  have lt: ∀ {b:Addr} {ob:Obj},s.heap.get? b=some ob->b≠s.heap.objs.size:=fun e=>Nat.ne_of_lt (Heap.lt_size e)
  have fT:H s.heap.objs.size=none:=I.hok.fresh (Nat.le_refl _)
  have keep: ∀ b ob,b∉[z,TO,i1,i2]->s.heap.get? b=some ob->h''.get? b=some ob:=fun b ob hb e=>by
   simp only [List.mem_cons,List.not_mem_nil,or_false,not_or]at hb
   exact sb.extBut b ob hb.1 (kk b ob hb.1 hb.2.1 hb.2.2.1 hb.2.2.2 e)
  have sub: ∀ b,b∈[z,TO,i1,i2]->b∈[z,TI,TO,i1,i2]:=fun b hb=>by
   simp only [List.mem_cons,List.not_mem_nil,or_false]at hb ⊢
   rcases hb with h | h | h | h
   ·exact .inl h
   ·exact .inr (.inr (.inl h))
   ·exact .inr (.inr (.inr (.inl h)))
   ·exact .inr (.inr (.inr (.inr h)))
  have trk: ∀ b uo,H b=some uo->b∉[z,TO,i1,i2]:=fun b uo e hb=>by rw [(hf b (sub b hb)).1]at e;cases e
  have ptT:IsPair h'' s.heap.objs.size x' y':=sb.extBut _ _ (Ne.symm (lt z0)) pr
  have I2:Inv X pins σ (upd H s.heap.objs.size (.tup [x,y])) {s with heap:=h'',toks:=tk}:=by
   refine I.step (g':=s.gens) (d':=s.drawn) (ch:=[z,TO,i1,i2]) (fun b hb=>?_) (fun b ob _ _ hb e _=>keep b ob hb e) (fun b ob _ _ hb e _=>⟨ob.slots,keep b ob hb e⟩) (fun b ob hb e n=>by rw [ah (lt e)];exact n)
    (fun b ob hb e=>⟨ob,keep b ob hb e⟩) (fun b zs e=>by rw [ah (af e fT)];exact e) (fun b ob uo e=>by rw [ah (af e fT)];exact e) (fun b ps e=>⟨#[],by rw [ah (af e fT),e];simp⟩) (fun m hm=>?_) (fun b uo e=>?_) I.bare
   ·obtain ⟨_,f1,_,f3,f4,f5⟩:=hf b (sub b hb)
    exact ⟨f3,f1,f4,f5⟩
   ·obtain ⟨ob,es',ep,ho,r⟩:=hm
    exact ⟨ob,es',ep,keep _ ob (fun hb=>(hf _ (sub _ hb)).2.1 rfl) ho,r⟩
   ·by_cases hb:b=s.heap.objs.size
    ·subst hb
     rw [ab]at e
     cases e
     exact ⟨by show 2<=sizeLine;decide,[x',y'],.cons ru (.cons rv .nil),_,ptT,rfl,_,rfl⟩
    ·rw [ah hb]at e
     refine (I.hok b uo e).stay (fun c' v' hc' q=>keep c' v' ?_ q) (fun c' q=>by rw [ah (af q fT)];exact q) fun c' zs q=>by rw [ah (af q fT)];exact q
     rcases hc' with h | h
     ·rw [h];exact trk b uo e
     ·exact trk c' _ h
  refine ⟨.ref s.heap.objs.size,_,I2,rfl,⟨_,x,y,fT,rfl,rfl,fun xs' ys' h1 h2=>?_⟩,⟨z2,sb.extBut _ _ (Ne.symm n1) (kk _ _ (Ne.symm n1) n5 n6 n7 t0),⟨_,_,sb.extBut _ _ (Ne.symm n2) o1⟩,t1.1.at fun o e=>sb.extBut _ o (Ne.symm n3) e,t2.1.at fun o e=>sb.extBut _ o (Ne.symm n4) e⟩,fun b hb=>?_⟩
  ·rw [hx]at h1
   rw [hy]at h2
   rw [<- lU (Option.some.inj h1),<- lU (Option.some.inj h2)]
   exact ⟨ex,ey⟩
  ·have hb': ∃ ob,s.heap.get? b=some ob:=by
    rcases fp5 hb with rfl | rfl | rfl | rfl | rfl
    ·exact ⟨_,z0⟩
    ·exact ⟨_,t0⟩
    ·exact ⟨_,o0⟩
    ·obtain ⟨ob,e,_⟩:=s1.obj;exact ⟨ob,e⟩
    ·obtain ⟨ob,e,_⟩:=s2.obj;exact ⟨ob,e⟩
   obtain ⟨ob,e⟩:=hb'
   rw [ah (lt e)]
   exact (hf b hb).1
 ·intro X hP hw hK hc i pins s σ H E I hf st hg
  subst hP hw hK
  obtain ⟨xs,ys,hx,hy,l,l'⟩:=hg
  obtain ⟨its1,r1,q1,_⟩:=I.seqS hx
  obtain ⟨z0,t0,⟨a,b,o0⟩,s1,s2⟩:=st
  obtain ⟨D,e1,e2⟩:=ap hf hx hy
  have hi:i=its1.toArray.size:=by rw [List.size_toArray,<- l];exact r1.length
  rw [hi]at s1
  refine HT.end_zip (HT.draws_seq (A:=X.A.in1) c (I.ok.hd hc) i1 l1 e1 its1.toArray) D z0 t0 o0 ⟨s1,q1⟩ fun h' kk=>⟨rfl,?_⟩
  have keep: ∀ b ob,b∉[z,TO,i1,i2]->s.heap.get? b=some ob->h'.get? b=some ob:=fun b ob hb e=>by
   simp only [List.mem_cons,List.not_mem_nil,or_false,not_or]at hb
   exact kk b ob hb.1 hb.2.1 hb.2.2.1 hb.2.2.2 e
  have sub: ∀ b,b∈[z,TO,i1,i2]->b∈[z,TI,TO,i1,i2]:=fun b hb=>by
   simp only [List.mem_cons,List.not_mem_nil,or_false]at hb ⊢
   rcases hb with h | h | h | h
   ·exact .inl h
   ·exact .inr (.inr (.inl h))
   ·exact .inr (.inr (.inr (.inl h)))
   ·exact .inr (.inr (.inr (.inr h)))
  have trk: ∀ b uo,H b=some uo->b∉[z,TO,i1,i2]:=fun b uo e hb=>by rw [(hf b (sub b hb)).1]at e;cases e
  refine I.step (g':=s.gens) (d':=s.drawn) (t':=s.toks) (ch:=[z,TO,i1,i2]) (fun b hb=>?_) (fun b ob _ _ hb e _=>keep b ob hb e) (fun b ob _ _ hb e _=>⟨ob.slots,keep b ob hb e⟩) (fun b ob hb e n=>n)
   (fun b ob hb e=>⟨ob,keep b ob hb e⟩) (fun b zs e=>e) (fun b ob uo e=>e) (fun b ps e=>⟨#[],by rw [e];simp⟩) (fun m hm=>?_) (fun b uo e=>?_) I.bare
  ·obtain ⟨_,f1,_,f3,f4,f5⟩:=hf b (sub b hb)
   exact ⟨f3,f1,f4,f5⟩
  ·obtain ⟨ob,es',ep,ho,r⟩:=hm
   exact ⟨ob,es',ep,keep _ ob (fun hb=>(hf _ (sub _ hb)).2.1 rfl) ho,r⟩
  ·refine (I.hok b uo e).stay (fun c' v' hc' q=>keep c' v' ?_ q) (fun _ q=>q) fun _ _ q=>q
   rcases hc' with h | h
   ·rw [h];exact trk b uo e
   ·exact trk c' _ h
noncomputable def ym (ta:TA):TI:=fun σ H R=>ta σ H fun vs H1=> ∃ c l1 l2 xs ys,vs=[.ref l1,.ref l2]/\H1 l1=some (dZ c xs)/\H1 l2=some (dZ c ys)/\R (Itz c l1 l2) H1
theorem wk {X:Cx} {es:List Expr} {kk:Nat} {tpos:Pos} {a b:Expr} {ta:TA} {p pos:Pos} (hg:Gl X "zip") (hm:X.mg "zip"=none) (ha:PA X [a,b] ta) (hs:starEach [a,b] X.env=[(false,eval a X.env),(false,eval b X.env)]:=by rfl) (hs2:starEach [b] X.env=[(false,eval b X.env)]:=by rfl):
  PI X (.Tuple es kk tpos) (.Call (.Name "zip" p) [a,b] [] pos) (ym ta):=by
 intro pins s σ H R I h
 refine Call_ (eR I hg hm (show bootBuiltins "zip"=some (.type "zip") by decide +kernel) (PyProof.Rows.callWith_type1 (thn (ha pos pins s σ H _ I h) fun us s1 ⟨vs,H1,I1,r1,q1⟩=>?_) (by rw [hs,hs2]) (by rw [hs2];rfl)))
 obtain ⟨c,l1,l2,xs,ys,rfl,hx,hy,q⟩:=q1
 obtain ⟨u,v,rfl,ru,rv⟩:=iz r1
 cases (show u=Value.ref l1 from ru)
 cases (show v=Value.ref l2 from rv)
 obtain ⟨its1,_,e1,_⟩:=I1.seqS hx
 obtain ⟨its2,_,e2,_⟩:=I1.seqS hy
 refine HT.call_zipS e1 e2 fun h' a1 a2 a3 a4 a5 kp=>?_
 have I2:Inv X pins σ H1 {s1 with heap:=h'}:=I1.kept (t':=s1.toks) kp
 refine wpAny_pyIter_zip a1 ?_
 refine ⟨s1.heap.objs.size+4,[s1.heap.objs.size+4,s1.heap.objs.size+2,s1.heap.objs.size+3,s1.heap.objs.size,s1.heap.objs.size+1],_,_,H1,rfl,I2,rE c _ _ _ _ _ l1 l2 (by simp),⟨a1,a2,⟨_,_,a3⟩,a4,a5⟩,fun b hb=>?_,q⟩
 have hb':s1.heap.objs.size<=b:=by rcases fp5 hb with rfl | rfl | rfl | rfl | rfl <;> lia
 exact I1.fpOk hb' (I1.hok.fresh hb')
structure lH (sc0:Scope) (N0:List Str) (scope:Scope) (x x2:Str) (ys:List Str) (fr:List Nat):Prop where
 kind:scope.kind=.function
 nocell: ∀ y∈scope.names,y.2≠ .cell
 loc: ∀ y∈scope.names,y.2=.local->scope.names.lookup y.1=some .local
 xl:(bo sc0 scope).lookup x=some .local
 xl2:(bo sc0 scope).lookup x2=some .local
 free: ∀ y∈scope.names,y.2=.free->sc0.names.lookup y.1=some .cell
 nd:(x::x2::ys).Nodup
 len:ys.length=fr.length
 sl: ∀ q∈ys.zip fr,N0[q.2]? =some q.1/\sc0.names.lookup q.1=some .cell/\(bo sc0 scope).lookup q.1=some .cell
noncomputable def cE (X:Cx) (x x2:Str) (ys:List Str) (scope:Scope) (C:Addr) (s:Shared) (H:Hp) (ex:List Addr):Cx:=
 {X with N:=x::x2::ys,s₀:=s,H₀:=H,env:=compEnvC scope (cb X.env.cells scope.names) C X.env,outer:=X.stack,stack:=X.stack,ex:=ex,fn:=fun _=>false,pn:=[],xe:=fun _ _=>False}
noncomputable def oM (fr:List Nat) (te:TE) (σ:St) (J:It) (H1:Hp) (Q:VK):Prop:=
 ∀ p,H1 p=none-> ∃ W:Nat->Nat->List V->Hp->Prop,(∃ m,W 0 m [] (upd H1 p (.lst [])))/\ ∀ i m ys H,W i m ys H->H p=some (.lst ys)/\
  ((J.stop i H/\Q (.ref p) H)\/(J.go i H/\ys.length<sizeLine/\ ∀ x H',J.yld i H x H'-> ∃ T v1 v2,x=.ref T/\H' T=some (.tup [v1,v2])/\te (some v1::some v2::bJ fr σ) H' fun v H2=>
   H2 p=some (.lst ys)/\ ∃ m',m'<m/\W (i+1) m' (ys++[v]) (upd H2 p (.lst (ys++[v])))))
noncomputable def nu (wi:TI) (fr:List Nat) (te:TE):TE:=fun σ H Q=>wi σ H fun J H1=>oM fr te σ J H1 Q
section
variable {X:Cx} {x x2:Str} {px px2 tpos pos fpos:Pos} {kk:Nat} {iter elt:Expr} {scope sc0:Scope} {N0 ys:List Str} {fr:List Nat} {wi:TI} {te:TE} {pins:List (Addr×Obj)} {σ:St} {H:Hp} {s:Shared}
theorem jf {use:Option (Value->Sem Unit)} {Qv:Value->Shared->Prop} {Q:VK} (hcalm:X.calm=true) (hi:PI X (.Tuple [.Name x px,.Name x2 px2] kk tpos) iter wi) (hsc:X.env.scope=sc0) (hN:X.N=N0) (ok:lH sc0 N0 scope x x2 ys fr)
  (hE: ∀ C s H ex,PE (cE X x x2 ys scope C s H ex) elt te) (I:Inv X pins σ H s) (h:nu wi fr te σ H Q) (hs: ∀ v,foldedSetIterable iter X.env v=pure v)
  (fin: ∀ (p C:Addr) (H':Hp) (s':Shared) (m:Str->Option Value),Inv X pins σ H' s'->s'.heap.Ns C m->H' C=none->C≠X.env.locals->X.s₀.heap.objs.size<=C->(∀ y c,X.env.cells.lookup y=some c->c≠C)->(∀ q∈X.pn++pins,q.1≠C)->Q (.ref p) H'->
   compPost (model X.prog X.w) X.A X.xe use Qv (.ref p) C (.ok .next) s'):
  wpAny (model X.prog X.w) X.A (comprehension (.ListComp elt [⟨.Tuple [.Name x px,.Name x2 px2] kk tpos,iter,[],0⟩] scope pos) scope X.env fpos (newList []) false (eval iter X.env) use) Qv X.xe s:=by
 subst hsc hN
 have hkof: ∀ y,X.env.kindOf y=X.env.scope.names.lookup y:=fun y=>rfl
 have hfree: ∀ y∈scope.names,y.2=.free-> ∃ c,X.env.cells.lookup y.1=some c:=fun y hy e=>I.ok.has y.1 (.inl (ok.free y hy e))
 refine wpAny_comprehension_free (gs:=[]) rfl hs (cU hfree) ok.kind ok.loc (thn (hi pins s σ H _ I h) fun v s1 h1=>thn h1 fun itv s2 h2=>?_)
 obtain ⟨it,fp,tn,J,H2,e,I2,T,st2,f2,hp⟩:=h2
 subst e
 refine wpAny_newObj_type (wpAny_newFunctionEnv ok.nocell (by intro y hy;simp at hy) (fun h₁ hns₁ hsb₁=>?_) ok.kind)
 dsimp only at hns₁ hsb₁ ⊢
 have I3:Inv X pins σ (upd H2 s2.heap.objs.size (.lst [])) {s2 with heap:=s2.heap.push {cls:=.type "list",data:=.seq ([]:List Value).toArray}}:=
  I2.lnew (its:=[]) (ys:=[]) (t':=s2.toks) .nil (Nat.zero_le _)
 have hf2: ∀ b∈fp,b<s2.heap.objs.size:=fun b hb=>by
  obtain ⟨o,e,_⟩:=T.obj _ _ st2 b hb
  exact Heap.lt_size e
 have hps:s2.heap.objs.size< (s2.heap.push {cls:=.type "list",data:=.seq ([]:List Value).toArray}).objs.size:=by rw [Heap.size_push];exact Nat.lt_succ_self _
 have W0:=hp s2.heap.objs.size I2.fresh
 have st3:tn 0 (s2.heap.push {cls:=.type "list",data:=.seq ([]:List Value).toArray}):=T.keep _ _ _ st2 fun b hb o e=>Heap.get?_push_of_some _ e
 generalize hpp:s2.heap.objs.size=p at I3 W0 hf2 hps ⊢
 generalize hh3:(s2.heap.push {cls:=.type "list",data:=.seq ([]:List Value).toArray})=h3 at I3 hns₁ hsb₁ hps st3 ⊢
 generalize hH3:upd H2 p (.lst [])=H3 at I3 W0
 have hold: ∀ b o,h3.get? b=some o->h₁.get? b=some o:=fun b o e=>hsb₁.extBut b o (Nat.ne_of_lt (Heap.lt_size e)) (Heap.get?_push_of_some _ e)
 have fH3: ∀ b∈fp,H3 b=none:=fun b hb=>by
  rw [<- hH3,ah (Nat.ne_of_lt (hf2 b hb))]
  exact (f2 b hb).1
 have hclos: ∀ y c,(cb X.env.cells scope.names).lookup y=some c->X.env.cells.lookup y=some c:=fun y c e=>bX e
 have hcell3: ∀ y c,X.env.cells.lookup y=some c->c<h3.objs.size:=fun y c e=>by
  obtain ⟨v,o,ho,_⟩:=I3.cell y c e
  exact Heap.lt_size ho
 have hlt3:X.env.locals<h3.objs.size:=I3.lt
 have Yok:(cE X x x2 ys scope h3.objs.size {s2 with heap:=h3} H3 fp).Ok:={
  mod:=I.ok.mod
  kind:=ok.kind
  glob:=I.ok.glob
  blt:=I.ok.blt
  above:=Nat.le_refl _
  inj:=fun y z c e1 e2=>I.ok.inj y z c (hclos _ _ e1) (hclos _ _ e2)
  has:=fun y hk=>by
   have hfr:(y,NameKind.free)∈scope.names:=by
    have hm: ∃ k,(bo X.env.scope scope).lookup y=some k/\(k=.cell\/k=.free):=by
     rcases hk with hk | hk
     ·exact ⟨_,hk,.inl rfl⟩
     ·exact ⟨_,hk,.inr rfl⟩
    obtain ⟨k,hk,hkk⟩:=hm
    have hmem:=mem_of_lookup hk
    unfold bo at hmem
    obtain ⟨⟨n,k0⟩,hn,en⟩:=List.mem_map.mp hmem
    dsimp only at en
    split at en
    ·rename_i hc
     simp only [Bool.and_eq_true]at hc
     have hk0:k0=.free:=by simpa using hc.1.1
     cases en
     rw [<- hk0]
     exact hn
    ·cases en
     rcases hkk with e | e
     ·exact absurd e (ok.nocell _ hn)
     ·rw [<- e]
      exact hn
   obtain ⟨c,hc⟩:=hfree _ hfr rfl
   exact ⟨c,cI hc hfr⟩
  cab:=fun y c hf _=>by cases hf
  hd:=I.ok.hd
  frames:=I.ok.frames
  stk:=.inl rfl
  exf:=fun b hb=>⟨fun e=>absurd (hf2 b hb) (by rw [e];exact Nat.not_lt.mpr (Nat.le_of_lt hps)),fun y c e=>(f2 b hb).2.2.2.2.1 y c (hclos _ _ e)⟩
  bs:=fun b o e=>⟨(I3.bs b o e).1,(I3.bs b o e).2⟩
  bsz:=Nat.le_trans I.ok.bsz I3.sz
  noex:=fun b o e hb=>by
   rcases (f2 b hb).2.2.2.1 with q | q
   ·exact I.ok.noex b o e q
   ·have h1:b<X.base.objs.size:=Heap.lt_size e
    exact absurd h1 (Nat.not_lt.mpr (Nat.le_trans I.ok.bsz q))
  exfs:=fun b hb hm=>by
   rcases List.mem_cons.mp (I3.stkSub b hm)with q | q
   ·exact (f2 b hb).2.1 q
   ·exact (f2 b hb).2.2.1 q
  funs:=I3.stack
  frf:=I3.stkFree}
 have IY:Inv (cE X x x2 ys scope h3.objs.size {s2 with heap:=h3} H3 fp) [] (none::none::bJ fr σ) H3 {s2 with heap:=h₁,toks:=s2.toks+ ([]:List (Str×Value)).length}:={
  ok:=Yok
  os:=rfl
  bare:=I2.bare
  base:=Un.kept hold
  loc:=by
   refine ⟨_,hns₁,fun i y v hy hv hvis=>?_⟩
   match i,hy,hv with
   | 0,_,hv=>cases hv
   | 1,_,hv=>cases hv
   | j+2,hy,hv=>
    have hy':ys[j]? =some y:=hy
    have hv':(bJ fr σ)[j]? =some (some v):=hv
    unfold bJ at hv'
    rw [List.getElem?_map]at hv'
    obtain ⟨i0,hi0,hv0⟩:=Option.map_eq_some_iff.mp hv'
    have hz:(y,i0)∈ys.zip fr:=by
     refine List.mem_iff_getElem?.mpr ⟨j,?_⟩
     rw [List.getElem?_zip_eq_some]
     exact ⟨hy',hi0⟩
    obtain ⟨hn,hk,hk2⟩:=ok.sl _ hz
    have hσ:σ[i0]? =some (some v):=by
     cases e:σ[i0]? with
     | none=>rw [e]at hv0;cases hv0
     | some o=>
      rw [e]at hv0
      rw [show o=some v from hv0]
    obtain ⟨m,hm,hl⟩:=I3.loc
    obtain ⟨u,ru,lk⟩:=hl i0 y v hn hσ (.inr (.inl hk))
    refine ⟨u,ru,.inr ⟨.inl hk2,?_⟩⟩
    rcases lk with ⟨a,_⟩ | ⟨_,c,hc,hcell⟩
    ·have a':X.env.scope.names.lookup y=some .local:=a
     have hk':X.env.scope.names.lookup y=some .cell:=hk
     rw [hk']at a'
     cases a'
    ·have hfr:(y,NameKind.free)∈scope.names:=by
      have hmem:=mem_of_lookup hk2
      unfold bo at hmem
      obtain ⟨⟨n,k0⟩,hn0,en⟩:=List.mem_map.mp hmem
      dsimp only at en
      split at en
      ·rename_i hc0
       simp only [Bool.and_eq_true]at hc0
       have hk0:k0=.free:=by simpa using hc0.1.1
       cases en
       rw [<- hk0]
       exact hn0
      ·cases en
       exact absurd rfl (ok.nocell _ hn0)
     exact ⟨c,cI hc hfr,hcell.keeps hold⟩
  cell:=fun y c e=>by
   obtain ⟨v,hv⟩:=I3.cell y c (hclos _ _ e)
   exact ⟨v,hv.keeps hold⟩
  free:=I3.fresh
  freeC:=fun y c e=>I3.freeC y c (hclos _ _ e)
  pin:=fun q hq=>by cases hq
  hok:=I3.hok.kept hold
  len:=by
   show (none::none::bJ fr σ).length=(x::x2::ys).length
   rw [List.length_cons,List.length_cons,List.length_cons,List.length_cons,ok.len]
   unfold bJ
   rw [List.length_map]}
 have hxl:(cE X x x2 ys scope h3.objs.size {s2 with heap:=h3} H3 fp).env.scope.names.lookup x=some .local:=ok.xl
 have hxl2:(cE X x x2 ys scope h3.objs.size {s2 with heap:=h3} H3 fp).env.scope.names.lookup x2=some .local:=ok.xl2
 have pgx:PG (cE X x x2 ys scope h3.objs.size {s2 with heap:=h3} H3 fp) (.Tuple [.Name x px,.Name x2 px2] kk tpos) (xL X.K 2 (tU (eD 0) (tU (eD 1) xM))):=
  cP hcalm (aG (av (i:=0) ok.nd rfl (.inl hxl) (.inr hxl)) (aG (av (i:=1) ok.nd rfl (.inl hxl2) (.inr hxl2)) ce))
 have pel:=hE h3.objs.size {s2 with heap:=h3} H3 fp
 obtain ⟨W,⟨m0,w0⟩,turn⟩:=W0
 have stat: ∀ {H':Hp},(∀ b∈fp,H' b=none)-> ∀ b∈fp,ib (cE X x x2 ys scope h3.objs.size {s2 with heap:=h3} H3 fp) [] H' b:=fun hn b hb=>
  ⟨hn b hb,(Yok.exf b hb).1,Yok.exfs b hb,.inl hb,(Yok.exf b hb).2,fun q hq=>by cases hq⟩
 have loop:codeAny (model X.prog X.w) X.A (.compLoop (.ListComp elt [⟨.Tuple [.Name x px,.Name x2 px2] kk tpos,iter,[],0⟩] scope pos) 0 (.ref it) (.ref p) (compEnvC scope (cb X.env.cells scope.names) h3.objs.size X.env))
   (compPost (model X.prog X.w) X.A X.xe use Qv (.ref p) h3.objs.size) {s2 with heap:=h₁,toks:=s2.toks+ ([]:List (Str×Value)).length}:=by
  refine fw (fun n s'=> ∃ i zs v0 w0 H',Inv (cE X x x2 ys scope h3.objs.size {s2 with heap:=h3} H3 fp) [] (v0::w0::bJ fr σ) H' s'/\tn i s'.heap/\(∀ b∈fp,H' b=none)/\W i n zs H') ?_ m0
   ⟨0,[],none,none,H3,IY,T.keep _ _ _ st3 fun b hb o e=>hold b o e,fH3,w0⟩
  rintro n s5 ⟨i,zs,v0,wv0,H5,I5,st5,fr5,w5⟩
  obtain ⟨hacc,turn5⟩:=turn i n zs H5 w5
  rcases turn5 with ⟨stop,qn⟩ | ⟨go,hlen,step⟩
  ·refine thn (T.done (cE X x x2 ys scope h3.objs.size {s2 with heap:=h3} H3 fp) rfl rfl rfl hcalm i [] s5 _ H5 _ I5 (stat fr5) st5 stop) fun r s6 ⟨hr,I6⟩=>?_
   subst hr
   obtain ⟨m6,n6,_⟩:=I6.loc
   refine fin p h3.objs.size H5 s6 m6 (I3.call' I6.os I6.base I6.hok I6.bare fun b hb=>⟨(f2 b hb).2.2.2.1,(f2 b hb).2.1,(f2 b hb).2.2.2.2.1,(f2 b hb).2.2.2.2.2⟩) n6 I6.free (Nat.ne_of_gt hlt3) I3.sz (fun y c e=>Nat.ne_of_lt (hcell3 y c e)) (fun q hq=>?_) qn
   exact Nat.ne_of_lt (Heap.lt_size (I3.pin q hq).1)
  ·refine thn (T.item (cE X x x2 ys scope h3.objs.size {s2 with heap:=h3} H3 fp) rfl rfl rfl hcalm i [] s5 _ H5 _ I5 (stat fr5) st5 go) fun r s6 ⟨u,hr,h6⟩=>?_
   subst hr
   refine thn h6 fun _ s7 ⟨xv,H7,I7,r7,y7,st7,fr7⟩=>?_
   have I7':=I7.pinned (stat fr7) (T.obj _ _ st7)
   obtain ⟨T7,v1,v2,eT,hT7,step7⟩:=step xv H7 y7
   refine thn (pgx _ s7 _ H7 xv u (fun σ' H'=>σ'=some v1::some v2::bJ fr σ/\H'=H7) I7' r7 ⟨T7,[v1,v2],eT,SqT.of hT7,rfl,v1,[v2],rfl,v2,[],rfl,rfl,rfl,rfl⟩) fun _ s8 ⟨σ8,H8,I8,e8,e8'⟩=>?_
   subst e8 e8'
   refine thn (pel _ s8 _ H8 _ I8 step7) fun yv s9 ⟨v9,H9,I9,r9,hp9,m',hm',w9⟩=>?_
   refine thn (bi _ s9 _ H9 (.ref p) [v9] (.ref p) [yv] (fun _ H'=>H'=upd H9 p (.lst (zs++[v9]))) I9 rfl (.cons r9 .nil) ⟨p,zs,v9,rfl,rfl,hp9,hlen,rfl⟩) fun _ s10 ⟨_,H10,I10,_,e10⟩=>?_
   subst e10
   refine ⟨m',hm',i+1,zs++[v9],some v1,some v2,_,I10.unpinned,T.keep _ _ _ st7 fun b hb o e=>(I10.pin (b,o) (List.mem_append_right _ (List.mem_append_right _ (bz hb e)))).1,fun b hb=>?_,w9⟩
   obtain ⟨o,e,d⟩:=T.obj _ _ st7 b hb
   exact (I10.pin (b,o) (List.mem_append_right _ (List.mem_append_right _ (bz hb e)))).2.1
 exact codeAny_compStart_list loop (T.self X.A 0 _ _ _ (T.keep _ _ _ st3 fun b hb o e=>hold b o e) loop)
theorem sL (hcalm:X.calm=true) (hi:PI X (.Tuple [.Name x px,.Name x2 px2] kk tpos) iter wi) (hsc:X.env.scope=sc0) (hN:X.N=N0) (ok:lH sc0 N0 scope x x2 ys fr)
  (hE: ∀ C s H ex,PE (cE X x x2 ys scope C s H ex) elt te) (hs: ∀ v,foldedSetIterable iter X.env v=pure v:=by intro _;rfl):
  PE X (.ListComp elt [⟨.Tuple [.Name x px,.Name x2 px2] kk tpos,iter,[],0⟩] scope pos) (nu wi fr te):=by
 intro pins s σ H Q I h
 rw [eval_ListComp]
 refine jf (use:=none) (Qv:=EP X pins σ Q) (Q:=Q) hcalm hi hsc hN ok hE I h hs fun p C H' s' m I' hn h0 h1 h2 h3 h4 q=>?_
 refine ⟨m,hn,fun h' sb=>⟨.ref p,H',I'.turned (t':=s'.toks) (fun b o hb e=>sb.extBut b o hb e) h0 (Ne.symm (Ne.symm h1)) (.inr h2) h3 h4,rfl,q⟩⟩
end
end L2
namespace My
open PySem L2
variable {P:Program} {w:World} {K:PySem.W.Frag} {mg:Str->Option Value} {base:Heap} {aD aR c f f2 f3 f4 f5 f6 f7 f8 f9 g tbA:Addr} {fd fd2 fd3 fd4 fd5 fd6 fd7 fd8 fd9 gd:FuncData}
noncomputable def vf (c:Nat):Bool:=decide (97<=c/\c<=122)
noncomputable def cJ (x:Str):Bool:=decide (1<=x.length)&&decide (x.length<=8)&&x.cps.toList.all vf
noncomputable def ops:List Str:=["plus","less","times","least","most"]
inductive Fm where
 | num (n:Int)
 | own (x:Str)
 | part (k:Int) (x:Str)
 | bin (op:Str) (a b:Fm)
 | whn (a b c:Fm)
noncomputable def Fm.size:Fm->Nat
 | .num _=>1
 | .own _=>1
 | .part _ _=>1
 | .bin _ a b=>a.size+b.size+1
 | .whn a b c=>a.size+b.size+c.size+1
noncomputable def Fm.wf:Fm->Prop
 | .num n=> -999999<=n/\n<=999999
 | .own x=>cJ x=true
 | .part k x=>(0<=k/\k<=2)/\cJ x=true
 | .bin op a b=>op∈ops/\a.wf/\b.wf
 | .whn a b c=>a.wf/\b.wf/\c.wf
theorem Fm.size_pos: ∀ f:Fm,1<=f.size
 | .num _=>Nat.le_refl 1
 | .own _=>Nat.le_refl 1
 | .part _ _=>Nat.le_refl 1
 | .bin _ a b=>by show 1<=a.size+b.size+1;lia
 | .whn a b c=>by show 1<=a.size+b.size+c.size+1;lia
noncomputable def Rep (H:Hp):Fm->V->Prop
 | .num n,v=> ∃ a,v=.ref a/\H a=some (.tup [.str "num",.int n])
 | .own x,v=> ∃ a,v=.ref a/\H a=some (.tup [.str "own",.str x])
 | .part k x,v=> ∃ a,v=.ref a/\H a=some (.tup [.str "part",.int k,.str x])
 | .bin op A B,v=> ∃ a u w,v=.ref a/\H a=some (.tup [.str op,u,w])/\Rep H A u/\Rep H B w
 | .whn A B C,v=> ∃ a u w z,v=.ref a/\H a=some (.tup [.str "when",u,w,z])/\Rep H A u/\Rep H B w/\Rep H C z
noncomputable def TK (H H':Hp):Prop:= ∀ a xs,H a=some (.tup xs)->H' a=some (.tup xs)
theorem TK.trans {H H1 H2:Hp} (a:TK H H1) (b:TK H1 H2):TK H H2:=fun c o h=>b c o (a c o h)
theorem TK.upd {H:Hp} {p:Addr} {o:HO} (h: ∀ xs,H p≠some (.tup xs)):TK H (upd H p o):=fun a xs e=>by
 by_cases q:a=p
 ·subst q
  exact absurd e (h xs)
 ·rw [ah q]
  exact e
theorem TK.lst {H:Hp} {p:Addr} {o:HO} {ys:List V} (h:H p=some (.lst ys)):TK H (L2.upd H p o):=TK.upd fun xs e=>by rw [h]at e;cases e
theorem TK.new {H:Hp} {p:Addr} {o:HO} (h:H p=none):TK H (L2.upd H p o):=TK.upd fun xs e=>by rw [h]at e;cases e
theorem Rep.mono {H H':Hp} (t:TK H H'): ∀ {f:Fm} {v:V},Rep H f v->Rep H' f v
 | .num _,_,⟨a,e,h⟩=>⟨a,e,t _ _ h⟩
 | .own _,_,⟨a,e,h⟩=>⟨a,e,t _ _ h⟩
 | .part _ _,_,⟨a,e,h⟩=>⟨a,e,t _ _ h⟩
 | .bin _ _ _,_,⟨a,u,w,e,h,r1,r2⟩=>⟨a,u,w,e,t _ _ h,Rep.mono t r1,Rep.mono t r2⟩
 | .whn _ _ _,_,⟨a,u,w,z,e,h,r1,r2,r3⟩=>⟨a,u,w,z,e,t _ _ h,Rep.mono t r1,Rep.mono t r2,Rep.mono t r3⟩
noncomputable def isV (T:String) (H:Hp) (v:V):Bool:=match v with
 | .bl _=>T=="bool"||T=="int"
 | .int _=>T=="int"
 | .str _=>T=="str"
 | .ref a=>(match H a with | some (.lst _)=>T=="list" | some (.tup _)=>T=="tuple" | some (.dK _)=>T=="dict" | _=>false)
 | _=>false
noncomputable def Sh (H:Hp):V->Prop
 | .non=>True
 | .bl _=>True
 | .int _=>True
 | .str x=>x.length<=1000
 | .ref a=>(∃ xs,H a=some (.lst xs))\/(∃ xs,H a=some (.tup xs))\/ ∃ kvs,H a=some (.dK kvs)
 | _=>False
section
variable {X:Cx}
theorem vi (K:PySem.W.Frag) (t T:String) (ht:t∈["NoneType","bool","int","str","list","tuple","dict"]) (hT:T∈["bool","int","str","list","tuple","dict"]):
  PySem.W.kitOne K (.type t) (.type T)=some (t==T||(t=="bool"&&T=="int")):=by
 simp only [List.mem_cons,List.not_mem_nil,or_false]at ht hT
 rcases ht with rfl | rfl | rfl | rfl | rfl | rfl | rfl <;> rcases hT with rfl | rfl | rfl | rfl | rfl | rfl <;> first | rfl | (with_unfolding_all rfl) | (with_unfolding_all decide)
theorem cy:c5 X (.builtin "isinstance") (fun xs H Q=> ∃ x T,xs=[x,.ty T]/\Sh H x/\T∈["bool","int","str","list","tuple","dict"]/\Q (.bl (isV T H x)) H):=by
 intro pins s σ H xs us Q I r h
 obtain ⟨x,T,rfl,hs,hT,q⟩:=h
 have go: ∀ t,gA X.K H x (.type t)->t∈["NoneType","bool","int","str","list","tuple","dict"]->isV T H x=(t==T||(t=="bool"&&T=="int"))->wpAny (model X.prog X.w) X.A (call (.builtin "isinstance") us) (EP X pins σ Q) X.xe s:=by
  intro t ty ht e
  refine ue pins s σ H _ us Q I r ⟨x,T,.type t,_,rfl,ty,vi X.K t T ht hT,?_⟩
  rw [<- e]
  exact q
 have hTT:=hT
 simp only [List.mem_cons,List.not_mem_nil,or_false]at hTT
 cases x with
 | non=>exact go _ .non (by simp) (by rcases hTT with rfl | rfl | rfl | rfl | rfl | rfl <;> rfl)
 | bl b=>exact go _ (.bl b) (by simp) (by rcases hTT with rfl | rfl | rfl | rfl | rfl | rfl <;> rfl)
 | int i=>exact go _ (.int i) (by simp) (by rcases hTT with rfl | rfl | rfl | rfl | rfl | rfl <;> rfl)
 | str z=>exact go _ (.str z) (by simp) (by rcases hTT with rfl | rfl | rfl | rfl | rfl | rfl <;> rfl)
 | ref a=>
  rcases hs with ⟨ys,e⟩ | ⟨ys,e⟩ | ⟨ys,e⟩
  ·exact go _ (.lst e) (by simp) (by simp only [isV,e];rcases hTT with rfl | rfl | rfl | rfl | rfl | rfl <;> rfl)
  ·exact go _ (.tup e) (by simp) (by simp only [isV,e];rcases hTT with rfl | rfl | rfl | rfl | rfl | rfl <;> rfl)
  ·exact go _ (.dK e) (by simp) (by simp only [isV,e];rcases hTT with rfl | rfl | rfl | rfl | rfl | rfl <;> rfl)
 | byt _=>exact hs.elim
 | flt _=>exact hs.elim
 | ty _=>exact hs.elim
end
end My
namespace L2
open PySem PySem.Spec PyProof.Rows
section
variable {prog:Program} {w:World} {A:Around} {R:Result->Shared->Prop} {s:Shared}
theorem jg {elt target iter cnd:Expr} {scope:Scope} {pos:Pos} {it acc:Value} {env:Env} (I:Nat->Shared->Prop)
  (turn: ∀ n s,I n s->wpAny (model prog w) A (pyNext it) (fun r s₁=>match r with
   | none=>R (.ok .next) s₁
   | some v=>wpAny (model prog w) A (letOwnedTupleGo target it v) (fun _ s₁'=>wpAny (model prog w) A (assign target env v) (fun _ s₂=>wpAny (model prog w) A (isTrue cnd env (eval cnd env)) (fun ok s₃=>
     if ok=true then wpAny (model prog w) A (eval elt env) (fun x s₄=>
      wpAny (model prog w) A (call (.builtin "list.append") [acc,x]) (fun _ s₅=> ∃ m,m<n/\I m s₅) (fun _ _=>False) s₄) (fun _ _=>False) s₃
     else ∃ m,m<n/\I m s₃) (fun _ _=>False) s₂) (fun _ _=>False) s₁') (fun _ _=>False) s₁) (fun _ _=>False) s)
  (n:Nat) (h:I n s):codeAny (model prog w) A (.compLoop (.ListComp elt [⟨target,iter,[cnd],0⟩] scope pos) 0 it acc env) R s:=by
 refine codeAny_loop rfl I (fun n s hI=>?_) n h
 show wpAny _ _ ((compTurn (.ListComp elt [⟨target,iter,[cnd],0⟩] scope pos) 0 it acc env).onRaise (fun x=>do noteFrame x env;theTreesLotGoes x)) _ _ s
 refine wpAny_noted ?_
 rw [compTurn_list]
 refine wpAny_noRaise ?_
 refine wpAny_bind (wpAny_standAt (wpAny_bind (wpAny_mono (turn n s hI) (fun r s₁ h₁=>?_) fun _ _ h'=>h')))
 cases r with
 | none=>exact wpAny_pure h₁
 | some v=>
  refine wpAny_bind (wpAny_mono h₁ (fun _ s₁' h₁'=>?_) fun _ _ h'=>h')
  refine wpAny_bind (wpAny_mono h₁' (fun _ s₂ h₂=>wpAny_bind (wpAny_mono (wpAny_tests_one h₂) (fun ok s₃ h₃=>?_) fun _ _ h'=>h')) fun _ _ h'=>h')
  cases ok with
  | false=>exact wpAny_pure ⟨rfl,h₃⟩
  | true=>
   exact wpAny_bind (wpAny_bind (wpAny_mono h₃ (fun x s₄ h₄=>wpAny_bind (wpAny_mono h₄ (fun _ s₅ h₅=>wpAny_pure (wpAny_pure ⟨rfl,h₅⟩)) fun _ _ h'=>h')) fun _ _ h'=>h'))
end
noncomputable def j8 (fr:List Nat) (tc:TT) (te:TE) (σ:St) (J:It) (H1:Hp) (Q:VK):Prop:=
 ∀ p,H1 p=none-> ∃ W:Nat->Nat->List V->Hp->Prop,(∃ m,W 0 m [] (upd H1 p (.lst [])))/\ ∀ i m ys H,W i m ys H->H p=some (.lst ys)/\
  ((J.stop i H/\Q (.ref p) H)\/(J.go i H/\ys.length<sizeLine/\ ∀ x H',J.yld i H x H'->tc (some x::bJ fr σ) H' fun b H2=>if b=true then te (some x::bJ fr σ) H2 fun v H3=>
   H3 p=some (.lst ys)/\ ∃ m',m'<m/\W (i+1) m' (ys++[v]) (upd H3 p (.lst (ys++[v])))else ∃ m',m'<m/\W (i+1) m' ys H2))
noncomputable def nr (wi:TI) (fr:List Nat) (tc:TT) (te:TE):TE:=fun σ H Q=>wi σ H fun J H1=>j8 fr tc te σ J H1 Q
section
variable {X:Cx} {x:Str} {px pos fpos:Pos} {iter elt cnd:Expr} {scope sc0:Scope} {N0 ys:List Str} {fr:List Nat} {wi:TI} {tc:TT} {te:TE} {pins:List (Addr×Obj)} {σ:St} {H:Hp} {s:Shared}
theorem je {use:Option (Value->Sem Unit)} {Qv:Value->Shared->Prop} {Q:VK} (hcalm:X.calm=true) (hi:PI X (.Name x px) iter wi) (hsc:X.env.scope=sc0) (hN:X.N=N0) (ok:fO sc0 N0 scope x ys fr)
  (hT: ∀ C s H ex,PT (bn X x ys scope C s H ex) cnd tc) (hE: ∀ C s H ex,PE (bn X x ys scope C s H ex) elt te) (I:Inv X pins σ H s) (h:nr wi fr tc te σ H Q) (hs: ∀ v,foldedSetIterable iter X.env v=pure v)
  (fin: ∀ (p C:Addr) (H':Hp) (s':Shared) (m:Str->Option Value),Inv X pins σ H' s'->s'.heap.Ns C m->H' C=none->C≠X.env.locals->X.s₀.heap.objs.size<=C->(∀ y c,X.env.cells.lookup y=some c->c≠C)->(∀ q∈X.pn++pins,q.1≠C)->Q (.ref p) H'->
   compPost (model X.prog X.w) X.A X.xe use Qv (.ref p) C (.ok .next) s'):
  wpAny (model X.prog X.w) X.A (comprehension (.ListComp elt [⟨.Name x px,iter,[cnd],0⟩] scope pos) scope X.env fpos (newList []) false (eval iter X.env) use) Qv X.xe s:=by
 subst hsc hN
 have hkof: ∀ y,X.env.kindOf y=X.env.scope.names.lookup y:=fun y=>rfl
 have hfree: ∀ y∈scope.names,y.2=.free-> ∃ c,X.env.cells.lookup y.1=some c:=fun y hy e=>I.ok.has y.1 (.inl (ok.free y hy e))
 refine wpAny_comprehension_free (gs:=[]) rfl hs (cU hfree) ok.kind ok.loc (thn (hi pins s σ H _ I h) fun v s1 h1=>thn h1 fun itv s2 h2=>?_)
 obtain ⟨it,fp,tn,J,H2,e,I2,T,st2,f2,hp⟩:=h2
 subst e
 refine wpAny_newObj_type (wpAny_newFunctionEnv ok.nocell (by intro y hy;simp at hy) (fun h₁ hns₁ hsb₁=>?_) ok.kind)
 dsimp only at hns₁ hsb₁ ⊢
 have I3:Inv X pins σ (upd H2 s2.heap.objs.size (.lst [])) {s2 with heap:=s2.heap.push {cls:=.type "list",data:=.seq ([]:List Value).toArray}}:=
  I2.lnew (its:=[]) (ys:=[]) (t':=s2.toks) .nil (Nat.zero_le _)
 have hf2: ∀ b∈fp,b<s2.heap.objs.size:=fun b hb=>by
  obtain ⟨o,e,_⟩:=T.obj _ _ st2 b hb
  exact Heap.lt_size e
 have hps:s2.heap.objs.size< (s2.heap.push {cls:=.type "list",data:=.seq ([]:List Value).toArray}).objs.size:=by rw [Heap.size_push];exact Nat.lt_succ_self _
 have W0:=hp s2.heap.objs.size I2.fresh
 have st3:tn 0 (s2.heap.push {cls:=.type "list",data:=.seq ([]:List Value).toArray}):=T.keep _ _ _ st2 fun b hb o e=>Heap.get?_push_of_some _ e
 generalize hpp:s2.heap.objs.size=p at I3 W0 hf2 hps ⊢
 generalize hh3:(s2.heap.push {cls:=.type "list",data:=.seq ([]:List Value).toArray})=h3 at I3 hns₁ hsb₁ hps st3 ⊢
 generalize hH3:upd H2 p (.lst [])=H3 at I3 W0
 have hold: ∀ b o,h3.get? b=some o->h₁.get? b=some o:=fun b o e=>hsb₁.extBut b o (Nat.ne_of_lt (Heap.lt_size e)) (Heap.get?_push_of_some _ e)
 have fH3: ∀ b∈fp,H3 b=none:=fun b hb=>by
  rw [<- hH3,ah (Nat.ne_of_lt (hf2 b hb))]
  exact (f2 b hb).1
 have hclos: ∀ y c,(cb X.env.cells scope.names).lookup y=some c->X.env.cells.lookup y=some c:=fun y c e=>bX e
 have hcell3: ∀ y c,X.env.cells.lookup y=some c->c<h3.objs.size:=fun y c e=>by
  obtain ⟨v,o,ho,_⟩:=I3.cell y c e
  exact Heap.lt_size ho
 have hlt3:X.env.locals<h3.objs.size:=I3.lt
 have Yok:(bn X x ys scope h3.objs.size {s2 with heap:=h3} H3 fp).Ok:={
  mod:=I.ok.mod
  kind:=ok.kind
  glob:=I.ok.glob
  blt:=I.ok.blt
  above:=Nat.le_refl _
  inj:=fun y z c e1 e2=>I.ok.inj y z c (hclos _ _ e1) (hclos _ _ e2)
  has:=fun y hk=>by
   have hfr:(y,NameKind.free)∈scope.names:=by
    have hm: ∃ k,(bo X.env.scope scope).lookup y=some k/\(k=.cell\/k=.free):=by
     rcases hk with hk | hk
     ·exact ⟨_,hk,.inl rfl⟩
     ·exact ⟨_,hk,.inr rfl⟩
    obtain ⟨k,hk,hkk⟩:=hm
    have hmem:=mem_of_lookup hk
    unfold bo at hmem
    obtain ⟨⟨n,k0⟩,hn,en⟩:=List.mem_map.mp hmem
    dsimp only at en
    split at en
    ·rename_i hc
     simp only [Bool.and_eq_true]at hc
     have hk0:k0=.free:=by simpa using hc.1.1
     cases en
     rw [<- hk0]
     exact hn
    ·cases en
     rcases hkk with e | e
     ·exact absurd e (ok.nocell _ hn)
     ·rw [<- e]
      exact hn
   obtain ⟨c,hc⟩:=hfree _ hfr rfl
   exact ⟨c,cI hc hfr⟩
  cab:=fun y c hf _=>by cases hf
  hd:=I.ok.hd
  frames:=I.ok.frames
  stk:=.inl rfl
  exf:=fun b hb=>⟨fun e=>absurd (hf2 b hb) (by rw [e];exact Nat.not_lt.mpr (Nat.le_of_lt hps)),fun y c e=>(f2 b hb).2.2.2.2.1 y c (hclos _ _ e)⟩
  bs:=fun b o e=>⟨(I3.bs b o e).1,(I3.bs b o e).2⟩
  bsz:=Nat.le_trans I.ok.bsz I3.sz
  noex:=fun b o e hb=>by
   rcases (f2 b hb).2.2.2.1 with q | q
   ·exact I.ok.noex b o e q
   ·have h1:b<X.base.objs.size:=Heap.lt_size e
    exact absurd h1 (Nat.not_lt.mpr (Nat.le_trans I.ok.bsz q))
  exfs:=fun b hb hm=>by
   rcases List.mem_cons.mp (I3.stkSub b hm)with q | q
   ·exact (f2 b hb).2.1 q
   ·exact (f2 b hb).2.2.1 q
  funs:=I3.stack
  frf:=I3.stkFree}
 have IY:Inv (bn X x ys scope h3.objs.size {s2 with heap:=h3} H3 fp) [] (none::bJ fr σ) H3 {s2 with heap:=h₁,toks:=s2.toks+ ([]:List (Str×Value)).length}:={
  ok:=Yok
  os:=rfl
  bare:=I2.bare
  base:=Un.kept hold
  loc:=by
   refine ⟨_,hns₁,fun i y v hy hv hvis=>?_⟩
   cases i with
   | zero=>cases hv
   | succ j=>
    have hy':ys[j]? =some y:=hy
    have hv':(bJ fr σ)[j]? =some (some v):=hv
    unfold bJ at hv'
    rw [List.getElem?_map]at hv'
    obtain ⟨i0,hi0,hv0⟩:=Option.map_eq_some_iff.mp hv'
    have hz:(y,i0)∈ys.zip fr:=by
     refine List.mem_iff_getElem?.mpr ⟨j,?_⟩
     rw [List.getElem?_zip_eq_some]
     exact ⟨hy',hi0⟩
    obtain ⟨hn,hk,hk2⟩:=ok.sl _ hz
    have hσ:σ[i0]? =some (some v):=by
     cases e:σ[i0]? with
     | none=>rw [e]at hv0;cases hv0
     | some o=>
      rw [e]at hv0
      rw [show o=some v from hv0]
    obtain ⟨m,hm,hl⟩:=I3.loc
    obtain ⟨u,ru,lk⟩:=hl i0 y v hn hσ (.inr (.inl hk))
    refine ⟨u,ru,.inr ⟨.inl hk2,?_⟩⟩
    rcases lk with ⟨a,_⟩ | ⟨_,c,hc,hcell⟩
    ·have a':X.env.scope.names.lookup y=some .local:=a
     have hk':X.env.scope.names.lookup y=some .cell:=hk
     rw [hk']at a'
     cases a'
    ·have hfr:(y,NameKind.free)∈scope.names:=by
      have hmem:=mem_of_lookup hk2
      unfold bo at hmem
      obtain ⟨⟨n,k0⟩,hn0,en⟩:=List.mem_map.mp hmem
      dsimp only at en
      split at en
      ·rename_i hc0
       simp only [Bool.and_eq_true]at hc0
       have hk0:k0=.free:=by simpa using hc0.1.1
       cases en
       rw [<- hk0]
       exact hn0
      ·cases en
       exact absurd rfl (ok.nocell _ hn0)
     exact ⟨c,cI hc hfr,hcell.keeps hold⟩
  cell:=fun y c e=>by
   obtain ⟨v,hv⟩:=I3.cell y c (hclos _ _ e)
   exact ⟨v,hv.keeps hold⟩
  free:=I3.fresh
  freeC:=fun y c e=>I3.freeC y c (hclos _ _ e)
  pin:=fun q hq=>by cases hq
  hok:=I3.hok.kept hold
  len:=by
   show (none::bJ fr σ).length=(x::ys).length
   rw [List.length_cons,List.length_cons,ok.len]
   unfold bJ
   rw [List.length_map]}
 have hxl:(bn X x ys scope h3.objs.size {s2 with heap:=h3} H3 fp).env.scope.names.lookup x=some .local:=ok.xl
 have pgx:PG (bn X x ys scope h3.objs.size {s2 with heap:=h3} H3 fp) (.Name x px) (eD 0):=av (i:=0) ok.nd rfl (.inl hxl) (.inr hxl)
 have pel:=hE h3.objs.size {s2 with heap:=h3} H3 fp
 have ptl:=hT h3.objs.size {s2 with heap:=h3} H3 fp
 obtain ⟨W,⟨m0,w0⟩,turn⟩:=W0
 have stat: ∀ {H':Hp},(∀ b∈fp,H' b=none)-> ∀ b∈fp,ib (bn X x ys scope h3.objs.size {s2 with heap:=h3} H3 fp) [] H' b:=fun hn b hb=>
  ⟨hn b hb,(Yok.exf b hb).1,Yok.exfs b hb,.inl hb,(Yok.exf b hb).2,fun q hq=>by cases hq⟩
 have loop:codeAny (model X.prog X.w) X.A (.compLoop (.ListComp elt [⟨.Name x px,iter,[cnd],0⟩] scope pos) 0 (.ref it) (.ref p) (compEnvC scope (cb X.env.cells scope.names) h3.objs.size X.env))
   (compPost (model X.prog X.w) X.A X.xe use Qv (.ref p) h3.objs.size) {s2 with heap:=h₁,toks:=s2.toks+ ([]:List (Str×Value)).length}:=by
  refine jg (fun n s'=> ∃ i zs v0 H',Inv (bn X x ys scope h3.objs.size {s2 with heap:=h3} H3 fp) [] (v0::bJ fr σ) H' s'/\tn i s'.heap/\(∀ b∈fp,H' b=none)/\W i n zs H') ?_ m0
   ⟨0,[],none,H3,IY,T.keep _ _ _ st3 fun b hb o e=>hold b o e,fH3,w0⟩
  rintro n s5 ⟨i,zs,v0,H5,I5,st5,fr5,w5⟩
  obtain ⟨hacc,turn5⟩:=turn i n zs H5 w5
  rcases turn5 with ⟨stop,qn⟩ | ⟨go,hlen,step⟩
  ·refine thn (T.done (bn X x ys scope h3.objs.size {s2 with heap:=h3} H3 fp) rfl rfl rfl hcalm i [] s5 _ H5 _ I5 (stat fr5) st5 stop) fun r s6 ⟨hr,I6⟩=>?_
   subst hr
   obtain ⟨m6,n6,_⟩:=I6.loc
   refine fin p h3.objs.size H5 s6 m6 (I3.call' I6.os I6.base I6.hok I6.bare fun b hb=>⟨(f2 b hb).2.2.2.1,(f2 b hb).2.1,(f2 b hb).2.2.2.2.1,(f2 b hb).2.2.2.2.2⟩) n6 I6.free (Nat.ne_of_gt hlt3) I3.sz (fun y c e=>Nat.ne_of_lt (hcell3 y c e)) (fun q hq=>?_) qn
   exact Nat.ne_of_lt (Heap.lt_size (I3.pin q hq).1)
  ·refine thn (T.item (bn X x ys scope h3.objs.size {s2 with heap:=h3} H3 fp) rfl rfl rfl hcalm i [] s5 _ H5 _ I5 (stat fr5) st5 go) fun r s6 ⟨u,hr,h6⟩=>?_
   subst hr
   refine thn h6 fun _ s7 ⟨xv,H7,I7,r7,y7,st7,fr7⟩=>?_
   have I7':=I7.pinned (stat fr7) (T.obj _ _ st7)
   refine thn (pgx _ s7 _ H7 xv u (fun σ' H'=>σ'=some xv::bJ fr σ/\H'=H7) I7' r7 ⟨rfl,rfl⟩) fun _ s8 ⟨σ8,H8,I8,e8,e8'⟩=>?_
   subst e8 e8'
   refine thn (ptl _ s8 _ H8 _ I8 (step xv H8 y7)) fun bb s8' ⟨H8',I8',hb⟩=>?_
   cases bb with
   | false=>
    obtain ⟨m',hm',w9⟩:=hb
    refine ⟨m',hm',i+1,zs,some xv,_,I8'.unpinned,T.keep _ _ _ st7 fun b hb o e=>(I8'.pin (b,o) (List.mem_append_right _ (List.mem_append_right _ (bz hb e)))).1,fun b hb=>?_,w9⟩
    obtain ⟨o,e,d⟩:=T.obj _ _ st7 b hb
    exact (I8'.pin (b,o) (List.mem_append_right _ (List.mem_append_right _ (bz hb e)))).2.1
   | true=>
   refine thn (pel _ s8' _ H8' _ I8' hb) fun yv s9 ⟨v9,H9,I9,r9,hp9,m',hm',w9⟩=>?_
   refine thn (bi _ s9 _ H9 (.ref p) [v9] (.ref p) [yv] (fun _ H'=>H'=upd H9 p (.lst (zs++[v9]))) I9 rfl (.cons r9 .nil) ⟨p,zs,v9,rfl,rfl,hp9,hlen,rfl⟩) fun _ s10 ⟨_,H10,I10,_,e10⟩=>?_
   subst e10
   refine ⟨m',hm',i+1,zs++[v9],some xv,_,I10.unpinned,T.keep _ _ _ st7 fun b hb o e=>(I10.pin (b,o) (List.mem_append_right _ (List.mem_append_right _ (bz hb e)))).1,fun b hb=>?_,w9⟩
   obtain ⟨o,e,d⟩:=T.obj _ _ st7 b hb
   exact (I10.pin (b,o) (List.mem_append_right _ (List.mem_append_right _ (bz hb e)))).2.1
 exact codeAny_compStart_list loop (T.self X.A 0 _ _ _ (T.keep _ _ _ st3 fun b hb o e=>hold b o e) loop)
theorem sK (hcalm:X.calm=true) (hi:PI X (.Name x px) iter wi) (hsc:X.env.scope=sc0) (hN:X.N=N0) (ok:fO sc0 N0 scope x ys fr)
  (hT: ∀ C s H ex,PT (bn X x ys scope C s H ex) cnd tc) (hE: ∀ C s H ex,PE (bn X x ys scope C s H ex) elt te) (hs: ∀ v,foldedSetIterable iter X.env v=pure v:=by intro _;rfl):
  PE X (.ListComp elt [⟨.Name x px,iter,[cnd],0⟩] scope pos) (nr wi fr tc te):=by
 intro pins s σ H Q I h
 rw [eval_ListComp]
 refine je (use:=none) (Qv:=EP X pins σ Q) (Q:=Q) hcalm hi hsc hN ok hT hE I h hs fun p C H' s' m I' hn h0 h1 h2 h3 h4 q=>?_
 refine ⟨m,hn,fun h' sb=>⟨.ref p,H',I'.turned (t':=s'.toks) (fun b o hb e=>sb.extBut b o hb e) h0 (Ne.symm (Ne.symm h1)) (.inr h2) h3 h4,rfl,q⟩⟩
theorem l8 {i:Nat} {y:Str} {py spos:Pos} (hcalm:X.calm=true) (hnd:X.N.Nodup) (hiN:X.N[i]? =some y) (hy:Loc X.env.scope y) (hi:PI X (.Name x px) iter wi) (hsc:X.env.scope=sc0) (hN:X.N=N0) (ok:fO sc0 N0 scope x ys fr)
  (hT: ∀ C s H ex,PT (bn X x ys scope C s H ex) cnd tc) (hE: ∀ C s H ex,PE (bn X x ys scope C s H ex) elt te) (hsw:swapsWith (.ListComp elt [⟨.Name x px,iter,[cnd],0⟩] scope pos) (some (.Name y py)) spos.line X.env=pure true:=by rfl)
  (hs: ∀ v,foldedSetIterable iter X.env v=pure v:=by intro _;rfl) (hf:X.fn y=true\/X.env.scope.names.lookup y=some .local:=by first | exact .inl rfl | exact .inr rfl | assumption):
  PS X (.Assign [.Name y py] (.ListComp elt [⟨.Name x px,iter,[cnd],0⟩] scope pos) spos) (lN (nr wi fr tc te) (eD i)):=by
 intro pins s σ H D I h
 rw [exec_Assign_Name_used _ _ _ _ hsw]
 refine wpAny_bind (wpAny_standAt (wpAny_bind ?_))
 show wpAny _ X.A (do let _ <- comprehension (.ListComp elt [⟨.Name x px,iter,[cnd],0⟩] scope pos) scope X.env _ (newList []) false (eval iter X.env) (some (assign (.Name y py) X.env))) _ _ s
 refine wpAny_bind (thn (je (use:=some (assign (.Name y py) X.env)) (Qv:=fun _ s'=>SP X pins D .next s') (Q:=fun v H'=>D.nx (σ.set i (some v)) H') hcalm hi hsc hN ok hT hE I h hs fun p C H' s' m I' hn h0 h1 h2 h3 h4 q=>?_) fun _ s' hq=>wpAny_pure (wpAny_pure hq))
 show wpAny _ X.A (assign (.Name y py) X.env (.ref p)) _ _ s'
 refine wpAny_assign_Name (eX (v:=.ref p) I' hnd hiN hy rfl (fun s'' I'' ⟨a,sb,ha⟩=>?_) hf)
 have hCa:C≠a:=by
  rcases ha with e | e
  ·rw [e];exact h1
  ·exact (h3 y a e).symm
 refine ⟨m,hn.sameBut sb hCa,fun h' sb'=>⟨_,H',I''.turned (t':=s''.toks) (fun b o hb e=>sb'.extBut b o hb e) h0 h1 (.inr h2) h3 h4,q⟩⟩
end
end L2
namespace My
open PySem L2
noncomputable def top (i:Nat):Stmt:=PySem.Challenge.pw_boughworth_k11_books_made_straight.main.body.getD i (.Pass ⟨0,0,0,0⟩)
noncomputable abbrev nG:Stmt:=top 7
noncomputable abbrev ko:Stmt:=top 8
noncomputable abbrev ig:Stmt:=top 9
noncomputable abbrev nC:Stmt:=top 10
noncomputable abbrev iJ:Stmt:=top 12
noncomputable abbrev iK:Stmt:=top 13
noncomputable abbrev iQ:Stmt:=top 14
noncomputable abbrev iM:Stmt:=top 15
noncomputable abbrev nF:Stmt:=top 16
noncomputable abbrev nI:Stmt:=top 17
noncomputable abbrev fX:Stmt:=top 19
noncomputable abbrev iN:Stmt:=top 20
noncomputable abbrev iP:Stmt:=top 23
noncomputable abbrev dE:Stmt:=top 24
noncomputable abbrev kw:Stmt:=top 25
noncomputable abbrev sn:Stmt:=top 26
noncomputable abbrev kH:Stmt:=top 27
noncomputable abbrev lW:Stmt:=top 28
noncomputable abbrev kx:Stmt:=top 29
noncomputable abbrev su:Stmt:=top 31
noncomputable abbrev sj:Stmt:=top 32
noncomputable abbrev nH:Stmt:=top 33
noncomputable abbrev eN:Stmt:=top 34
noncomputable abbrev ky:Stmt:=top 35
noncomputable abbrev sk:Stmt:=top 36
noncomputable abbrev dF:Stmt:=top 37
noncomputable abbrev nB:Stmt:=top 38
noncomputable abbrev eM:Stmt:=top 39
noncomputable abbrev di:Stmt:=top 40
noncomputable abbrev nE:Stmt:=top 41
noncomputable abbrev eC:Stmt:=top 42
noncomputable abbrev kz:Stmt:=top 43
noncomputable abbrev lV:Stmt:=top 44
noncomputable abbrev kG:Stmt:=top 45
noncomputable abbrev kr:Stmt:=top 46
noncomputable abbrev kq:Stmt:=top 47
noncomputable abbrev iL:Stmt:=top 48
noncomputable abbrev iO:Stmt:=top 49
noncomputable abbrev ee:Stmt:=top 50
noncomputable abbrev fF:Stmt:=top 51
noncomputable abbrev gE:Stmt:=top 52
noncomputable abbrev ku:Stmt:=top 53
noncomputable abbrev jF:Stmt:=top 54
structure Gb (mg:Str->Option Value):Prop where
 isi:mg "isinstance"=none
 int:mg "int"=none
 bool:mg "bool"=none
 str:mg "str"=none
 tuple:mg "tuple"=none
 len:mg "len"=none
 all:mg "all"=none
 range:mg "range"=none
 max:mg "max"=none
 min:mg "min"=none
noncomputable def ng:V->Bool
 | .int _=>true
 | _=>false
theorem vm {H:Hp} {v:V} (h:Sh H v):(if isV "int" H v=true then !isV "bool" H v else false)=ng v:=by
 cases v with
 | ref a=>rcases h with ⟨ys,e⟩ | ⟨ys,e⟩ | ⟨ys,e⟩ <;> (simp only [isV,e];rfl)
 | _=>rfl
theorem qb {Q:VK} {b b':Bool} {H:Hp} (q:Q (.bl b) H) (e:b=b'):Q (.bl b') H:=e▸q
theorem ag {H:Hp} {p:Addr} (h:H p=none) (o:HO):Same H (upd H p o):=fun b u q=>by rw [ah (af q h)];exact q
noncomputable def ka:Sp:=fun vs H Q _=> ∃ v,vs=[v]/\Sh H v/\Q (.bl (ng v)) H
noncomputable def cr (k:Str):Option Nat:=if k∈ops then some 2 else if k="when" then some 3 else none
noncomputable def bf:List V->List V
 | .str k::r=>if (cr k).isSome then r else []
 | _=>[]
noncomputable def jP:List (Key×V):=[(.inr "plus",.int 2),(.inr "less",.int 2),(.inr "times",.int 2),(.inr "least",.int 2),(.inr "most",.int 2),(.inr "when",.int 3)]
theorem wJ (k:Str):aU jP (.inr k)=(cr k).map fun (n:Nat)=>V.int n:=by
 unfold cr ops jP
 by_cases h1:k="plus"
 ·subst h1;decide +kernel
 by_cases h2:k="less"
 ·subst h2;decide +kernel
 by_cases h3:k="times"
 ·subst h3;decide +kernel
 by_cases h4:k="least"
 ·subst h4;decide +kernel
 by_cases h5:k="most"
 ·subst h5;decide +kernel
 by_cases h6:k="when"
 ·subst h6;decide +kernel
 have ne: ∀ {y:Str},¬ k=y-> ¬ (Sum.inr y:Key)=Sum.inr k:=fun h e=>h (Sum.inr.inj e).symm
 rw [bg (ne h1),bg (ne h2),bg (ne h3),bg (ne h4),bg (ne h5),bg (ne h6),rq,if_neg,if_neg h6]
 ·rfl
 ·simp only [List.mem_cons,List.not_mem_nil,or_false,not_or]
  exact ⟨h1,h2,h3,h4,h5⟩
theorem cz {α:Type} {x:α} {r:List α}:atI (x::r) 0=some x:=a8 (j:=0) rfl
theorem yA {α:Type} {x y:α} {r:List α}:atI (x::y::r) 1=some y:=a8 (j:=1) rfl
theorem yz {α:Type} {x y z:α} {r:List α}:atI (x::y::z::r) 2=some z:=a8 (j:=2) rfl
noncomputable def ke:Sp:=fun vs H Q _=> ∃ a k r,vs=[.ref a]/\H a=some (.tup (.str k::r))/\r.length<=1000/\ ∀ p H',Same H H'->H' p=some (.tup (bf (.str k::r)))->Q (.ref p) H'
theorem uG:ay ["formula"] ["formula"] (ak nG):=fsc
theorem iZ (F:Fun K "inner_of" "inner_of" nG f fd) (mD:mg "INNER_COUNTS"=some (.ref aD)) (D:vE P w K aD jP):ar P w K mg base CX0 1 f fd ["formula"] ke:=by
 refine F.ok uG (fun vs H Q E h=>?_) (fun cdv A outer s H vs Q E hr h=>?_)
 ·obtain ⟨a,k,r,rfl,_⟩:=h
  rfl
 obtain ⟨a,k,r,rfl,ha,hl,q⟩:=h
 refine ⟨_,aj (aB (eP (aC wq (aF aW (pv 0) ai (fun _ _=>rfl)) (gb (v:=.ref aD) rfl mD rfl) (by with_unfolding_all rfl)) (aS nA (pv 0) (aZ ai) ba) (aK ad))),?_⟩
 refine ⟨_,rfl,a,_,0,_,rfl,rfl,SqT.of ha,cz,.inr k,aD,jP,rfl,rfl,D,_,rfl,?_⟩
 have hv:=wJ k
 cases hk:cr k with
 | none=>
  rw [hk]at hv
  refine c8 (fun c=>?_) (fun c=>?_)
  ·rw [hv]at c
   exact absurd c (by decide)
  ·refine ⟨(by show 0<=sizeLine;decide),fun p hp=>?_⟩
   refine q p _ (ag hp _) ?_
   rw [ab]
   show some (HO.tup [])=some (HO.tup (if (cr k).isSome=true then r else []))
   rw [hk]
   rfl
 | some n=>
  rw [hk]at hv
  refine c8 (fun c=>?_) (fun c=>?_)
  ·refine ⟨_,rfl,1,rfl,a,_,rfl,SqT.of ha,?_,fun p hp=>?_⟩
   ·rintro ⟨h1,_⟩
    have:HT.sIx (V.str k::r).length 0 (some 1)=min 1 (V.str k::r).length:=HT.sIx_nat _ _ 1
    rw [this,List.length_cons]at h1
    lia
   ·refine q p _ (ag hp _) ?_
    rw [ab]
    have e1:HT.sIx (V.str k::r).length 0 (some 1)=1:=by
     have:HT.sIx (V.str k::r).length 0 (some 1)=min 1 (V.str k::r).length:=HT.sIx_nat _ _ 1
     rw [this,List.length_cons]
     lia
    have e2:cZ (V.str k::r) (some 1) none=r:=by
     unfold cZ
     rw [e1,HT.sIx_none,List.length_cons,List.drop_one,List.tail_cons,Nat.add_sub_cancel,List.take_length]
    show some (HO.tup (cZ (V.str k::r) (some 1) none))=some (HO.tup (if (cr k).isSome=true then r else []))
    rw [hk,e2]
    rfl
  ·rw [hv]at c
   exact absurd rfl c
noncomputable def Kp (tp:Addr) (H H':Hp):Prop:= ∀ b o,H b=some o->b≠tp->H' b=some o
theorem Kp.refl {tp:Addr} {H:Hp}:Kp tp H H:=fun _ _ h _=>h
theorem Kp.trans {tp:Addr} {H H1 H2:Hp} (a:Kp tp H H1) (b:Kp tp H1 H2):Kp tp H H2:=fun c o h n=>b c o (a c o h n) n
theorem Kp.same {tp:Addr} {H H1 H2:Hp} (a:Kp tp H H1) (b:Same H1 H2):Kp tp H H2:=fun c o h n=>b c o (a c o h n)
theorem Kp.tape {tp:Addr} {H:Hp} {o:HO}:Kp tp H (upd H tp o):=fun b u h n=>by rw [ah n];exact h
theorem Kp.new {tp p:Addr} {H H1:Hp} {o:HO} (a:Kp tp H H1) (h:H1 p=none):Kp tp H (upd H1 p o):=a.same (ag h _)
noncomputable def Tp (H:Hp) (tp:Addr):Prop:= ∃ t:Int,H tp=some (.lst [.int t])
theorem Kp.tk {tp:Addr} {H H':Hp} (a:Kp tp H H') (t:Tp H tp):TK H H':=fun b xs h=>a b _ h fun e=>by
 obtain ⟨t,ht⟩:=t
 subst e
 rw [ht]at h
 cases h
theorem Tp.new {H:Hp} {tp p:Addr} {o:HO} (t:Tp H tp) (h:H p=none):Tp (upd H p o) tp:=by
 obtain ⟨t,ht⟩:=t
 exact ⟨t,by rw [ah (af ht h)];exact ht⟩
noncomputable def rW (K:PySem.W.Frag):Sp:=fun vs H Q _=> ∃ (a:Addr) (ns:List Int) (k:Int),vs=[.ref a,.int k]/\SqL K H a (ns.map V.int)/\ns.length<=63/\0<=k/\ ∀ c:Int,Q (.int c) H
noncomputable def kb (K:PySem.W.Frag):Sp:=fun vs H Q _=> ∃ (a:Addr) (ns:List Int) (k:Int),vs=[.ref a,.int k]/\SqL K H a (ns.map V.int)/\ns.length<=63/\0<=k/\k<1000/\ ∀ p t,H p=none->Q (.ref p) (upd H p (.lst [.int t]))
noncomputable def cA:Sp:=fun vs H Q _=> ∃ (tp:Addr) (m:Int),vs=[.ref tp,.int m]/\Tp H tp/\0<m/\m<1073741824/\ ∀ d t:Int,0<=d->d<m->Q (.int d) (upd H tp (.lst [.int t]))
noncomputable def iH:Sp:=fun vs H Q _=> ∃ tp,vs=[.ref tp]/\Tp H tp/\ ∀ (n:Int) H',-999999<=n->n<=999999->Kp tp H H'->Tp H' tp->Q (.int n) H'
theorem v5:ay ["script","k"] ["script","k"] (ak su):=fsc
theorem uX (F:Fun K "_law_cell_at" "_law_cell_at" su f fd) (G:Gb mg):ar P w K mg base CX0 1 f fd ["script","k"] (rW K):=by
 refine F.ok v5 (fun vs H Q E h=>?_) (fun cdv A outer s H vs Q E hr h=>?_)
 ·obtain ⟨a,ns,k,rfl,_⟩:=h
  rfl
 obtain ⟨a,ns,k,rfl,hS,hl,hk,q⟩:=h
 refine ⟨_,ae (bh (aC ft (pv 1) (aw aA rfl G.len PySem.boot_len (aa (pv 0) ad)) (aJ _)) (aj (aB (aF aX (pv 0) (pv 1) (fun _ _=>rfl)))) aN) (aj (aB ai)),?_⟩
 refine ⟨_,rfl,_,rfl,a,_,rfl,.inl hS,_,_,rfl,rfl,_,rfl,?_⟩
 refine c8 (fun c=>?_) (fun c=>?_)
 ·have c':k< (((ns.map V.int).length:Nat):Int):=of_decide_eq_true c
  rw [List.length_map]at c'
  have hk':k.toNat<ns.length:=by lia
  have e:atI (ns.map V.int) k=some (V.int ns[k.toNat]):=by
   have ek:k=((k.toNat:Nat):Int):=by lia
   have q:atI (ns.map V.int) ((k.toNat:Nat):Int)=some (V.int ns[k.toNat]):=a8 (by rw [List.getElem?_map,List.getElem?_eq_getElem hk'] <;> rfl)
   rw [<- ek]at q
   exact q
  exact ⟨_,rfl,_,rfl,a,_,k,_,rfl,rfl,hS,e,q _⟩
 ·exact q 0
theorem scTape:ay ["script","k","cell","p","one","two","three","four"] ["script","k"] (ak sj):=fsc
theorem uU (F:Fun K "_law_tape" "_law_tape" sj f fd) (GC:ar P w K mg base CX0 1 g gd ["script","k"] (rW K)) (bC:Binds K gd ["script","k"] []) (kC:PySem.W.keepIn K (.ref g)=true) (mC:mg "_law_cell_at"=some (.ref g)):
  ar P w K mg base CX0 2 f fd ["script","k"] (kb K):=by
 refine F.ok scTape (fun vs H Q E h=>?_) (fun cdv A outer s H vs Q E hr h=>?_)
 ·obtain ⟨a,ns,k,rfl,_⟩:=h
  rfl
 obtain ⟨a,ns,k,rfl,hS,hl,hk,hk2,q⟩:=h
 refine ⟨_,ae (am (i:=2) scTape.nd rfl (Or.inl rfl) (al GC hr rfl mC kC bC .nil aq (aa (pv 0) (aa (pv 1) ad))))
  (ae (bh (aC cq (ax cG (pv 2) ai) ai (aJ _)) (aj (aB (bc (aa (ax lc (pv 2) ai) ad)))) aN)
  (ae (am (i:=3) scTape.nd rfl (Or.inl rfl) ai)
  (ae (am (i:=4) scTape.nd rfl (Or.inl rfl) (ax cG (ax be (ax be (ax c0 (ax cG (pv 2) (pv 3)) ai) (ax c0 ai (pv 1))) ai) (pv 3)))
  (ae (am (i:=5) scTape.nd rfl (Or.inl rfl) (ax cG (ax be (ax be (ax c0 (pv 4) (pv 4)) (ax c0 ai (pv 1))) (pv 4)) (pv 3)))
  (ae (am (i:=6) scTape.nd rfl (Or.inl rfl) (ax cG (ax be (ax c0 (pv 5) (pv 5)) (pv 4)) (pv 3)))
  (ae (am (i:=7) scTape.nd rfl (Or.inl rfl) (ax cG (ax be (ax c0 (pv 6) (pv 6)) (pv 5)) (pv 3)))
  (aj (aB (bc (aa (ax be (ax c0 (ax be (ax c0 (ax be (ax c0 (pv 4) (pv 3)) (pv 5)) (pv 3)) (pv 6)) (pv 3)) (pv 7)) ad)))))))))),?_⟩
 refine ⟨_,rfl,_,rfl,a,ns,k,rfl,hS,hl,hk,fun c=>?_⟩
 refine ⟨_,rfl,_,_,rfl,rfl,(by show (0:Int) <2;decide),rfl,_,rfl,?_⟩
 refine c8 (fun _=>?_) (fun _=>?_)
 ·exact ⟨_,rfl,_,_,rfl,rfl,⟨by decide,by decide⟩,(by show 1<=sizeLine;decide),fun p hp=>q p _ hp⟩
 have hp0:(0:Int) <2305843009213693951:=by decide
 have mm: ∀ x:Int,-(2^64) <x%2305843009213693951/\x%2305843009213693951<2^64:=fun x=>by
  have h1:=Int.emod_nonneg x (show (2305843009213693951:Int)≠0 by decide)
  have h2:=Int.emod_lt_of_pos x hp0
  lia
 have hkk: -(2^64) <k/\k<2^64:=by lia
 have hpp:(-(2^64):Int) <2305843009213693951/\(2305843009213693951:Int) <2^64:=by decide
 refine ⟨_,rfl,_,rfl,_,_,rfl,rfl,hp0,_,_,rfl,rfl,.inl (mm _),_,rfl,_,_,rfl,rfl,.inr hkk,_,_,rfl,rfl,_,_,rfl,rfl,_,rfl,_,_,rfl,rfl,hp0,?_⟩
 refine ⟨_,rfl,_,rfl,_,_,rfl,rfl,.inl (mm _),_,rfl,_,_,rfl,rfl,.inr hkk,_,_,rfl,rfl,_,rfl,_,_,rfl,rfl,_,rfl,_,_,rfl,rfl,hp0,?_⟩
 refine ⟨_,rfl,_,rfl,_,_,rfl,rfl,.inl (mm _),_,rfl,_,_,rfl,rfl,_,rfl,_,_,rfl,rfl,hp0,?_⟩
 refine ⟨_,rfl,_,rfl,_,_,rfl,rfl,.inl (mm _),_,rfl,_,_,rfl,rfl,_,rfl,_,_,rfl,rfl,hp0,?_⟩
 refine ⟨_,rfl,_,rfl,_,_,rfl,rfl,.inr hpp,_,rfl,_,_,rfl,rfl,_,rfl,_,_,rfl,rfl,.inr hpp,_,rfl,_,_,rfl,rfl,_,rfl,_,_,rfl,rfl,.inr hpp,_,rfl,_,_,rfl,rfl,(by show 1<=sizeLine;decide),fun p hp=>q p _ hp⟩
theorem scDigit:ay ["tape","many","found"] ["tape","many"] (ak nH):=fsc
theorem tE (F:Fun K "_law_digit" "_law_digit" nH f fd):ar P w K mg base CX0 1 f fd ["tape","many"] cA:=by
 refine F.ok scDigit (fun vs H Q E h=>?_) (fun cdv A outer s H vs Q E hr h=>?_)
 ·obtain ⟨tp,m,rfl,_⟩:=h
  rfl
 obtain ⟨tp,m,rfl,⟨t,ht⟩,hm,hm2,q⟩:=h
 refine ⟨_,ae (am (i:=2) scDigit.nd rfl (Or.inl rfl) (ax cG (aF aX (pv 0) ai (fun _ _=>rfl)) (pv 1)))
  (ae (nM (ax lc (aF aX (pv 0) ai (fun _ _=>rfl)) (pv 1)) (wn (pv 0) ai rZ))
  (aj (aB (pv 2)))),?_⟩
 refine ⟨_,rfl,tp,_,0,_,rfl,rfl,SqL.of ht,cz,_,rfl,_,_,rfl,rfl,hm,?_⟩
 refine ⟨_,rfl,tp,_,0,_,rfl,rfl,SqL.of ht,cz,_,rfl,_,_,rfl,rfl,⟨hm,hm2⟩,?_⟩
 refine ⟨_,rfl,tp,_,0,0,rfl,rfl,ht,rfl,?_⟩
 exact ⟨_,rfl,q (t%m) (t/m) (Int.emod_nonneg _ (by lia)) (Int.emod_lt_of_pos _ hm)⟩
theorem scNumber:ay ["tape","way"] ["tape"] (ak ky):=fsc
theorem qC (F:Fun K "_law_number" "_law_number" ky f fd) (GD:ar P w K mg base CX0 1 g gd ["tape","many"] cA) (bD:Binds K gd ["tape","many"] []) (kD:PySem.W.keepIn K (.ref g)=true) (mD:mg "_law_digit"=some (.ref g)):
  ar P w K mg base CX0 2 f fd ["tape"] iH:=by
 refine F.ok scNumber (fun vs H Q E h=>?_) (fun cdv A outer s H vs Q E hr h=>?_)
 ·obtain ⟨tp,rfl,_⟩:=h
  rfl
 obtain ⟨tp,rfl,hT,q⟩:=h
 refine ⟨_,ae (am (i:=1) scNumber.nd rfl (Or.inl rfl) (al GD hr rfl mD kD bD .nil aq (aa (pv 0) (aa ai ad))))
  (ae (bh (aC ft (pv 1) ai (aJ _)) (aj (aB (pv 1))) aN)
  (aj (aB (aF aX (bc (aa (pc j7 ai) (aa (ax fJ (al GD hr rfl mD kD bD .nil aq (aa (pv 0) (aa ai ad))) ai)
   (aa (ax fJ (al GD hr rfl mD kD bD .nil aq (aa (pv 0) (aa ai ad))) ai) ad)))) (ax fJ (pv 1) ai) (fun _ _=>rfl))))),?_⟩
 refine ⟨_,rfl,tp,6,rfl,hT,by decide,by decide,fun d t h0 h1=>?_⟩
 refine ⟨_,rfl,_,_,rfl,rfl,_,rfl,?_⟩
 refine c8 (fun c=>?_) (fun c=>?_)
 ·exact ⟨_,rfl,q d _ (by lia) (by lia) Kp.tape ⟨t,ab⟩⟩
 have c':3<=d:=by
  rcases Int.lt_or_le d 3 with z | z
  ·exact absurd (decide_eq_true z) c
  ·exact z
 refine ⟨_,rfl,_,rfl,tp,1001,rfl,⟨t,ab⟩,by decide,by decide,fun d2 t2 h20 h21=>?_⟩
 refine ⟨_,_,rfl,rfl,_,rfl,tp,1999999,rfl,⟨t2,ab⟩,by decide,by decide,fun d3 t3 h30 h31=>?_⟩
 refine ⟨_,_,rfl,rfl,(by show 3<=sizeLine;decide),fun p hp=>?_⟩
 rw [dv,dv]at hp ⊢
 have hd:d=3\/d=4\/d=5:=by lia
 have fin: ∀ n:Int,-999999<=n->n<=999999->Q (.int n) (upd (upd H tp (.lst [.int t3])) p (.lst [.int (-1),.int (d2-500),.int (d3-999999)])):=fun n h1 h2=>
  q n _ h1 h2 (Kp.tape.new hp) (Tp.new ⟨t3,ab⟩ hp)
 rcases hd with rfl | rfl | rfl
 ·exact ⟨_,rfl,_,_,rfl,rfl,p,_,0,_,rfl,rfl,SqL.of ab,cz,fin _ (by lia) (by lia)⟩
 ·exact ⟨_,rfl,_,_,rfl,rfl,p,_,1,_,rfl,rfl,SqL.of ab,yA,fin _ (by lia) (by lia)⟩
 ·exact ⟨_,rfl,_,_,rfl,rfl,p,_,2,_,rfl,rfl,SqL.of ab,yz,fin _ (by lia) (by lia)⟩
theorem fe {k:Str} (h:k∈ops):k.length<=1000:=by
 unfold ops at h
 simp only [List.mem_cons,List.not_mem_nil,or_false]at h
 rcases h with rfl | rfl | rfl | rfl | rfl <;> decide +kernel
theorem bw {x:Str} (h:cJ x=true):x.length<=1000:=by
 unfold cJ at h
 simp only [Bool.and_eq_true,decide_eq_true_eq]at h
 lia
theorem gN {op:Str} (h:op∈ops):cr op=some 2:=by unfold cr;rw [if_pos h]
theorem i7:cr "when"=some 3:=by decide +kernel
theorem fh:cr "num"=none:=by decide +kernel
theorem dN:cr "own"=none:=by decide +kernel
theorem du:cr "part"=none:=by decide +kernel
theorem lA {α:Type} {xs:List α} {d:Int} (h0:0<=d) (h1:d<xs.length): ∃ x,atI xs d=some x/\xs[d.toNat]? =some x:=by
 have hk:d.toNat<xs.length:=by lia
 have ek:d=((d.toNat:Nat):Int):=by lia
 have q:atI xs ((d.toNat:Nat):Int)=some xs[d.toNat]:=a8 (List.getElem?_eq_getElem hk)
 rw [<- ek]at q
 exact ⟨_,q,List.getElem?_eq_getElem hk⟩
theorem jD (z:Str) {j:Int} (h0:0<=j) (h1:j<=z.length):((Txt.slice z none (some j)).length:Int)=j:=by
 rcases PyProof.Rows.slice_ns_cases z j h0 with ⟨_,h⟩ | ⟨h,_⟩
 ·exact h
 ·lia
noncomputable def letters:Str:="abcdefghijklmnopqrstuvwxyz"
theorem mr:letters.cps.toList.all vf=true:=by decide +kernel
theorem gY:letters.length=26:=by decide +kernel
theorem qM {d:Int} (h0:0<=d) (h1:d<26): ∃ c,atI letters.cps.toList d=some c/\vf c=true:=by
 have hl:letters.cps.toList.length=26:=by decide +kernel
 obtain ⟨c,e,e2⟩:=lA (xs:=letters.cps.toList) h0 (by rw [hl];lia)
 exact ⟨c,e,List.all_eq_true.mp mr c (List.mem_of_getElem? e2)⟩
theorem vC (x y:Str):(x++y).length=x.length+y.length:=by
 show (x.cps++y.cps).size=_
 rw [Array.size_append]
 rfl
noncomputable def names13:List Str:=["own","up","down","min","max","of","top","form","sort","wheel","book","tree","ok"]
theorem aneq:(Txt.slice "aneqoubi" none (some 7)).length=7/\(Txt.slice "aneqoubi" none (some 7)).cps.toList.all vf=true:=by decide +kernel
theorem pI:("eyzmopq":Str).length=7:=by decide +kernel
theorem Tp.same {H H':Hp} {tp:Addr} (t:Tp H tp) (s:Same H H'):Tp H' tp:=by
 obtain ⟨t0,e⟩:=t
 exact ⟨t0,s _ _ e⟩
noncomputable def ms (d:Int):Nat:=(atI letters.cps.toList d).getD 0
noncomputable def dY (tu:Int):Str:=(⟨#[ms tu]⟩:Str)++Txt.slice "aneqoubi" none (some 7)
noncomputable def nm0 (tu:Int) (i:Nat):Str:=if (0+ (i:Int)) <8 then Txt.slice (dY tu) none (some (0+ (i:Int) +1))else (⟨#[ms ((tu+1) %26)]⟩:Str)++Txt.slice (dY tu) none (some (0+ (i:Int) -8))
noncomputable def nm1 (tu:Int) (i:Nat):Str:=((names13)[((tu+ (0+ (i:Int))) %13).toNat]?).getD ""
noncomputable def nm2 (tu:Int) (i:Nat):Str:=(⟨#[ms ((tu+ (0+ (i:Int))) %26)]⟩:Str)++Txt.slice "eyzmopq" none (some ((tu+3* (0+ (i:Int))) %8))
noncomputable def jn (way:Nat) (tu:Int) (i:Nat):Str:=if way=0 then nm0 tu i else if way=1 then nm1 tu i else nm2 tu i
noncomputable def NamesAre (m:Nat) (ws:List Str):Prop:= ∃ (way tu:Nat) (back:Bool),way<3/\tu<26/\ws=(if back=true then ((List.range m).map (jn way tu)).reverse else (List.range m).map (jn way tu))
noncomputable def fS:Sp:=fun vs H Q _=> ∃ tp m,vs=[.ref tp,.int m]/\Tp H tp/\0<=m/\m<=13/\
 ∀ l (ws:List Str) H',H' l=some (.lst (ws.map V.str))->(ws.length:Int)=m->NamesAre m.toNat ws->l≠tp->Kp tp H H'->Tp H' tp->Q (.ref l) H'
theorem lj {d:Int} (h0:0<=d) (h1:d<26):atI letters.cps.toList d=some (ms d):=by
 obtain ⟨c,e,_⟩:=qM h0 h1
 unfold ms
 rw [e]
 rfl
theorem rQ (tu:Int):(dY tu).length=8:=by unfold dY;rw [vC,aneq.1];rfl
theorem scNamesX:ay ["tape","many","letters","way","turn","back","stem","names","words"] ["tape","many"] (ak eN):=fsc
theorem qD (F:Fun K "_law_names" "_law_names" eN f fd) (G:Gb mg) (GD:ar P w K mg base CX0 1 g gd ["tape","many"] cA) (bD:Binds K gd ["tape","many"] []) (kD:PySem.W.keepIn K (.ref g)=true) (mD:mg "_law_digit"=some (.ref g)):
  ar P w K mg base CX0 2 f fd ["tape","many"] fS:=by
 refine F.ok scNamesX (fun vs H Q E h=>?_) (fun cdv A outer s H vs Q E hr h=>?_)
 ·obtain ⟨tp,m,rfl,_⟩:=h
  rfl
 obtain ⟨tp,m,rfl,hT,hm0,hm1,q⟩:=h
 obtain ⟨t,ht,hread⟩: ∃ t,PSs (eU CX0 P w K mg base ["tape","many","letters","way","turn","back","stem","names","words"] "_law_names" (ak eN) f cdv A outer s H E).nox ((cp eN).drop 5) t/\
   ∀ (b:Int) (l:Addr) (way tu:Nat) (H2:Hp) (o2 o3 o4 o6 o8:Option V),(b=1\/b= -1)->way<3->tu<26->H2 l=some (.lst (((List.range m.toNat).map (jn way tu)).map V.str))->Kp tp H H2->Tp H2 tp->
    t {nx:=fun _ H'=>Q .non H',rt:=Q} [some (.ref tp),some (.int m),o2,o3,o4,some (.int b),o6,some (.ref l),o8] H2:=by
  refine ⟨_,aj (aB (uR (pv 7) (pv 5))),fun b l way tu H2 o2 o3 o4 o6 o8 hb hw1 hw2 hl k2 t2=>?_⟩
  have hlen:(((List.range m.toNat).map (jn way tu)).length:Int)=m:=by rw [List.length_map,List.length_range];lia
  refine ⟨_,rfl,_,rfl,l,_,b,rfl,rfl,SqL.of hl,by lia,fun p hp=>?_⟩
  have hpt:p≠tp:=fun e=>by
   obtain ⟨t0,e0⟩:=t2
   subst e
   rw [e0]at hp
   cases hp
  rcases hb with rfl | rfl
  ·rw [pX]
   exact q p _ _ ab hlen ⟨way,tu,false,hw1,hw2,rfl⟩ hpt (k2.new hp) (t2.new hp)
  ·rw [pY,<- List.map_reverse]
   exact q p _ _ ab (by rw [List.length_reverse];exact hlen) ⟨way,tu,true,hw1,hw2,rfl⟩ hpt (k2.new hp) (t2.new hp)
 have cw: ∀ {te:TE} {fr:List Nat} {σ:St} {H2:Hp} {Q2:VK} (g:Nat->Str),(∀ (i:Nat) (H3:Hp) (k:VK),(i:Int) <m->k (.str (g i)) H3->te (some (.int (0+i))::bJ fr σ) H3 k)->
   (∀ p,H2 p=none->Q2 (.ref p) (upd H2 p (.lst (((List.range m.toNat).map g).map V.str))))->fC fr te σ (Itr 0 m.toNat) H2 Q2:=by
  intro te fr σ H2 Q2 g hs hd
  refine fj (n:=m.toNat) (R:=fun i v=>v=.int (0+i)) (by lia) lq gm ip
   (fun p i zs H'=>H'=upd H2 p (.lst zs)/\zs=((List.range i).map g).map V.str) (fun p hp=>⟨rfl,rfl⟩) ?_ ?_ ?_
  ·rintro p i zs H' ⟨rfl,rfl⟩
   exact ⟨ab,by rw [List.length_map,List.length_map,List.length_range]⟩
  ·rintro p i zs H' v k hp hi rfl ⟨rfl,rfl⟩ hk
   exact hs i _ k (by lia) (hk (.str (g i)) _ ab ⟨dv,by rw [List.range_succ];simp⟩)
  ·rintro p zs H' hp ⟨rfl,rfl⟩
   exact hd p hp
 refine ⟨_,ae (am (i:=2) scNamesX.nd rfl (Or.inr rfl) aL)
  (ae (am (i:=3) scNamesX.nd rfl (Or.inl rfl) (al GD hr rfl mD kD bD .nil aq (aa (pv 0) (aa ai ad))))
  (ae (am (i:=4) scNamesX.nd rfl (Or.inr rfl) (al GD hr rfl mD kD bD .nil aq (aa (pv 0) (aa ai ad))))
  (ae (am (i:=5) scNamesX.nd rfl (Or.inl rfl) (ax fJ ai (ax c0 ai (al GD hr rfl mD kD bD .nil aq (aa (pv 0) (aa ai ad))))))
  (ae (bh (aC cq (pv 3) ai (aJ _))
   (ae (am (i:=6) scNamesX.nd rfl (Or.inr rfl) (ax fK (aF om (pv 2) (pv 4) (fun _ _=>rfl)) (aS kj aL ba (aZ ai))))
   (aj (cT (i:=7) (sc0:=ak eN) (N0:=["tape","many","letters","way","turn","back","stem","names","words"]) (ys:=["letters","stem","turn"]) (fr:=[2,6,4]) rfl scNamesX.nd rfl (Or.inl rfl) (bq rfl G.range (aa (pv 1) ad)) rfl rfl
    cok
    (fun C s H ex=>eP (aC ft (pv 0) ai (aJ _)) (aS kj (pv 2) ba (aZ (ax be (pv 0) ai)))
     (ax fK (aF om (pv 1) (ax cG (ax be (pv 3) ai) ai) (fun _ _=>rfl)) (aS kj (pv 2) ba (aZ (ax fJ (pv 0) ai))))))))
   (aj (bh (aC cq (pv 3) ai (aJ _))
    (@ae _ _ _ _ _ (@uP _ 8 _ _ (names13.map V.str) _ _ _ scNamesX.nd rfl (Or.inr rfl) (Or.inl rfl) rfl)
    (aj (cT (i:=7) (sc0:=ak eN) (N0:=["tape","many","letters","way","turn","back","stem","names","words"]) (ys:=["turn","words"]) (fr:=[4,8]) rfl scNamesX.nd rfl (Or.inl rfl) (bq rfl G.range (aa (pv 1) ad)) rfl rfl
     cok
     (fun C s H ex=>aF (r:=xr K) aX (pv 2) (ax cG (ax be (pv 1) (pv 0)) ai) (fun _ _=>rfl)))))
    (aj (cT (i:=7) (sc0:=ak eN) (N0:=["tape","many","letters","way","turn","back","stem","names","words"]) (ys:=["letters","turn"]) (fr:=[2,4]) rfl scNamesX.nd rfl (Or.inl rfl) (bq rfl G.range (aa (pv 1) ad)) rfl rfl
     cok
     (fun C s H ex=>ax fK (aF om (pv 1) (ax cG (ax be (pv 2) (pv 0)) ai) (fun _ _=>rfl)) (aS kj aL ba (aZ (ax cG (ax be (pv 2) (ax c0 ai (pv 0))) ai)))))))))
  ht)))),?_⟩
 refine ⟨_,rfl,tp,3,rfl,hT,by decide,by decide,fun wy t1 hw0 hw1=>?_⟩
 refine ⟨_,rfl,tp,26,rfl,⟨t1,ab⟩,by decide,by decide,fun tu t2 htu0 htu1=>?_⟩
 rw [dv]
 refine ⟨_,rfl,tp,2,rfl,⟨t2,ab⟩,by decide,by decide,fun bk t3 hb0 hb1=>?_⟩
 rw [dv]
 refine ⟨2,_,rfl,rfl,.inl ⟨by decide,by decide⟩,1,_,rfl,rfl,?_⟩
 have hb:(1-2*bk=1\/1-2*bk= -1):=by lia
 have k3:Kp tp H (upd H tp (.lst [.int t3])):=Kp.tape
 have tt3:Tp (upd H tp (.lst [.int t3])) tp:=⟨t3,ab⟩
 generalize upd H tp (.lst [.int t3])=H3 at k3 tt3 ⊢
 have l26:(letters.length:Int)=26:=by rw [gY];rfl
 have lsz:letters.length<=sizeLine:=by rw [gY];exact Nat.le_of_lt (ao (by decide))
 refine ⟨_,rfl,rfl,_,rfl,?_⟩
 refine c8 (fun c=>?_) (fun c=>?_)
 ·-- stems
  have hwy:wy=0:=V.int.inj (of_decide_eq_true c)
  have ec0:=lj htu0 htu1
  refine ⟨_,rfl,_,rfl,letters,tu,ms tu,rfl,rfl,lsz,ec0,7,rfl,"aneqoubi",rfl,(by decide +kernel),_,_,rfl,rfl,?_,?_⟩
  ·rw [aneq.1]
   show 1+7<=sizeLine
   exact Nat.le_of_lt (ao (by decide))
  have zl:=rQ tu
  have zsz:(dY tu).length<=sizeLine:=by rw [zl];exact Nat.le_of_lt (ao (by decide))
  refine ⟨_,rfl,m,rfl,by lia,by lia,?_⟩
  refine cw (nm0 tu) ?_ ?_
  ·intro i H4 k hi hk
   refine ⟨_,rfl,_,_,rfl,rfl,_,rfl,?_⟩
   refine c8 (fun ci=>?_) (fun ci=>?_)
   ·have ci':(0+ (i:Int)) <8:=of_decide_eq_true ci
    refine ⟨_,rfl,_,rfl,_,_,rfl,rfl,_,rfl,dY tu,rfl,zsz,?_⟩
    unfold nm0 at hk
    rw [if_pos ci']at hk
    exact hk
   ·have ci': ¬ (0+ (i:Int)) <8:=fun y=>ci (decide_eq_true y)
    have ec1:=lj (d:=(tu+1) %26) (Int.emod_nonneg _ (by decide)) (Int.emod_lt_of_pos _ (by decide))
    have e:=jD (dY tu) (j:=0+ (i:Int) -8) (by lia) (by rw [zl];lia)
    unfold nm0 at hk
    rw [if_neg ci']at hk
    refine ⟨_,rfl,_,rfl,_,_,rfl,rfl,_,_,rfl,rfl,(by show (0:Int) <26;decide),letters,_,ms ((tu+1) %26),rfl,rfl,lsz,ec1,_,rfl,_,rfl,_,_,rfl,rfl,_,rfl,dY tu,rfl,zsz,_,_,rfl,rfl,?_,hk⟩
    show 1+ (Txt.slice (dY tu) none (some (0+ (i:Int) -8))).length<=sizeLine
    exact Nat.le_of_lt (ao (by lia))
  ·intro p hp
   have etu:((tu.toNat:Nat):Int)=tu:=by lia
   refine hread (1-2*bk) p 0 tu.toNat _ _ _ _ _ _ hb (by decide) (by lia) ?_ (k3.new hp) (tt3.new hp)
   rw [etu]
   exact ab
 ·refine ⟨_,rfl,rfl,_,rfl,?_⟩
  refine c8 (fun c2=>?_) (fun c2=>?_)
  ·-- written words
   refine ⟨(by show 13<=sizeLine;decide),fun pw hpw=>?_⟩
   refine ⟨_,rfl,m,rfl,by lia,by lia,?_⟩
   have s4:Same H3 (upd H3 pw (.lst (names13.map V.str))):=ag hpw _
   have g4:(upd H3 pw (.lst (names13.map V.str))) pw=some (.lst (names13.map V.str)):=ab
   have k4:Kp tp H (upd H3 pw (.lst (names13.map V.str))):=k3.same s4
   have tt4:Tp (upd H3 pw (.lst (names13.map V.str))) tp:=tt3.new hpw
   generalize upd H3 pw (.lst (names13.map V.str))=H4 at s4 g4 k4 tt4 ⊢
   refine fj (n:=m.toNat) (R:=fun i v=>v=.int (0+i)) (by lia) lq gm ip
    (fun p i zs H'=>H'=upd H4 p (.lst zs)/\H4 p=none/\zs=((List.range i).map (nm1 tu)).map V.str) (fun p hp=>⟨rfl,hp,rfl⟩) ?_ ?_ ?_
   ·rintro p i zs H' ⟨rfl,_,rfl⟩
    exact ⟨ab,by rw [List.length_map,List.length_map,List.length_range]⟩
   ·rintro p i zs H' v k hp hi rfl ⟨rfl,hp4,rfl⟩ hk
    have h1:=Int.emod_nonneg (tu+ (0+ (i:Int))) (show (13:Int)≠0 by decide)
    have h2:=Int.emod_lt_of_pos (tu+ (0+ (i:Int))) (show (0:Int) <13 by decide)
    obtain ⟨xv,ex,ex2⟩:=lA (xs:=names13.map V.str) h1 (by rw [List.length_map];exact h2)
    have exv:xv=.str (nm1 tu i):=by
     rw [List.getElem?_map]at ex2
     unfold nm1
     cases hx:names13[((tu+ (0+ (i:Int))) %13).toNat]? with
     | none=>rw [hx]at ex2;cases ex2
     | some y=>rw [hx]at ex2;exact (Option.some.inj ex2).symm
    subst exv
    have g5:(upd H4 p (.lst (((List.range i).map (nm1 tu)).map V.str))) pw=some (.lst (names13.map V.str)):=by rw [ah (af g4 hp4)];exact g4
    refine ⟨_,rfl,_,rfl,_,rfl,_,_,rfl,rfl,_,_,rfl,rfl,(by show (0:Int) <13;decide),pw,_,_,_,rfl,rfl,SqL.of g5,ex,?_⟩
    exact hk _ _ ab ⟨dv,hp4,by rw [List.range_succ];simp⟩
   ·rintro p zs H' hp ⟨rfl,hp4,rfl⟩
    have etu:((tu.toNat:Nat):Int)=tu:=by lia
    refine hread (1-2*bk) p 1 tu.toNat _ _ _ _ _ _ hb (by decide) (by lia) ?_ (k4.new hp4) (tt4.new hp4)
    rw [etu]
    exact ab
  ·-- a letter and a tail
   refine ⟨_,rfl,m,rfl,by lia,by lia,?_⟩
   refine cw (nm2 tu) ?_ ?_
   ·intro i H4 k hi hk
    have ec1:=lj (d:=(tu+ (0+ (i:Int))) %26) (Int.emod_nonneg _ (by decide)) (Int.emod_lt_of_pos _ (by decide))
    have h1:=Int.emod_nonneg (tu+3* (0+ (i:Int))) (show (8:Int)≠0 by decide)
    have h2:=Int.emod_lt_of_pos (tu+3* (0+ (i:Int))) (show (0:Int) <8 by decide)
    have e:=jD "eyzmopq" (j:=(tu+3* (0+ (i:Int))) %8) h1 (by rw [pI];lia)
    refine ⟨_,rfl,_,rfl,_,rfl,_,_,rfl,rfl,_,_,rfl,rfl,(by show (0:Int) <26;decide),letters,_,ms ((tu+ (0+ (i:Int))) %26),rfl,rfl,lsz,ec1,_,rfl,_,rfl,3,_,rfl,rfl,.inl ⟨by decide,by decide⟩,_,_,rfl,rfl,_,_,rfl,rfl,(by show (0:Int) <8;decide),_,rfl,"eyzmopq",rfl,(by rw [pI];exact Nat.le_of_lt (ao (by decide))),_,_,rfl,rfl,?_,hk⟩
    ·show 1+ (Txt.slice "eyzmopq" none (some ((tu+3* (0+ (i:Int))) %8))).length<=sizeLine
     exact Nat.le_of_lt (ao (by lia))
   ·intro p hp
    have etu:((tu.toNat:Nat):Int)=tu:=by lia
    refine hread (1-2*bk) p 2 tu.toNat _ _ _ _ _ _ hb (by decide) (by lia) ?_ (k3.new hp) (tt3.new hp)
    rw [etu]
    exact ab
theorem dR (xs:List V) {j:Int} (h0:0<=j) (h1:j<=xs.length):cZ xs none (some j)=xs.take j.toNat:=by
 have ej:j=((j.toNat:Nat):Int):=by lia
 have e:HT.sIx xs.length xs.length (some j)=j.toNat:=by
  rw [ej,HT.sIx_nat]
  lia
 unfold cZ
 rw [e,HT.sIx_none,List.drop_zero,Nat.sub_zero]
theorem jd (xs:List V) {j:Int} (h0:0<=j) (h1:j<=xs.length):cZ xs (some j) none=xs.drop j.toNat:=by
 have ej:j=((j.toNat:Nat):Int):=by lia
 have e:HT.sIx xs.length 0 (some j)=j.toNat:=by
  rw [ej,HT.sIx_nat]
  lia
 unfold cZ
 rw [e,HT.sIx_none]
 apply List.take_of_length_le
 rw [List.length_drop]
 lia
theorem vZ {xs:List V} {j:Nat} (h:j+2<=xs.length): ∃ a x y b,xs=a++x::y::b/\a.length=j/\xs.take j=a/\xs.drop (j+2)=b:=by
 refine ⟨xs.take j,xs[j],xs[j+1],xs.drop (j+2),?_,by rw [List.length_take];lia,rfl,rfl⟩
 rw [<- List.drop_eq_getElem_cons (by lia),<- List.drop_eq_getElem_cons (by lia),List.take_append_drop]
theorem vY {xs:List V} {j:Nat} (h:j+3<=xs.length): ∃ a x y z b,xs=a++x::y::z::b/\a.length=j/\xs.take j=a/\xs.drop (j+3)=b:=by
 refine ⟨xs.take j,xs[j],xs[j+1],xs[j+2],xs.drop (j+3),?_,by rw [List.length_take];lia,rfl,rfl⟩
 rw [<- List.drop_eq_getElem_cons (by lia),<- List.drop_eq_getElem_cons (by lia),<- List.drop_eq_getElem_cons (by lia),List.take_append_drop]
theorem jk {a b:List V} {x:V} {d:Int} (h:d=(a.length:Int)):atI (a++x::b) d=some x:=by
 subst h
 exact a8 (by rw [List.getElem?_append_right (Nat.le_refl _),Nat.sub_self];rfl)
theorem wZ {A B R:Prop} {c1 c2:Bool} (hr:(if c2=true then A else B)->R) (h1:c1=true->c2=true->A) (h2: ¬ (c1=true/\c2=true)->B):if c1=true then R else (if false=true then A else B):=by
 cases c1 with
 | true=>
  rw [if_pos rfl]
  apply hr
  cases c2 with
  | true=>rw [if_pos rfl];exact h1 rfl rfl
  | false=>exact bu (h2 fun z=>Bool.false_ne_true z.2)
 | false=>exact bu (bu (h2 fun z=>Bool.false_ne_true z.1))
noncomputable def Fm.wfp (ρ:Fm->Prop):Fm->Prop
 | .num n=> -999999<=n/\n<=999999
 | .own x=>cJ x=true/\ρ (.own x)
 | .part k x=>((0<=k/\k<=2)/\cJ x=true)/\ρ (.part k x)
 | .bin op a b=>op∈ops/\a.wfp ρ/\b.wfp ρ
 | .whn a b c=>a.wfp ρ/\b.wfp ρ/\c.wfp ρ
theorem Fm.wfp.wf {ρ:Fm->Prop}: ∀ {f:Fm},f.wfp ρ->f.wf
 | .num _,h=>h
 | .own _,h=>h.1
 | .part _ _,h=>h.1
 | .bin _ _ _,h=>⟨h.1,Fm.wfp.wf h.2.1,Fm.wfp.wf h.2.2⟩
 | .whn _ _ _,h=>⟨Fm.wfp.wf h.1,Fm.wfp.wf h.2.1,Fm.wfp.wf h.2.2⟩
inductive FsP (ρ:Fm->Prop) (H:Hp):List V->Nat->Prop where
 | nil:FsP ρ H [] 0
 | cons {v:V} {f:Fm} {vs:List V} {n:Nat}:Rep H f v->f.wfp ρ->FsP ρ H vs n->FsP ρ H (v::vs) (f.size+n)
theorem FsP.append {ρ:Fm->Prop} {H:Hp} {xs ys:List V} {m n:Nat} (a:FsP ρ H xs m) (b:FsP ρ H ys n):FsP ρ H (xs++ys) (m+n):=by
 induction a with
 | nil=>rw [Nat.zero_add];exact b
 | cons r w _ ih=>rw [Nat.add_assoc];exact .cons r w ih
theorem FsP.split {ρ:Fm->Prop} {H:Hp}: ∀ {xs ys:List V} {n:Nat},FsP ρ H (xs++ys) n-> ∃ a b,FsP ρ H xs a/\FsP ρ H ys b/\n=a+b
 | [],ys,n,h=>⟨0,n,.nil,h,by lia⟩
 | x::r,ys,n,h=>by
  cases h with
  | cons rp wf t=>
   obtain ⟨a,b,h1,h2,e⟩:=FsP.split t
   exact ⟨_,b,.cons rp wf h1,h2,by lia⟩
theorem FsP.mono {ρ:Fm->Prop} {H H':Hp} (t:TK H H') {xs:List V} {n:Nat} (h:FsP ρ H xs n):FsP ρ H' xs n:=by
 induction h with
 | nil=>exact .nil
 | cons r w _ ih=>exact .cons (r.mono t) w ih
noncomputable def LvsP (ρ:Fm->Prop) (H:Hp) (rs:List V):Prop:= ∀ v∈rs,∃ f,Rep H f v/\f.wfp ρ/\f.size=1
theorem LvsP.mono {ρ:Fm->Prop} {H H':Hp} (t:TK H H') {rs:List V} (h:LvsP ρ H rs):LvsP ρ H' rs:=fun v hv=>by
 obtain ⟨f,r,w,s⟩:=h v hv
 exact ⟨f,r.mono t,w,s⟩
noncomputable def oT (ρ:Fm->Prop):Sp:=fun vs H Q _=> ∃ tp rl rs,vs=[.ref tp,.ref rl]/\Tp H tp/\rl≠tp/\H rl=some (.lst rs)/\rs.length<=1000/\LvsP ρ H rs/\
 ∀ v f H',Rep H' f v->f.wfp ρ->f.size=1->Kp tp H H'->Tp H' tp->Q v H'
noncomputable def fD (ρ:Fm->Prop):Sp:=fun vs H Q _=> ∃ tp rl rs,vs=[.ref tp,.ref rl]/\Tp H tp/\rl≠tp/\H rl=some (.lst rs)/\rs.length<=1000/\LvsP ρ H rs/\
 ∀ v f H',Rep H' f v->f.wfp ρ->f.size<=15->Kp tp H H'->Tp H' tp->Q v H'
theorem uE:ay ["tape","readings"] ["tape","readings"] (ak sk):=fsc
theorem sZ {ρ:Fm->Prop} (F:Fun K "_law_leaf" "_law_leaf" sk f fd) (G:Gb mg) (GD:ar P w K mg base CX0 1 g gd ["tape","many"] cA) (bD:Binds K gd ["tape","many"] []) (kD:PySem.W.keepIn K (.ref g)=true) (mD:mg "_law_digit"=some (.ref g))
  (GN:ar P w K mg base CX0 2 f2 fd2 ["tape"] iH) (bN:Binds K fd2 ["tape"] []) (kN:PySem.W.keepIn K (.ref f2)=true) (mN:mg "_law_number"=some (.ref f2)):
  ar P w K mg base CX0 3 f fd ["tape","readings"] (oT ρ):=by
 refine F.ok uE (fun vs H Q E h=>?_) (fun cdv A outer s H vs Q E hr h=>?_)
 ·obtain ⟨tp,rl,rs,rfl,_⟩:=h
  rfl
 obtain ⟨tp,rl,rs,rfl,hT,hne,hrl,hlen,hL,q⟩:=h
 have hr1:=hr.mono (show 1<=2 by decide)
 refine ⟨_,ae (bh (PW.pt (gG (aC iY (aw aA rfl G.len PySem.boot_len (aa (pv 1) ad)) ai (aJ _))
   (fc (aC ft (al GD hr1 rfl mD kD bD .nil aq (aa (pv 0) (aa ai ad))) ai (aJ _)))))
   (aj (aB (aF aX (pv 1) (al GD hr1 rfl mD kD bD .nil aq (aa (pv 0) (aa (aw aA rfl G.len PySem.boot_len (aa (pv 1) ad)) ad))) (fun _ _=>rfl)))) aN)
  (aj (aB (aK (aa aL (aa (al GN hr rfl mN kN bN .nil aq (aa (pv 0) ad)) ad))))),?_⟩
 have num: ∀ H1,Kp tp H H1->Tp H1 tp->(∃ v,([some (V.ref tp),some (.ref rl)]:St)[0]? =some (some v)/\iH [v] H1 (fun x H2=>[V.str "num",x].length<=sizeLine/\ ∀ p,H2 p=none->Q (.ref p) (upd H2 p (.tup [V.str "num",x]))) E0):=fun H1 k1 t1=>by
  refine ⟨_,rfl,tp,rfl,t1,fun n H2 h1 h2 k2 t2=>⟨(by show 2<=sizeLine;decide),fun p hp=>?_⟩⟩
  exact q _ (.num n) _ ⟨p,rfl,ab⟩ ⟨h1,h2⟩ rfl ((k1.trans k2).new hp) (t2.new hp)
 refine ⟨_,rfl,rl,rs,rfl,.inl (SqL.of hrl),_,_,rfl,rfl,_,rfl,?_⟩
 refine c8 (fun c=>?_) (fun c=>?_)
 ·have c':0<rs.length:=by have:=of_decide_eq_true c;lia
  refine ⟨_,rfl,tp,4,rfl,hT,by decide,by decide,fun d t h0 h1=>?_⟩
  refine ⟨_,_,rfl,rfl,_,rfl,?_⟩
  refine c8 (fun c2=>?_) (fun c2=>?_)
  ·have h2:(upd H tp (.lst [.int t])) rl=some (.lst rs):=by rw [ah hne];exact hrl
   refine ⟨_,rfl,_,rfl,_,rfl,rl,rs,rfl,.inl (SqL.of h2),tp,_,rfl,⟨t,ab⟩,by lia,by lia,fun d2 t2 h20 h21=>?_⟩
   rw [dv]
   have h3:(upd H tp (.lst [.int t2])) rl=some (.lst rs):=by rw [ah hne];exact hrl
   obtain ⟨x,ex,ex2⟩:=lA (xs:=rs) h20 h21
   obtain ⟨fm,r,wf,sz⟩:=hL x (List.mem_of_getElem? ex2)
   have k2:Kp tp H (upd H tp (.lst [.int t2])):=Kp.tape
   exact ⟨rl,rs,d2,x,rfl,rfl,SqL.of h3,ex,q x fm _ (r.mono (k2.tk hT)) wf sz k2 ⟨t2,ab⟩⟩
  ·exact num _ Kp.tape ⟨t,ab⟩
 ·exact num _ Kp.refl hT
theorem vq {H:Hp} {a b:List V} {x y:V} {n:Nat} (h:FsP ρ H (a++x::y::b) n): ∃ A B,Rep H A x/\Rep H B y/\A.wfp ρ/\B.wfp ρ/\ ∃ m1 m2,FsP ρ H a m1/\FsP ρ H b m2/\n=m1+ (A.size+ (B.size+m2)):=by
 obtain ⟨m1,r,h1,h2,e⟩:=h.split
 cases h2 with
 | cons ra wa h3=>
  cases h3 with
  | cons rb wb h4=>exact ⟨_,_,ra,rb,wa,wb,m1,_,h1,h4,e⟩
theorem vp {H:Hp} {a b:List V} {x y z:V} {n:Nat} (h:FsP ρ H (a++x::y::z::b) n): ∃ A B C,Rep H A x/\Rep H B y/\Rep H C z/\A.wfp ρ/\B.wfp ρ/\C.wfp ρ/\ ∃ m1 m2,FsP ρ H a m1/\FsP ρ H b m2/\n=m1+ (A.size+ (B.size+ (C.size+m2))):=by
 obtain ⟨m1,r,h1,h2,e⟩:=h.split
 cases h2 with
 | cons ra wa h3=>
  cases h3 with
  | cons rb wb h4=>
   cases h4 with
   | cons rc wc h5=>exact ⟨_,_,_,ra,rb,rc,wa,wb,wc,m1,_,h1,h5,e⟩
theorem scFormulaP:ay ["tape","readings","many","j","stack","way","sign"] ["tape","readings"] (ak dF):=fsc
theorem mj (F:Fun K "_law_formula" "_law_formula" dF f fd) (G:Gb mg) (GD:ar P w K mg base CX0 1 g gd ["tape","many"] cA) (bD:Binds K gd ["tape","many"] []) (kD:PySem.W.keepIn K (.ref g)=true) (mD:mg "_law_digit"=some (.ref g))
  (GL:ar P w K mg base CX0 3 f2 fd2 ["tape","readings"] (oT ρ)) (bL:Binds K fd2 ["tape","readings"] []) (kL:PySem.W.keepIn K (.ref f2)=true) (mL:mg "_law_leaf"=some (.ref f2)):
  ar P w K mg base CX0 4 f fd ["tape","readings"] (fD ρ):=by
 refine F.ok scFormulaP (fun vs H Q E h=>?_) (fun cdv A outer s H vs Q E hr h=>?_)
 ·obtain ⟨tp,rl,rs,rfl,_⟩:=h
  rfl
 obtain ⟨tp,rl,rs,rfl,hT,hne,hrl,hlen,hL,q⟩:=h
 have hr1:=hr.mono (show 1<=3 by decide)
 obtain ⟨t,ht,hread⟩: ∃ t,PSs (eU CX0 P w K mg base ["tape","readings","many","j","stack","way","sign"] "_law_formula" (ak dF) f cdv A outer s H E).nox ((cp dF).drop 2) t/\
   ∀ (m:Int) (H2:Hp),1<=m->m<=8->Kp tp H H2->Tp H2 tp->t {nx:=fun _ H'=>Q .non H',rt:=Q} [some (.ref tp),some (.ref rl),some (.int m),none,none,none,none] H2:=by
  refine ⟨_,ae (cT (i:=4) (sc0:=ak dF) (N0:=["tape","readings","many","j","stack","way","sign"]) (ys:=["tape","readings"]) (fr:=[0,1]) rfl scFormulaP.nd rfl (Or.inl rfl) (bq rfl G.range (aa (pv 2) ad)) rfl rfl
    cok
    (fun C s H ex=>al GL hr rfl mL kL bL .nil aq (aa (pv 1) (aa (pv 2) ad))))
   (ae (fZ PassesOwn.never (aC iY (aw aA rfl G.len PySem.boot_len (aa (pv 4) ad)) ai (aJ _))
    (ae (am (i:=5) scFormulaP.nd rfl (Or.inl rfl) (al GD hr1 rfl mD kD bD .nil aq (aa (pv 0) (aa ai ad))))
    (aj (bh (PW.pt (gG (aC cq (pv 5) ai (aJ _)) (fc (aC iY (aw aA rfl G.len PySem.boot_len (aa (pv 4) ad)) ai (aJ _)))))
     (ae (am (i:=3) scFormulaP.nd rfl (Or.inl rfl) (al GD hr1 rfl mD kD bD .nil aq (aa (pv 0) (aa (ax fJ (aw aA rfl G.len PySem.boot_len (aa (pv 4) ad)) ai) ad))))
     (aj (am (i:=4) scFormulaP.nd rfl (Or.inl rfl) (ax gJ (ax gJ (aS cB (pv 4) ba (aZ (pv 3)))
      (bc (aa (aK (aa aL (aa (aF aX (pv 4) (pv 3) (fun _ _=>rfl)) (aa (aF aX (pv 4) (ax be (pv 3) ai) (fun _ _=>rfl)) (aa (aF aX (pv 4) (ax be (pv 3) ai) (fun _ _=>rfl)) ad))))) ad)))
      (aS cB (pv 4) (aZ (ax be (pv 3) ai)) ba)))))
     (ae (am (i:=3) scFormulaP.nd rfl (Or.inl rfl) (al GD hr1 rfl mD kD bD .nil aq (aa (pv 0) (aa (ax fJ (aw aA rfl G.len PySem.boot_len (aa (pv 4) ad)) ai) ad))))
     (ae (am (i:=6) scFormulaP.nd rfl (Or.inl rfl) (aF aX (bc (aa aL (aa aL (aa aL (aa aL (aa aL ad)))))) (ax cG (pv 5) ai) (fun _ _=>rfl)))
     (aj (am (i:=4) scFormulaP.nd rfl (Or.inl rfl) (ax gJ (ax gJ (aS cB (pv 4) ba (aZ (pv 3)))
      (bc (aa (aK (aa (pv 6) (aa (aF aX (pv 4) (pv 3) (fun _ _=>rfl)) (aa (aF aX (pv 4) (ax be (pv 3) ai) (fun _ _=>rfl)) ad)))) ad)))
      (aS cB (pv 4) (aZ (ax be (pv 3) ai)) ba))))))))))
   (aj (aB (aF aX (pv 4) ai (fun _ _=>rfl))))),fun m H2 hm1 hm8 k2 tt2=>?_⟩
  have tpn: ∀ {p:Addr} {Hx:Hp},Tp Hx tp->Hx p=none->p≠tp:=fun t hp e=>by
   obtain ⟨t0,e0⟩:=t
   subst e
   rw [e0]at hp
   cases hp
  refine ⟨_,rfl,m,rfl,by lia,by lia,?_⟩
  refine fj (n:=m.toNat) (R:=fun i v=>v=.int (0+i)) (by lia) lq gm ip
   (fun p i zs H'=>Kp tp H H'/\Tp H' tp/\H' p=some (.lst zs)/\p≠tp/\zs.length=i/\FsP ρ H' zs i) ?_ ?_ ?_ ?_
  ·intro p hp
   exact ⟨k2.new hp,tt2.new hp,ab,tpn tt2 hp,rfl,.nil⟩
  ·rintro p i zs H' ⟨_,_,h,_,e,_⟩
   exact ⟨h,e⟩
  ·rintro p i zs H' v k hp hi rfl ⟨k3,t3,hz,hpn,hzl,hf⟩ hk
   have hrl':H' rl=some (.lst rs):=k3 _ _ hrl hne
   refine ⟨_,rfl,_,rfl,tp,rl,rs,rfl,t3,hne,hrl',hlen,hL.mono (k3.tk hT),fun v f H3 rp wf sz k4 t4=>?_⟩
   refine hk v H3 (k4 _ _ hz hpn) ⟨?_,?_,ab,hpn,by rw [List.length_append,hzl];rfl,?_⟩
   ·intro b o hb hne'
    have hbp:b≠p:=fun e=>by
     subst e
     have:=k2 b o hb hne'
     rw [hp]at this
     cases this
    rw [ah hbp]
    exact k4 _ _ (k3 _ _ hb hne') hne'
   ·obtain ⟨t0,e0⟩:=t4
    exact ⟨t0,by rw [ah (Ne.symm hpn)];exact e0⟩
   ·have tk:TK H3 (upd H3 p (.lst (zs++[v]))):=TK.lst (k4 _ _ hz hpn)
    have e1:FsP ρ H3 zs i:=hf.mono (k4.tk t3)
    have e2:=e1.append (FsP.cons rp wf .nil)
    rw [sz]at e2
    exact e2.mono tk
  ·rintro p zs H' hp ⟨k3,t3,hz,hpn,hzl,hf⟩
   refine iw (fun σ H'=> ∃ (sl:Addr) (ws:List V) (n:Nat) (j wy sg:Option V),σ=[some (.ref tp),some (.ref rl),some (.int m),j,some (.ref sl),wy,sg]/\H' sl=some (.lst ws)/\sl≠tp/\1<=ws.length/\ws.length<=8/\
     FsP ρ H' ws n/\n+ws.length<=16/\Kp tp H H'/\Tp H' tp)
    (fun σ H'=>match σ with | [_,_,_,_,some (.ref sl),_,_]=>(match H' sl with | some (.lst ws)=>ws.length | _=>0) | _=>0)
    ⟨p,zs,m.toNat,none,none,none,rfl,hz,hpn,by lia,by lia,hf,by lia,k3,t3⟩ ?_ ?_
   ·rintro σ H3 ⟨sl,ws,n,j,wy,sg,rfl,hsl,hsn,hw1,hw8,hfs,hsz,k4,t4⟩
    refine ⟨_,rfl,sl,ws,rfl,.inl (SqL.of hsl),_,_,rfl,rfl,_,rfl,?_⟩
    refine c8 (fun c=>?_) (fun c=>?_)
    ·have c':1<ws.length:=by have:=of_decide_eq_true c;lia
     refine ⟨_,rfl,tp,6,rfl,t4,by decide,by decide,fun wy t5 hw0 hw6=>?_⟩
     have k5:Kp tp H3 (upd H3 tp (.lst [.int t5])):=Kp.tape
     have tt5:Tp (upd H3 tp (.lst [.int t5])) tp:=⟨t5,ab⟩
     have hsl5:=k5 _ _ hsl hsn
     have hfs5:=hfs.mono (k5.tk t4)
     have k5':=k4.trans k5
     generalize upd H3 tp (.lst [.int t5])=H5 at k5 tt5 hsl5 hfs5 k5' ⊢
     refine ⟨_,rfl,rfl,_,rfl,?_⟩
     refine wZ (c2:=decide (2< (ws.length:Int))) (fun h=>⟨_,rfl,sl,ws,rfl,.inl (SqL.of hsl5),_,_,rfl,rfl,_,rfl,h⟩) (fun _ cw=>?_) (fun _=>?_)
     ·-- when
      have cw':2<ws.length:=by have:=of_decide_eq_true cw;lia
      refine ⟨_,rfl,_,rfl,sl,ws,rfl,.inl (SqL.of hsl5),_,_,rfl,rfl,tp,_,rfl,tt5,by lia,by lia,fun jj t6 hj0 hj1=>?_⟩
      have k6:Kp tp H5 (upd H5 tp (.lst [.int t6])):=Kp.tape
      have tt6:Tp (upd H5 tp (.lst [.int t6])) tp:=⟨t6,ab⟩
      have hsl6:=k6 _ _ hsl5 hsn
      have hfs6:=hfs5.mono (k6.tk tt5)
      have k6':=k5'.trans k6
      generalize upd H5 tp (.lst [.int t6])=H6 at k6 tt6 hsl6 hfs6 k6' ⊢
      obtain ⟨a,x,y,z,b,ew,ea,etk,edr⟩:=vY (xs:=ws) (j:=jj.toNat) (by lia)
      have ej:jj=(a.length:Int):=by lia
      obtain ⟨A,B,C,ra,rb,rc,wa,wb,wc,m1,m2,f1,f2,en⟩:=vp (ew▸hfs6)
      have hlw:ws.length=a.length+3+b.length:=by rw [ew];simp;lia
      refine ⟨_,rfl,_,rfl,jj,rfl,sl,ws,rfl,SqL.of hsl6,fun p1 hp1=>?_⟩
      rw [dR ws hj0 (by lia),etk]
      have s1:Same H6 (upd H6 p1 (.lst a)):=ag hp1 _
      have g1:(upd H6 p1 (.lst a)) p1=some (.lst a):=ab
      generalize upd H6 p1 (.lst a)=H7 at s1 g1 ⊢
      have hsl7:=s1 _ _ hsl6
      refine ⟨_,rfl,_,rfl,sl,ws,jj,x,rfl,rfl,SqL.of hsl7,ew▸jk ej,_,rfl,_,rfl,_,_,rfl,rfl,sl,ws,jj+1,y,rfl,rfl,SqL.of hsl7,?_,_,rfl,_,rfl,_,_,rfl,rfl,sl,ws,jj+2,z,rfl,rfl,SqL.of hsl7,?_,(by show 4<=sizeLine;decide),fun p2 hp2=>?_⟩
      ·rw [ew,show a++x::y::z::b=(a++[x])++y::z::b by simp]
       exact jk (by simp;lia)
      ·rw [ew,show a++x::y::z::b=(a++[x,y])++z::b by simp]
       exact jk (by simp;lia)
      have s2:Same H7 (upd H7 p2 (.tup [.str "when",x,y,z])):=ag hp2 _
      have g2:(upd H7 p2 (.tup [.str "when",x,y,z])) p2=some (.tup [.str "when",x,y,z]):=ab
      generalize upd H7 p2 (.tup [.str "when",x,y,z])=H8 at s2 g2 ⊢
      refine ⟨(by show 1<=sizeLine;decide),fun p3 hp3=>?_⟩
      have s3:Same H8 (upd H8 p3 (.lst [.ref p2])):=ag hp3 _
      have g3:(upd H8 p3 (.lst [.ref p2])) p3=some (.lst [.ref p2]):=ab
      generalize upd H8 p3 (.lst [.ref p2])=H9 at s3 g3 ⊢
      refine ⟨p1,p3,a,_,rfl,rfl,s3 _ _ (s2 _ _ g1),g3,Nat.le_of_lt (ao (by simp;lia)),fun p4 hp4=>?_⟩
      have s4:Same H9 (upd H9 p4 (.lst (a++[.ref p2]))):=ag hp4 _
      have g4:(upd H9 p4 (.lst (a++[.ref p2]))) p4=some (.lst (a++[.ref p2])):=ab
      generalize upd H9 p4 (.lst (a++[.ref p2]))=H10 at s4 g4 ⊢
      have s7:Same H7 H10:=s2.trans (s3.trans s4)
      refine ⟨_,rfl,_,rfl,_,_,rfl,rfl,jj+3,rfl,sl,ws,rfl,SqL.of (s7 _ _ hsl7),fun p5 hp5=>?_⟩
      rw [jd ws (by lia) (by lia),show (jj+3).toNat=jj.toNat+3 by lia,edr]
      have s5:Same H10 (upd H10 p5 (.lst b)):=ag hp5 _
      have g5:(upd H10 p5 (.lst b)) p5=some (.lst b):=ab
      generalize upd H10 p5 (.lst b)=H11 at s5 g5 ⊢
      refine ⟨p4,p5,_,b,rfl,rfl,s5 _ _ g4,g5,Nat.le_of_lt (ao (by simp;lia)),fun p6 hp6=>?_⟩
      have s6:Same H6 H11:=s1.trans (s7.trans s5)
      have st:Same H6 (upd H11 p6 (.lst (a++[.ref p2]++b))):=s6.trans (ag hp6 _)
      have tk:TK H6 (upd H11 p6 (.lst (a++[.ref p2]++b))):=fun c xs h=>st _ _ h
      have g2':(upd H11 p6 (.lst (a++[.ref p2]++b))) p2=some (.tup [.str "when",x,y,z]):=(ag hp6 _) _ _ (s5 _ _ (s4 _ _ (s3 _ _ g2)))
      have tt7:Tp (upd H11 p6 (.lst (a++[.ref p2]++b))) tp:=by obtain ⟨t0,e0⟩:=tt6;exact ⟨t0,st _ _ e0⟩
      refine ⟨⟨p6,_,m1+ ((Fm.whn A B C).size+0) +m2,_,_,_,rfl,ab,?_,by simp;lia,by simp;lia,?_,?_,k6'.same st,tt7⟩,?_⟩
      ·intro e
       obtain ⟨t0,e0⟩:=tt6
       have:=s6 _ _ e0
       rw [<- e,hp6]at this
       cases this
      ·exact ((f1.mono tk).append (FsP.cons (f:=.whn A B C) ⟨p2,x,y,z,rfl,g2',ra.mono tk,rb.mono tk,rc.mono tk⟩ ⟨wa,wb,wc⟩ .nil)).append (f2.mono tk)
      ·show m1+ ((A.size+B.size+C.size+1) +0) +m2+ (a++[V.ref p2]++b).length<=16
       simp
       lia
      ·show (match (upd H11 p6 (.lst (a++[.ref p2]++b))) p6 with | some (.lst ws)=>ws.length | _=>0) < (match H3 sl with | some (.lst ws)=>ws.length | _=>0)
       rw [ab,hsl]
       simp
       lia
     ·-- one of the five signs
      refine ⟨_,rfl,_,rfl,sl,ws,rfl,.inl (SqL.of hsl5),_,_,rfl,rfl,tp,_,rfl,tt5,by lia,by lia,fun jj t6 hj0 hj1=>?_⟩
      have k6:Kp tp H5 (upd H5 tp (.lst [.int t6])):=Kp.tape
      have tt6:Tp (upd H5 tp (.lst [.int t6])) tp:=⟨t6,ab⟩
      have hsl6:=k6 _ _ hsl5 hsn
      have hfs6:=hfs5.mono (k6.tk tt5)
      have k6':=k5'.trans k6
      generalize upd H5 tp (.lst [.int t6])=H6 at k6 tt6 hsl6 hfs6 k6' ⊢
      refine ⟨(by show 5<=sizeLine;decide),fun p0 hp0=>?_⟩
      have s0:Same H6 (upd H6 p0 (.lst [.str "plus",.str "less",.str "times",.str "least",.str "most"])):=ag hp0 _
      have g0:(upd H6 p0 (.lst [.str "plus",.str "less",.str "times",.str "least",.str "most"])) p0=some (.lst [.str "plus",.str "less",.str "times",.str "least",.str "most"]):=ab
      generalize upd H6 p0 (.lst [.str "plus",.str "less",.str "times",.str "least",.str "most"])=H6b at s0 g0 ⊢
      obtain ⟨op,hop,hopm⟩: ∃ op,atI [V.str "plus",.str "less",.str "times",.str "least",.str "most"] (wy%5)=some (.str op)/\op∈ops:=by
       have h1:=Int.emod_nonneg wy (show (5:Int)≠0 by decide)
       have h2:=Int.emod_lt_of_pos wy (show (0:Int) <5 by decide)
       have h5:wy%5=0\/wy%5=1\/wy%5=2\/wy%5=3\/wy%5=4:=by lia
       rcases h5 with h | h | h | h | h <;> rw [h]
       ·exact ⟨"plus",rfl,by simp [ops]⟩
       ·exact ⟨"less",rfl,by simp [ops]⟩
       ·exact ⟨"times",rfl,by simp [ops]⟩
       ·exact ⟨"least",rfl,by simp [ops]⟩
       ·exact ⟨"most",rfl,by simp [ops]⟩
      refine ⟨_,rfl,_,_,rfl,rfl,(by show (0:Int) <5;decide),p0,_,_,_,rfl,rfl,SqL.of g0,hop,?_⟩
      obtain ⟨a,x,y,b,ew,ea,etk,edr⟩:=vZ (xs:=ws) (j:=jj.toNat) (by lia)
      have ej:jj=(a.length:Int):=by lia
      obtain ⟨A,B,ra,rb,wa,wb,m1,m2,f1,f2,en⟩:=vq (ew▸hfs6)
      have hlw:ws.length=a.length+2+b.length:=by rw [ew];simp;lia
      have hsl6b:=s0 _ _ hsl6
      refine ⟨_,rfl,_,rfl,jj,rfl,sl,ws,rfl,SqL.of hsl6b,fun p1 hp1=>?_⟩
      rw [dR ws hj0 (by lia),etk]
      have s1:Same H6b (upd H6b p1 (.lst a)):=ag hp1 _
      have g1:(upd H6b p1 (.lst a)) p1=some (.lst a):=ab
      generalize upd H6b p1 (.lst a)=H7 at s1 g1 ⊢
      have hsl7:=s1 _ _ hsl6b
      refine ⟨_,rfl,_,rfl,_,rfl,sl,ws,jj,x,rfl,rfl,SqL.of hsl7,ew▸jk ej,_,rfl,_,rfl,_,_,rfl,rfl,sl,ws,jj+1,y,rfl,rfl,SqL.of hsl7,?_,(by show 3<=sizeLine;decide),fun p2 hp2=>?_⟩
      ·rw [ew,show a++x::y::b=(a++[x])++y::b by simp]
       exact jk (by simp;lia)
      have s2:Same H7 (upd H7 p2 (.tup [.str op,x,y])):=ag hp2 _
      have g2:(upd H7 p2 (.tup [.str op,x,y])) p2=some (.tup [.str op,x,y]):=ab
      generalize upd H7 p2 (.tup [.str op,x,y])=H8 at s2 g2 ⊢
      refine ⟨(by show 1<=sizeLine;decide),fun p3 hp3=>?_⟩
      have s3:Same H8 (upd H8 p3 (.lst [.ref p2])):=ag hp3 _
      have g3:(upd H8 p3 (.lst [.ref p2])) p3=some (.lst [.ref p2]):=ab
      generalize upd H8 p3 (.lst [.ref p2])=H9 at s3 g3 ⊢
      refine ⟨p1,p3,a,_,rfl,rfl,s3 _ _ (s2 _ _ g1),g3,Nat.le_of_lt (ao (by simp;lia)),fun p4 hp4=>?_⟩
      have s4:Same H9 (upd H9 p4 (.lst (a++[.ref p2]))):=ag hp4 _
      have g4:(upd H9 p4 (.lst (a++[.ref p2]))) p4=some (.lst (a++[.ref p2])):=ab
      generalize upd H9 p4 (.lst (a++[.ref p2]))=H10 at s4 g4 ⊢
      have s7:Same H7 H10:=s2.trans (s3.trans s4)
      refine ⟨_,rfl,_,rfl,_,_,rfl,rfl,jj+2,rfl,sl,ws,rfl,SqL.of (s7 _ _ hsl7),fun p5 hp5=>?_⟩
      rw [jd ws (by lia) (by lia),show (jj+2).toNat=jj.toNat+2 by lia,edr]
      have s5:Same H10 (upd H10 p5 (.lst b)):=ag hp5 _
      have g5:(upd H10 p5 (.lst b)) p5=some (.lst b):=ab
      generalize upd H10 p5 (.lst b)=H11 at s5 g5 ⊢
      refine ⟨p4,p5,_,b,rfl,rfl,s5 _ _ g4,g5,Nat.le_of_lt (ao (by simp;lia)),fun p6 hp6=>?_⟩
      have s6:Same H6 H11:=s0.trans (s1.trans (s7.trans s5))
      have st:Same H6 (upd H11 p6 (.lst (a++[.ref p2]++b))):=s6.trans (ag hp6 _)
      have tk:TK H6 (upd H11 p6 (.lst (a++[.ref p2]++b))):=fun c xs h=>st _ _ h
      have g2':(upd H11 p6 (.lst (a++[.ref p2]++b))) p2=some (.tup [.str op,x,y]):=(ag hp6 _) _ _ (s5 _ _ (s4 _ _ (s3 _ _ g2)))
      have tt7:Tp (upd H11 p6 (.lst (a++[.ref p2]++b))) tp:=by obtain ⟨t0,e0⟩:=tt6;exact ⟨t0,st _ _ e0⟩
      refine ⟨⟨p6,_,m1+ ((Fm.bin op A B).size+0) +m2,_,_,_,rfl,ab,?_,by simp;lia,by simp;lia,?_,?_,k6'.same st,tt7⟩,?_⟩
      ·intro e
       obtain ⟨t0,e0⟩:=tt6
       have:=s6 _ _ e0
       rw [<- e,hp6]at this
       cases this
      ·exact ((f1.mono tk).append (FsP.cons (f:=.bin op A B) ⟨p2,x,y,rfl,g2',ra.mono tk,rb.mono tk⟩ ⟨hopm,wa,wb⟩ .nil)).append (f2.mono tk)
      ·show m1+ ((A.size+B.size+1) +0) +m2+ (a++[V.ref p2]++b).length<=16
       simp
       lia
      ·show (match (upd H11 p6 (.lst (a++[.ref p2]++b))) p6 with | some (.lst ws)=>ws.length | _=>0) < (match H3 sl with | some (.lst ws)=>ws.length | _=>0)
       rw [ab,hsl]
       simp
       lia
    ·have c':ws.length=1:=by
      have: ¬ (1:Int) < (ws.length:Int):=fun z=>c (decide_eq_true z)
      lia
     obtain ⟨x,ex⟩:=List.length_eq_one_iff.mp c'
     subst ex
     cases hfs with
     | cons rp wf f2=>
      cases f2
      refine ⟨_,rfl,sl,_,0,x,rfl,rfl,SqL.of hsl,cz,q x _ H3 rp wf (by simp at hsz;lia) k4 t4⟩
   ·rintro σ H3 Q1 Q2 hq ⟨y,e1,p,ys,e2,h2,i,j,e3,e4,k,e5,h⟩
    exact ⟨y,e1,p,ys,e2,h2,i,j,e3,e4,k,e5,hq _ _ h⟩
 refine ⟨_,ae (am (i:=2) scFormulaP.nd rfl (Or.inl rfl) (ax be ai (al GD hr1 rfl mD kD bD .nil aq (aa (pv 0) (aa ai ad)))))
  (ae (bh (aC cq (al GD hr1 rfl mD kD bD .nil aq (aa (pv 0) (aa ai ad))) ai (aJ _)) (aj (am (i:=2) scFormulaP.nd rfl (Or.inl rfl) ai)) aN) ht),?_⟩
 refine ⟨_,rfl,tp,4,rfl,hT,by decide,by decide,fun d1 t1 h10 h11=>?_⟩
 refine ⟨1,_,rfl,rfl,?_⟩
 refine ⟨_,rfl,tp,16,rfl,⟨t1,ab⟩,by decide,by decide,fun d2 t2 h20 h21=>?_⟩
 rw [dv]
 refine ⟨rfl,_,rfl,?_⟩
 refine c8 (fun c9=>?_) (fun c9=>?_)
 ·exact hread 8 _ (by decide) (by decide) Kp.tape ⟨t2,ab⟩
 ·exact hread (1+d1) _ (by lia) (by lia) Kp.tape ⟨t2,ab⟩
noncomputable def ndB:List Str->Bool
 | []=>true
 | x::r=> !(r.any fun y=>x.cps.toList==y.cps.toList)&&ndB r
theorem tH: ∀ {l:List Str},ndB l=true->l.Nodup
 | [],_=>List.nodup_nil
 | x::r,h=>by
  unfold ndB at h
  rw [Bool.and_eq_true]at h
  refine List.nodup_cons.mpr ⟨fun m=>?_,tH h.2⟩
  have h1:=h.1
  rw [Bool.not_eq_true',List.any_eq_false]at h1
  exact h1 x m (by simp)
theorem qK:((List.range 3).all fun way=>(List.range 26).all fun tu=>ndB ((List.range 13).map (jn way tu))&&((List.range 13).map (jn way tu)).all cJ)=true:=by
 decide +kernel
theorem NamesAre.ok {m:Nat} {ws:List Str} (h:NamesAre m ws) (hm:m<=13):ws.length=m/\ws.Nodup/\ ∀ x∈ws,cJ x=true:=by
 obtain ⟨way,tu,back,h1,h2,e⟩:=h
 have a:=qK
 rw [List.all_eq_true]at a
 have a:=a way (List.mem_range.mpr h1)
 rw [List.all_eq_true]at a
 have a:=a tu (List.mem_range.mpr h2)
 rw [Bool.and_eq_true]at a
 have n13:=tH a.1
 have w13:=List.all_eq_true.mp a.2
 have sub:((List.range m).map (jn way tu)).Sublist ((List.range 13).map (jn way tu)):=List.Sublist.map _ (List.range_sublist.mpr hm)
 have nd:=n13.sublist sub
 have wd: ∀ x∈(List.range m).map (jn way tu),cJ x=true:=fun x hx=>w13 x (sub.subset hx)
 have ln:((List.range m).map (jn way tu)).length=m:=by rw [List.length_map,List.length_range]
 cases back with
 | false=>
  rw [if_neg (by decide)]at e
  subst e
  exact ⟨ln,nd,wd⟩
 | true=>
  rw [if_pos rfl]at e
  subst e
  exact ⟨by rw [List.length_reverse];exact ln,(List.reverse_perm _).nodup_iff.mpr nd,fun x hx=>wd x (List.mem_reverse.mp hx)⟩
structure Srt where
 name:Str
 downs:List Str
 ups:List Str
noncomputable def RepS (H:Hp) (s:Srt) (v:V):Prop:= ∃ a b c,v=.ref a/\H a=some (.tup [.str s.name,.ref b,.ref c])/\H b=some (.tup (s.downs.map V.str))/\H c=some (.tup (s.ups.map V.str))
theorem RepS.mono {H H':Hp} (t:TK H H') {s:Srt} {v:V}:RepS H s v->RepS H' s v:=fun ⟨a,b,c,e,h1,h2,h3⟩=>⟨a,b,c,e,t _ _ h1,t _ _ h2,t _ _ h3⟩
noncomputable def Srt.ok (s:Srt):Prop:=(s.downs++s.ups).Nodup/\(∀ x∈s.downs++s.ups,cJ x=true)/\s.downs.length<=3/\s.ups.length<=3/\1<=s.downs.length+s.ups.length
noncomputable def RepSs (H:Hp) (ss:List Srt) (vs:List V):Prop:=Paired (RepS H) ss vs
theorem RepSs.mono {H H':Hp} (t:TK H H') {ss:List Srt} {vs:List V} (h:RepSs H ss vs):RepSs H' ss vs:=Paired.mapP h fun _ _ r=>r.mono t
theorem RepSs.len {H:Hp} {ss:List Srt} {vs:List V} (h:RepSs H ss vs):ss.length=vs.length:=Paired.length h
theorem aH {α β:Type} {F:α->β->Prop}: ∀ {l:List α} {r:List β} {i:Nat} {b:β},Paired F l r->r[i]? =some b-> ∃ a,l[i]? =some a/\F a b
 | _,_,i,b,.nil,e=>by cases i <;> cases e
 | _,_,0,b,.cons h _,e=>⟨_,rfl,by cases e;exact h⟩
 | _,_,i+1,b,.cons _ t,e=>aH (i:=i) t e
noncomputable def da (ss:List Srt):Prop:=1<=ss.length/\ss.length<=4/\(ss.map Srt.name).Nodup/\(∀ s∈ss,cJ s.name=true)/\ ∀ s∈ss,s.ok
theorem jt {ws:List Str} (n:ws.Nodup) (w: ∀ x∈ws,cJ x=true) (hl:ws.length=6) (k d u:Nat) (hd:d<=3) (hu:u<=3) (h1:1<=d+u) (nm:Str):
  (Srt.mk nm ((ws.drop k++ws.take k).take d) (((ws.drop k++ws.take k).drop d).take u)).ok:=by
 have nt:(ws.drop k++ws.take k).Nodup:=by
  have:(ws.drop k++ws.take k).Perm (ws.take k++ws.drop k):=List.perm_append_comm
  rw [List.take_append_drop]at this
  exact this.nodup_iff.mpr n
 have mt: ∀ x∈ws.drop k++ws.take k,cJ x=true:=fun x hx=>by
  rw [List.mem_append]at hx
  rcases hx with h | h
  ·exact w x (List.mem_of_mem_drop h)
  ·exact w x (List.mem_of_mem_take h)
 have lt:(ws.drop k++ws.take k).length=6:=by rw [List.length_append,List.length_drop,List.length_take];lia
 generalize ws.drop k++ws.take k=ts at nt mt lt
 have sub:(ts.take d++(ts.drop d).take u).Sublist ts:=by
  have:=List.take_append_drop d ts
  conv=>rhs;rw [<- this]
  exact List.Sublist.append (List.Sublist.refl _) (List.take_sublist _ _)
 refine ⟨nt.sublist sub,fun x hx=>mt x (sub.subset hx),?_,?_,?_⟩
 ·show (ts.take d).length<=3
  rw [List.length_take];lia
 ·show ((ts.drop d).take u).length<=3
  rw [List.length_take];lia
 ·show 1<=(ts.take d).length+ ((ts.drop d).take u).length
  rw [List.length_take,List.length_take,List.length_drop];lia
noncomputable def oQ:Sp:=fun vs H Q _=> ∃ tp c,vs=[.ref tp,.bl c]/\Tp H tp/\ ∀ a ss xs H',H' a=some (.tup xs)->RepSs H' ss xs->da ss->Kp tp H H'->Tp H' tp->Q (.ref a) H'
theorem xC (k:Bool): ∃ m:Int,atI [V.int 3,V.int 4] (if k then 1 else 0)=some (.int m)/\3<=m/\m<=4:=by
 cases k
 ·exact ⟨3,rfl,by decide,by decide⟩
 ·exact ⟨4,rfl,by decide,by decide⟩
theorem tI {d u:Int} (hd:0<=d) (hu:0<=u) (hu3:u<=3): ∃ u1:Int,(if (if decide (V.int d=V.int 0)=true then (1:Int)else 0) >u then (if decide (V.int d=V.int 0)=true then (1:Int)else 0)else u)=u1/\0<=u1/\u1<=3/\1<=d+u1:=by
 refine ⟨_,rfl,?_⟩
 by_cases c:d=0
 ·subst c
  rw [if_pos (decide_eq_true rfl)]
  split <;> lia
 ·rw [if_neg (fun e=>c (V.int.inj (of_decide_eq_true e)))]
  split <;> lia
theorem dw {H:Hp} {tp p:Addr} (t:Tp H tp) (hp:H p=none):p≠tp:=fun e=>by
 obtain ⟨t0,e0⟩:=t
 subst e
 rw [e0]at hp
 cases hp
theorem pN (xs:List V) {a b:Nat} (h:a+b<=xs.length):cZ xs (some (a:Int)) (some ((a:Int) + (b:Int)))=(xs.drop a).take b:=by
 unfold cZ
 rw [show ((a:Int) + (b:Int))=((a+b:Nat):Int) by lia,HT.sIx_nat,HT.sIx_nat,Nat.min_eq_left h,Nat.min_eq_left (by lia),Nat.add_sub_cancel_left]
theorem scSorts:ay ["tape","few","many","names","words","sorts","k","most","downs","ups","turned"] ["tape","few"] (ak nB):=fsc
theorem sS (F:Fun K "_law_sorts" "_law_sorts" nB f fd) (G:Gb mg) (GD:ar P w K mg base CX0 1 g gd ["tape","many"] cA) (bD:Binds K gd ["tape","many"] []) (kD:PySem.W.keepIn K (.ref g)=true) (mD:mg "_law_digit"=some (.ref g))
  (GN:ar P w K mg base CX0 2 f2 fd2 ["tape","many"] fS) (bN:Binds K fd2 ["tape","many"] []) (kN:PySem.W.keepIn K (.ref f2)=true) (mN:mg "_law_names"=some (.ref f2)):
  ar P w K mg base CX0 3 f fd ["tape","few"] oQ:=by
 refine F.ok scSorts (fun vs H Q E h=>?_) (fun cdv A outer s H vs Q E hr h=>?_)
 ·obtain ⟨tp,c,rfl,_⟩:=h
  rfl
 obtain ⟨tp,few,rfl,hT,q⟩:=h
 have hr1:=hr.mono (show 1<=2 by decide)
 refine ⟨_,ae (am (i:=2) scSorts.nd rfl (Or.inl rfl) (ax be ai (al GD hr1 rfl mD kD bD .nil aq (aa (pv 0) (aa
    (aF aX (bc (aa ai (aa ai ad))) (aT dS rfl G.int (by decide +kernel) (aa (c7 cq (al GD hr1 rfl mD kD bD .nil aq (aa (pv 0) (aa ai ad))) ai (aJ _)) ad)) (fun _ _=>rfl)) ad)))))
  (ae (am (i:=3) scSorts.nd rfl (Or.inl rfl) (al GN hr rfl mN kN bN .nil aq (aa (pv 0) (aa (pv 2) ad))))
  (ae (am (i:=4) scSorts.nd rfl (Or.inl rfl) (al GN hr rfl mN kN bN .nil aq (aa (pv 0) (aa ai ad))))
  (ae (am (i:=5) scSorts.nd rfl (Or.inl rfl) (bc ad))
  (ae (bd PassesOwn.never rfl (bq rfl G.range (aa (pv 2) ad)) (av (i:=6) scSorts.nd rfl (Or.inl rfl))
   (ae (am (i:=7) scSorts.nd rfl (Or.inl rfl) (aF aX (bc (aa ai (aa ai ad))) (aT dS rfl G.int (by decide +kernel) (aa (c7 cq (al GD hr1 rfl mD kD bD .nil aq (aa (pv 0) (aa ai ad))) ai (aJ _)) ad)) (fun _ _=>rfl)))
   (ae (am (i:=8) scSorts.nd rfl (Or.inl rfl) (al GD hr1 rfl mD kD bD .nil aq (aa (pv 0) (aa (pv 7) ad))))
   (ae (am (i:=9) scSorts.nd rfl (Or.inl rfl) (aw (jY rfl) rfl G.max (by decide +kernel) (aa (al GD hr1 rfl mD kD bD .nil aq (aa (pv 0) (aa (pv 7) ad)))
    (aa (aT dS rfl G.int (by decide +kernel) (aa (c7 cq (pv 8) ai (aJ _)) ad)) ad))))
   (ae (bh (PW.pt (gG (fI (pv 1)) (fc (aC iY (ax c0 (pv 8) (pv 9)) ai (aJ _))))) (aj (am (i:=9) scSorts.nd rfl (Or.inl rfl) (ax lc ai (pv 8)))) aN)
   (ae (am (i:=10) scSorts.nd rfl (Or.inl rfl) (ax gJ (aS cB (pv 4) (aZ (ax cG (pv 6) ai)) ba) (aS cB (pv 4) ba (aZ (ax cG (pv 6) ai)))))
   (aj (bH (dj PySem.F.plainAttrs_list PySem.F.slot_list_append PySem.F.type_list_append bi (pv 5) (aa (aK (aa (aF aX (pv 3) (pv 6) (fun _ _=>rfl))
    (aa (aT aM rfl G.tuple (by decide +kernel) (aa (aS cB (pv 10) ba (aZ (pv 8))) ad))
    (aa (aT aM rfl G.tuple (by decide +kernel) (aa (aS cB (pv 10) (aZ (pv 8)) (aZ (ax be (pv 8) (pv 9)))) ad)) ad)))) ad))))))))))
  (aj (aB (aT aM rfl G.tuple (by decide +kernel) (aa (pv 5) ad)))))))),?_⟩
 refine ⟨_,rfl,(by show 2<=sizeLine;decide),fun p0 hp0=>?_⟩
 refine ⟨_,rfl,tp,8,rfl,hT.new hp0,by decide,by decide,fun d0 t0 _ _=>⟨rfl,?_⟩⟩
 obtain ⟨m0,em0,hm3,hm4⟩:=xC (decide (V.int d0=V.int 5))
 refine .inr ⟨_,rfl,p0,_,_,_,rfl,rfl,SqL.of (by rw [ah (dw hT hp0)];exact ab),em0,?_⟩
 have k0:Kp tp H (upd (upd H p0 (.lst [.int 3,.int 4])) tp (.lst [.int t0])):=(Kp.refl.new hp0).trans Kp.tape
 have tt0:Tp (upd (upd H p0 (.lst [.int 3,.int 4])) tp (.lst [.int t0])) tp:=⟨t0,ab⟩
 generalize upd (upd H p0 (.lst [.int 3,.int 4])) tp (.lst [.int t0])=H1 at k0 tt0 ⊢
 refine ⟨tp,_,rfl,tt0,by lia,by lia,fun dm t1 hdm0 hdm1=>?_⟩
 have k1:Kp tp H (upd H1 tp (.lst [.int t1])):=k0.trans Kp.tape
 have tt1:Tp (upd H1 tp (.lst [.int t1])) tp:=⟨t1,ab⟩
 generalize upd H1 tp (.lst [.int t1])=H2 at k1 tt1 ⊢
 refine ⟨1,_,rfl,rfl,?_⟩
 refine ⟨_,rfl,_,rfl,tp,_,rfl,tt1,by lia,by lia,fun nl ns H3 hnl hnlen hN hnne k2' tt2=>?_⟩
 have k2:=k1.trans k2'
 refine ⟨_,rfl,tp,6,rfl,tt2,by decide,by decide,fun wl ws H4 hwl hwlen hW hwne k3' tt3=>?_⟩
 have k3:=k2.trans k3'
 have hnl4:=k3' _ _ hnl hnne
 refine ⟨(by show 0<=sizeLine;decide),fun sl hsl=>?_⟩
 have hslt:=dw tt3 hsl
 have k4:Kp tp H (upd H4 sl (.lst [])):=k3.new hsl
 have tt4:=tt3.new (o:=.lst []) hsl
 have s4:=ag hsl (.lst [])
 have nsl:nl≠sl:=af hnl4 hsl
 have wsl:wl≠sl:=af hwl hsl
 have hnl5:=s4 _ _ hnl4
 have hwl5:=s4 _ _ hwl
 have hsl5:(upd H4 sl (.lst [])) sl=some (.lst []):=ab
 generalize upd H4 sl (.lst [])=H5 at k4 tt4 hnl5 hwl5 hsl5 ⊢
 obtain ⟨nLen,nNd,nWd⟩:=hN.ok (by lia)
 obtain ⟨wLen,wNd,wWd⟩:=hW.ok (by decide)
 have wLen6:ws.length=6:=wLen
 refine ⟨_,rfl,1+dm,rfl,by lia,by lia,?_⟩
 refine cR (fun i σ H'=> ∃ o6 o7 o8 o9 o10 zs ss,σ=[some (.ref tp),some (.bl few),some (.int (1+dm)),some (.ref nl),some (.ref wl),some (.ref sl),o6,o7,o8,o9,o10]/\Kp tp H H'/\Tp H' tp/\H' nl=some (.lst (ns.map V.str))/\H' wl=some (.lst (ws.map V.str))/\H' sl=some (.lst zs)/\RepSs H' ss zs/\ss.length=i/\(∀ s∈ss,s.ok)/\ss.map Srt.name=ns.take i)
  ⟨none,none,none,none,none,[],[],rfl,k4,tt4,hnl5,hwl5,hsl5,.nil,rfl,fun s h=>(by cases h),rfl⟩ ?_ ?_
 ·rintro i σ H6 hi ⟨o6,o7,o8,o9,o10,zs,ss,rfl,k6,tt6,hnl6,hwl6,hsl6,hR,hssl,hok,hnm⟩
  refine ⟨(by show 2<=sizeLine;decide),fun p0 hp0=>?_⟩
  refine ⟨_,rfl,tp,8,rfl,tt6.new hp0,by decide,by decide,fun d0 t0 _ _=>⟨rfl,?_⟩⟩
  obtain ⟨m1,em1,hm3,hm4⟩:=xC (decide (V.int d0=V.int 5))
  refine .inr ⟨_,rfl,p0,_,_,_,rfl,rfl,SqL.of (by rw [ah (dw tt6 hp0)];exact ab),em1,?_⟩
  have k7:Kp tp H6 (upd (upd H6 p0 (.lst [.int 3,.int 4])) tp (.lst [.int t0])):=(Kp.refl.new hp0).trans Kp.tape
  have tt7:Tp (upd (upd H6 p0 (.lst [.int 3,.int 4])) tp (.lst [.int t0])) tp:=⟨t0,ab⟩
  generalize upd (upd H6 p0 (.lst [.int 3,.int 4])) tp (.lst [.int t0])=H7 at k7 tt7 ⊢
  refine ⟨_,rfl,_,rfl,tp,_,rfl,tt7,by lia,by lia,fun d t2 hd0 hd1=>?_⟩
  have k8:Kp tp H6 (upd H7 tp (.lst [.int t2])):=k7.trans Kp.tape
  have tt8:Tp (upd H7 tp (.lst [.int t2])) tp:=⟨t2,ab⟩
  generalize upd H7 tp (.lst [.int t2])=H8 at k8 tt8 ⊢
  refine ⟨_,rfl,_,rfl,tp,_,rfl,tt8,by lia,by lia,fun u t3 hu0 hu1=>?_⟩
  have k9:Kp tp H6 (upd H8 tp (.lst [.int t3])):=k8.trans Kp.tape
  have tt9:Tp (upd H8 tp (.lst [.int t3])) tp:=⟨t3,ab⟩
  generalize upd H8 tp (.lst [.int t3])=H9 at k9 tt9 ⊢
  obtain ⟨u1,eu1,hu10,hu13,hdu⟩:=tI (d:=d) (u:=u) hd0 hu0 (by lia)
  refine ⟨_,rfl,rfl,.inr ⟨_,rfl,_,_,rfl,?_⟩⟩
  rw [eu1]
  refine ⟨_,rfl,few,rfl,?_⟩
  refine wZ (c2:=decide (3<d*u1)) (fun h=>⟨_,rfl,_,rfl,_,_,rfl,rfl,.inl ⟨by lia,by lia⟩,_,_,rfl,rfl,_,rfl,h⟩) (fun _ c=>?A) (fun _=>?B)
  case' A=>
   have c':3<d*u1:=of_decide_eq_true c
   have hdp:0<d:=by
    rcases (show d=0\/0<d by lia)with h | h
    ·subst h;lia
    ·exact h
   refine ⟨_,rfl,3,d,rfl,rfl,⟨hdp,by lia⟩,?_⟩
   obtain ⟨v,hv,ev⟩: ∃ v:Int,(0<=v/\v<=3/\1<=d+v)/\((fun (i j:Int)=>V.int (i/j)) 3 d)=V.int v:=by
    refine ⟨3/d,?_,rfl⟩
    rcases (show d=1\/d=2\/d=3 by lia)with h | h | h <;> subst h <;> decide
   rw [ev]
  case' B=>
   have hv:0<=u1/\u1<=3/\1<=d+u1:=⟨hu10,hu13,hdu⟩
   generalize u1=v at hv ⊢
  all_goals
   have hwl9:=k9 _ _ hwl6 hwne
   have hnl9:=k9 _ _ hnl6 hnne
   have hsl9:=k9 _ _ hsl6 hslt
   have hkk0:0<=(0+ (i:Int)) %6:=Int.emod_nonneg _ (by decide)
   have hkk1:(0+ (i:Int)) %6<6:=Int.emod_lt_of_pos _ (by decide)
   refine ⟨_,rfl,_,rfl,_,_,rfl,rfl,(by show (0:Int) <6;decide),_,rfl,wl,_,rfl,SqL.of hwl9,fun p1 hp1=>?_⟩
   rw [jd (ws.map V.str) hkk0 (by rw [List.length_map];lia)]
   have hn6:((0+ (i:Int)) %6).toNat<=6:=by lia
   have hct:cZ (ws.map V.str) none (some ((0+ (i:Int)) %6))=(ws.map V.str).take ((0+ (i:Int)) %6).toNat:=dR (ws.map V.str) hkk0 (by rw [List.length_map];lia)
   generalize hn:((0+ (i:Int)) %6).toNat=n at hct hn6 ⊢
   have s1:=ag hp1 (.lst ((ws.map V.str).drop n))
   have g1:(upd H9 p1 (.lst ((ws.map V.str).drop n))) p1=some (.lst ((ws.map V.str).drop n)):=ab
   generalize upd H9 p1 (.lst ((ws.map V.str).drop n))=Ha at s1 g1 ⊢
   refine ⟨_,rfl,_,rfl,_,_,rfl,rfl,(by show (0:Int) <6;decide),_,rfl,wl,_,rfl,SqL.of (s1 _ _ hwl9),fun p2 hp2=>?_⟩
   rw [hct]
   have s2:=ag hp2 (.lst ((ws.map V.str).take n))
   have g2:(upd Ha p2 (.lst ((ws.map V.str).take n))) p2=some (.lst ((ws.map V.str).take n)):=ab
   generalize upd Ha p2 (.lst ((ws.map V.str).take n))=Hb at s2 g2 ⊢
   have lcat:((ws.map V.str).drop n).length+ ((ws.map V.str).take n).length<=12:=by rw [List.length_drop,List.length_take,List.length_map];lia
   refine ⟨p1,p2,_,_,rfl,rfl,s2 _ _ g1,g2,Nat.le_of_lt (ao (by lia)),fun p3 hp3=>?_⟩
   have e3:(ws.map V.str).drop n++(ws.map V.str).take n=(ws.drop n++ws.take n).map V.str:=by rw [List.map_append,List.map_drop,List.map_take]
   rw [e3]
   have lts:(ws.drop n++ws.take n).length=6:=by rw [List.length_append,List.length_drop,List.length_take];lia
   have hsok:=fun nm=>jt wNd wWd wLen6 n d.toNat v.toNat (by lia) (by lia) (by lia) nm
   generalize ws.drop n++ws.take n=ts at lts hsok ⊢
   have s3:=ag hp3 (.lst (ts.map V.str))
   have g3:(upd Hb p3 (.lst (ts.map V.str))) p3=some (.lst (ts.map V.str)):=ab
   generalize upd Hb p3 (.lst (ts.map V.str))=Hc at s3 g3 ⊢
   have S9:Same H9 Hc:=s1.trans (s2.trans s3)
   have hslc:=S9 _ _ hsl9
   have hnlc:=S9 _ _ hnl9
   have hwlc:=S9 _ _ hwl9
   have kc:Kp tp H6 Hc:=k9.same S9
   have ttc:Tp Hc tp:=tt9.same S9
   refine ⟨_,rfl,.inl ⟨rfl,_,SqL.of hslc⟩,?_⟩
   obtain ⟨nm,enm⟩: ∃ nm,ns[i]? =some nm:=⟨ns[i]'(by lia),List.getElem?_eq_getElem (by lia)⟩
   have eat:atI (ns.map V.str) (0+ (i:Int))=some (V.str nm):=by
    rw [Int.zero_add]
    exact a8 (by rw [List.getElem?_map,enm];rfl)
   refine ⟨_,rfl,_,rfl,nl,_,_,_,rfl,rfl,SqL.of hnlc,eat,?_⟩
   refine ⟨_,rfl,_,rfl,d,rfl,p3,_,rfl,SqL.of g3,fun p4 hp4=>?_⟩
   rw [dR (ts.map V.str) hd0 (by rw [List.length_map];lia),<- List.map_take]
   have s4:=ag hp4 (.lst ((ts.take d.toNat).map V.str))
   have g4:(upd Hc p4 (.lst ((ts.take d.toNat).map V.str))) p4=some (.lst ((ts.take d.toNat).map V.str)):=ab
   generalize upd Hc p4 (.lst ((ts.take d.toNat).map V.str))=Hd at s4 g4 ⊢
   refine ⟨p4,_,rfl,.inl ⟨SqL.of g4,fun p5 hp5=>?_⟩⟩
   have s5:=ag hp5 (.tup ((ts.take d.toNat).map V.str))
   have g5:(upd Hd p5 (.tup ((ts.take d.toNat).map V.str))) p5=some (.tup ((ts.take d.toNat).map V.str)):=ab
   generalize upd Hd p5 (.tup ((ts.take d.toNat).map V.str))=He at s5 g5 ⊢
   refine ⟨_,rfl,_,rfl,d,rfl,_,rfl,_,rfl,_,_,rfl,rfl,_,rfl,p3,_,rfl,SqL.of (s5 _ _ (s4 _ _ g3)),fun p6 hp6=>?_⟩
   have ecm:cZ (ts.map V.str) (some d) (some (d+v))=((ts.drop d.toNat).take v.toNat).map V.str:=by
    have:=pN (ts.map V.str) (a:=d.toNat) (b:=v.toNat) (by rw [List.length_map];lia)
    rw [show ((d.toNat:Nat):Int)=d by lia,show ((v.toNat:Nat):Int)=v by lia]at this
    rw [this,List.map_take,List.map_drop]
   rw [ecm]
   have s6:=ag hp6 (.lst (((ts.drop d.toNat).take v.toNat).map V.str))
   have g6:(upd He p6 (.lst (((ts.drop d.toNat).take v.toNat).map V.str))) p6=some (.lst (((ts.drop d.toNat).take v.toNat).map V.str)):=ab
   generalize upd He p6 (.lst (((ts.drop d.toNat).take v.toNat).map V.str))=Hf at s6 g6 ⊢
   refine ⟨p6,_,rfl,.inl ⟨SqL.of g6,fun p7 hp7=>?_⟩⟩
   have s7:=ag hp7 (.tup (((ts.drop d.toNat).take v.toNat).map V.str))
   have g7:(upd Hf p7 (.tup (((ts.drop d.toNat).take v.toNat).map V.str))) p7=some (.tup (((ts.drop d.toNat).take v.toNat).map V.str)):=ab
   generalize upd Hf p7 (.tup (((ts.drop d.toNat).take v.toNat).map V.str))=Hg at s7 g7 ⊢
   refine ⟨(by show 3<=sizeLine;decide),fun p8 hp8=>?_⟩
   have s8:=ag hp8 (.tup [.str nm,.ref p5,.ref p7])
   have g8:(upd Hg p8 (.tup [.str nm,.ref p5,.ref p7])) p8=some (.tup [.str nm,.ref p5,.ref p7]):=ab
   generalize upd Hg p8 (.tup [.str nm,.ref p5,.ref p7])=Hh at s8 g8 ⊢
   have Sc:Same Hc Hh:=s4.trans (s5.trans (s6.trans (s7.trans s8)))
   have hslh:=Sc _ _ hslc
   have hzl:zs.length=i:=by rw [<- hR.len];exact hssl
   refine ⟨sl,zs,.ref p8,rfl,rfl,hslh,ao (by lia),?_⟩
   have tk:TK Hh (upd Hh sl (.lst (zs++[.ref p8]))):=TK.lst hslh
   have kh:Kp tp H6 Hh:=kc.same Sc
   refine ⟨_,_,_,_,_,zs++[.ref p8],ss++[⟨nm,ts.take d.toNat,(ts.drop d.toNat).take v.toNat⟩],rfl,?_,?_,?_,?_,ab,?_,?_,?_,?_⟩
   ·intro b o hb hbn
    rw [ah (af (k3 _ _ hb hbn) hsl)]
    exact kh _ _ (k6 _ _ hb hbn) hbn
   ·obtain ⟨t9,e9⟩:=ttc.same Sc
    exact ⟨t9,by rw [ah (Ne.symm hslt)];exact e9⟩
   ·rw [ah nsl];exact Sc _ _ hnlc
   ·rw [ah wsl];exact Sc _ _ hwlc
   ·exact Paired.snoc (hR.mono ((kh.tk tt6).trans tk)) ⟨p8,p5,p7,rfl,tk _ _ g8,tk _ _ (s8 _ _ (s7 _ _ (s6 _ _ g5))),tk _ _ (s8 _ _ g7)⟩
   ·rw [List.length_append,hssl];rfl
   ·intro s hs
    rw [List.mem_append,List.mem_singleton]at hs
    rcases hs with h | h
    ·exact hok s h
    ·subst h;exact hsok nm
   ·rw [List.map_append,hnm,List.map_singleton,List.take_add_one,enm]
    rfl
 ·rintro σ H6 ⟨o6,o7,o8,o9,o10,zs,ss,rfl,k6,tt6,hnl6,hwl6,hsl6,hR,hssl,hok,hnm⟩
  refine ⟨_,rfl,sl,zs,rfl,.inl ⟨SqL.of hsl6,fun pt hpt=>?_⟩⟩
  refine q pt ss zs _ ab (hR.mono (TK.new hpt)) ⟨by lia,by lia,?_,?_,hok⟩ (k6.new hpt) (tt6.new hpt)
  ·rw [hnm]
   exact nNd.sublist (List.take_sublist _ _)
  ·intro s hs
   refine nWd _ (List.mem_of_mem_take (i:=(1+dm).toNat) ?_)
   rw [<- hnm]
   exact List.mem_map_of_mem hs
noncomputable def uj (H:Hp) (ys:List V) (z:V):Prop:= ∃ a,z=.ref a/\H a=some (.tup ys)
noncomputable def Tups (H:Hp) (yss:List (List V)) (zs:List V):Prop:=Paired (uj H) yss zs
theorem Tups.mono {H H':Hp} (t:TK H H') {yss:List (List V)} {zs:List V} (h:Tups H yss zs):Tups H' yss zs:=Paired.mapP h fun _ _ ⟨a,e,g⟩=>⟨a,e,t _ _ g⟩
theorem Tups.len {H:Hp} {yss:List (List V)} {zs:List V} (h:Tups H yss zs):yss.length=zs.length:=Paired.length h
theorem Tups.append {H:Hp}: ∀ {a c:List (List V)} {b d:List V},Tups H a b->Tups H c d->Tups H (a++c) (b++d)
 | _,_,_,_,.nil,h=>h
 | _,_,_,_,.cons x t,h=>.cons x (Tups.append t h)
theorem au {H H':Hp} (s:Same H H'):TK H H':=fun a xs h=>s _ _ h
theorem fk {K:PySem.W.Frag} {a:Addr} {xs:List V} {fr:List Nat} {te:TE} {σ:St} {H1:Hp} {Q:VK} (hn:xs.length<=1000) (ha:H1 a=some (.tup xs)) (g:V->List V)
  (hte: ∀ v H k,v∈xs->(∀ p,H p=none->k (.ref p) (upd H p (.tup (g v))))->te (some v::bJ fr σ) H k)
  (hd: ∀ p zs H',H1 p=none->Same H1 H'->H' p=some (.lst zs)->Tups H' (xs.map g) zs->Q (.ref p) H'):fC fr te σ (Itt K a) H1 Q:=by
 intro p hp
 refine ⟨fun i m zs H=>i<=xs.length/\m=xs.length-i/\Same H1 H/\H p=some (.lst zs)/\zs.length=i/\Tups H ((xs.take i).map g) zs,⟨_,Nat.zero_le _,rfl,ag hp _,ab,rfl,.nil⟩,?_⟩
 rintro i m zs H ⟨hi,hm,sm,gp,hz,hT⟩
 refine ⟨gp,?_⟩
 by_cases e:i=xs.length
 ·subst e
  rw [List.take_length]at hT
  exact .inl ⟨⟨xs,SqT.of (sm _ _ ha),Nat.le_refl _⟩,hd p zs H hp sm gp hT⟩
 ·have hlt:i<xs.length:=by lia
  refine .inr ⟨⟨xs,xs[i],SqT.of (sm _ _ ha),List.getElem?_eq_getElem hlt⟩,ao (by lia),fun v H' hv=>?_⟩
  obtain ⟨rfl,hv⟩:=hv
  have hv:=hv xs (SqT.of (sm _ _ ha))
  refine hte v _ _ (List.mem_of_getElem? hv) fun q hq=>?_
  have s2:=ag hq (.tup (g v))
  have gq:(upd H' q (.tup (g v))) q=some (.tup (g v)):=ab
  generalize upd H' q (.tup (g v))=H2 at s2 gq ⊢
  have gp2:=s2 _ _ gp
  have tk:TK H2 (upd H2 p (.lst (zs++[.ref q]))):=TK.lst gp2
  refine ⟨gp2,xs.length- (i+1),by lia,by lia,rfl,?_,ab,by rw [List.length_append,hz];rfl,?_⟩
  ·intro b o hb
   rw [ah (af hb hp)]
   exact s2 _ _ (sm _ _ hb)
  ·rw [List.take_add_one,hv,List.map_append]
   exact Paired.snoc (hT.mono ((au s2).trans tk)) ⟨q,rfl,tk _ _ gq⟩
theorem gX {α β:Type} {F:α->β->Prop}: ∀ {l:List α} {r:List β},Paired F l r-> ∀ n,Paired F (l.take n) (r.take n)
 | _,_,.nil,n=>by rw [List.take_nil,List.take_nil];exact .nil
 | _,_,.cons h t,0=>.nil
 | _,_,.cons h t,n+1=>.cons h (gX t n)
noncomputable def cL (k:Int):List Srt->List (Int×Str)
 | []=>[]
 | q::r=>q.downs.map (fun x=>(k,x))++cL (k+1) r
noncomputable def cQ (o:Srt) (qs:List Srt):List (Int×Str):=o.ups.map (fun x=>(-1,x))++cL 0 qs
noncomputable def tgV (t:Int×Str):List V:=[.int t.1,.str t.2]
theorem iB (k:Int): ∀ (qs:List Srt),(∀ s∈qs,s.ok)->(cL k qs).length<=3*qs.length:=by
 intro qs
 induction qs generalizing k with
 | nil=>intro _;exact Nat.le_refl _
 | cons q r ih=>
  intro h
  have h1:=ih (k+1) fun s hs=>h s (List.mem_cons_of_mem _ hs)
  have h2:=(h q List.mem_cons_self).2.2.1
  unfold cL
  rw [List.length_append,List.length_map,List.length_cons]
  lia
theorem lL (k:Int): ∀ (qs:List Srt) (q:Srt),cL k (qs++[q])=cL k qs++q.downs.map (fun x=>(k+qs.length,x)):=by
 intro qs
 induction qs generalizing k with
 | nil=>intro q;show q.downs.map (fun x=>(k,x))++[]=_;rw [List.append_nil];show _=q.downs.map (fun x=>(k+ ((0:Nat):Int),x));rw [show k+ ((0:Nat):Int)=k by lia]
 | cons r rs ih=>
  intro q
  show r.downs.map _++cL (k+1) (rs++[q])=(r.downs.map _++cL (k+1) rs)++_
  rw [ih,List.append_assoc]
  have:k+1+ (rs.length:Int)=k+ ((r::rs).length:Int):=by rw [List.length_cons];lia
  rw [this]
noncomputable def TabOk (H:Hp) (kvs:List (Key×V)) (ss:List Srt):Prop:= ∀ s∈ss,∃ a b c,aU kvs (.inr s.name)=some (.ref a)/\H a=some (.tup [.ref b,.ref c])/\H b=some (.tup (s.downs.map V.str))/\H c=some (.tup (s.ups.map V.str))
theorem TabOk.mono {H H':Hp} (t:TK H H') {kvs:List (Key×V)} {ss:List Srt} (h:TabOk H kvs ss):TabOk H' kvs ss:=fun s hs=>by
 obtain ⟨a,b,c,e,h1,h2,h3⟩:=h s hs
 exact ⟨a,b,c,e,t _ _ h1,t _ _ h2,t _ _ h3⟩
theorem TabOk.put {H:Hp} {kvs:List (Key×V)} {ss:List Srt} {i:Nat} {s:Srt} {a b c:Addr} (nd:(ss.map Srt.name).Nodup) (hs:ss[i]? =some s) (h:TabOk H kvs (ss.take i))
  (h1:H a=some (.tup [.ref b,.ref c])) (h2:H b=some (.tup (s.downs.map V.str))) (h3:H c=some (.tup (s.ups.map V.str))):TabOk H (bp kvs (.inr s.name) (.ref a)) (ss.take (i+1)):=by
 intro x hx
 rw [List.take_add_one,hs,List.mem_append]at hx
 rcases hx with hx | hx
 ·obtain ⟨a',b',c',e,r⟩:=h x hx
  refine ⟨a',b',c',?_,r⟩
  rw [cK,if_neg]
  ·exact e
  ·intro z
   have z:x.name=s.name:=Sum.inr.inj z
   obtain ⟨j,hj⟩:=List.getElem?_of_mem hx
   have hji:j<i:=by
    have:=(List.getElem?_eq_some_iff.mp hj).1
    rw [List.length_take]at this
    lia
   rw [List.getElem?_take,if_pos hji]at hj
   have q1:(ss.map Srt.name)[j]? =some s.name:=by rw [List.getElem?_map,hj,<- z];rfl
   have q2:(ss.map Srt.name)[i]? =some s.name:=by rw [List.getElem?_map,hs];rfl
   have:=i3 nd q1 q2
   lia
 ·have hx:x=s:=by simpa using hx
  subst hx
  exact ⟨a,b,c,by rw [cK,if_pos rfl],h1,h2,h3⟩
noncomputable def SrtsAt (H:Hp) (a:Addr) (ss:List Srt):Prop:= ∃ xs,H a=some (.tup xs)/\RepSs H ss xs
theorem SrtsAt.mono {H H':Hp} (t:TK H H') {a:Addr} {ss:List Srt}:SrtsAt H a ss->SrtsAt H' a ss:=fun ⟨xs,h,r⟩=>⟨xs,t _ _ h,r.mono t⟩
noncomputable def dC:Sp:=fun vs H Q _=> ∃ sa pa ss o qs,vs=[.ref sa,.str (Srt.name o),.ref pa]/\SrtsAt H sa ss/\da ss/\o∈ss/\H pa=some (.tup (qs.map fun q=>V.str (Srt.name q)))/\(∀ q∈qs,q∈ss)/\qs.length<=3/\
 ∀ p zs H',H p=none->Same H H'->H' p=some (.lst zs)->Tups H' ((cQ o qs).map tgV) zs->Q (.ref p) H'
theorem scTargets:ay ["sorts","own","parts","table","name","downs","ups","found","k"] ["sorts","own","parts"] (ak eM):=fsc
theorem nW (F:Fun K "_law_targets" "_law_targets" eM f fd) (G:Gb mg):
  ar P w K mg base CX0 1 f fd ["sorts","own","parts"] dC:=by
 refine F.ok scTargets (fun vs H Q E h=>?_) (fun cdv A outer s H vs Q E hr h=>?_)
 ·obtain ⟨sa,pa,ss,o,qs,rfl,_⟩:=h
  rfl
 obtain ⟨sa,pa,ss,o,qs,rfl,⟨xs,hsa,hR⟩,hok,ho,hpa,hqs,hql,q⟩:=h
 have hu:=cW hr
 refine ⟨_,ae (am (i:=3) scTargets.nd rfl (Or.inl rfl) ma)
  (ae (bd PassesOwn.never rfl (cN (pv 0)) (cP rfl (aG (av (i:=4) scTargets.nd rfl (Or.inl rfl)) (aG (av (i:=5) scTargets.nd rfl (Or.inl rfl)) (aG (av (i:=6) scTargets.nd rfl (Or.inl rfl)) ce))))
   (aj (cC hu (pv 3) (pv 4) (aK (aa (pv 5) (aa (pv 6) ad))) rfl)))
  (ae (cT (i:=7) (sc0:=ak eM) (N0:=["sorts","own","parts","table","name","downs","ups","found","k"]) (ys:=[]) (fr:=[]) rfl scTargets.nd rfl (Or.inl rfl)
    (cN (aF aW (bV hu (pv 3) (pv 1) (fun _ _=>rfl)) ai (fun _ _=>rfl))) rfl rfl
    cok
    (fun C s H ex=>aK (aa (pc j7 ai) (aa (pv 0) ad))))
  (ae (bd PassesOwn.never rfl (bq rfl G.range (aa (aw aA rfl G.len PySem.boot_len (aa (pv 2) ad)) ad)) (av (i:=8) scTargets.nd rfl (Or.inr rfl))
   (aj (bH (dj PySem.F.plainAttrs_list PySem.F.slot_list_extend PySem.F.type_list_extend jN (pv 7) (aa
    (gc (sc0:=ak eM) (N0:=["sorts","own","parts","table","name","downs","ups","found","k"]) (ys:=["k"]) (fr:=[8]) rfl
     (cN (aF aW (bV hu (pv 3) (aF aW (pv 2) (pv 8) (fun _ _=>rfl)) (fun _ _=>rfl)) ai (fun _ _=>rfl))) rfl rfl
     cok
     (fun C s H ex=>aK (aa (pv 1) (aa (pv 0) ad)))) ad)))))
  (aj (aB (pv 7)))))),?_⟩
 refine fun td htd=>?_
 have s0:=ag htd (.dK [])
 have g0:(upd H td (.dK [])) td=some (.dK []):=ab
 generalize upd H td (.dK [])=H0 at s0 g0 ⊢
 have hlen:=hR.len
 refine ⟨_,rfl,sa,rfl,⟨xs,SqT.of (s0 _ _ hsa)⟩,?_⟩
 refine fi (xs:=xs) (fun i σ H'=>i<=xs.length/\ ∃ o4 o5 o6 kvs,σ=[some (.ref sa),some (.str o.name),some (.ref pa),some (.ref td),o4,o5,o6,none,none]/\Same H H'/\H' td=some (.dK kvs)/\kvs.length<=i/\TabOk H' kvs (ss.take i))
  ⟨Nat.zero_le _,none,none,none,[],rfl,s0,g0,Nat.le_refl _,fun s hs=>(by cases hs)⟩ (fun i σ H' _ h=>by obtain ⟨_,_,_,_,_,_,sm,_⟩:=h;exact SqT.of (sm _ _ hsa)) ?_ ?_
 ·rintro i x σ H1 hx ⟨hi,o4,o5,o6,kvs,rfl,sm,gd,hl,hT⟩
  have hlt:i<xs.length:=(List.getElem?_eq_some_iff.mp hx).1
  obtain ⟨sr,hsr,a,b,c,rfl,ha,hb,hc⟩:=aH hR hx
  refine ⟨a,_,rfl,SqT.of (sm _ _ ha),rfl,_,_,rfl,_,_,rfl,_,_,rfl,rfl,?_⟩
  refine ⟨_,rfl,_,rfl,(by show 2<=sizeLine;decide),fun pt hpt=>?_⟩
  have s1:=ag hpt (.tup [.ref b,.ref c])
  have g1:(upd H1 pt (.tup [.ref b,.ref c])) pt=some (.tup [.ref b,.ref c]):=ab
  generalize upd H1 pt (.tup [.ref b,.ref c])=H2 at s1 g1 ⊢
  have gd2:=s1 _ _ gd
  have S2:Same H H2:=sm.trans s1
  refine ⟨_,rfl,_,rfl,td,_,rfl,DPut.k (k:=.inr sr.name) gd2 (ao (by have:=hok.2.1;lia)),?_⟩
  have tk:TK H2 (upd H2 td (.dK (bp kvs (.inr sr.name) (.ref pt)))):=TK.upd fun ys e=>by rw [gd2]at e;cases e
  refine ⟨hlt,_,_,_,_,rfl,?_,ab,?_,?_⟩
  ·intro y oo h
   rw [ah (af h htd)]
   exact S2 _ _ h
  ·have:=bU kvs (.inr sr.name) (.ref pt)
   lia
  ·exact TabOk.put hok.2.2.1 hsr (hT.mono ((au s1).trans tk)) (tk _ _ g1) (tk _ _ (S2 _ _ hb)) (tk _ _ (S2 _ _ hc))
 ·rintro σ H1 ⟨_,o4,o5,o6,kvs,rfl,sm,gd,hl,hT⟩
  rw [<- hlen,List.take_length]at hT
  obtain ⟨a,b,c,eo,ha,hb,hc⟩:=hT o ho
  refine ⟨_,rfl,_,rfl,td,.ref a,rfl,(by rw [<- eo];exact DGet.k (k:=.inr o.name) gd),a,_,1,.ref c,rfl,rfl,SqT.of ha,a8 (j:=1) rfl,c,rfl,⟨_,SqT.of hc⟩,?_⟩
  have lo:o.ups.length<=3:=(hok.2.2.2.2 o ho).2.2.2.1
  refine fk (by rw [List.length_map];lia) hc (fun v=>[.int (-1),v]) (fun v H k _ hk=>⟨1,rfl,_,rfl,(by show 2<=sizeLine;decide),fun p hp=>hk p hp⟩) fun fl zs H2 hfl s2 gfl hTz=>?_
  have ez:(o.ups.map V.str).map (fun v=>[V.int (-1),v])=(o.ups.map fun x=>((-1:Int),x)).map tgV:=by rw [List.map_map,List.map_map];rfl
  rw [ez]at hTz
  have S2:Same H H2:=sm.trans s2
  have hfl0:H fl=none:=sm.free hfl
  have gd2:=s2 _ _ gd
  have hT2:=hT.mono (au s2)
  have dfl:fl≠td:=Ne.symm (af gd hfl)
  have hlp:(qs.map fun q=>V.str (Srt.name q)).length=qs.length:=List.length_map _
  refine ⟨_,rfl,pa,_,rfl,.inr (SqT.of (S2 _ _ hpa)),_,rfl,by lia,by lia,?_⟩
  refine cR (fun i σ H'=> ∃ o8 zs,σ=[some (.ref sa),some (.str o.name),some (.ref pa),some (.ref td),o4,o5,o6,some (.ref fl),o8]/\Same H H'/\H' td=some (.dK kvs)/\TabOk H' kvs ss/\H' fl=some (.lst zs)/\
    Tups H' ((o.ups.map (fun x=>((-1:Int),x))++cL 0 (qs.take i)).map tgV) zs)
   ⟨none,zs,rfl,S2,gd2,hT2,gfl,by rw [List.take_zero];show Tups H2 ((_++[]).map tgV) zs;rw [List.append_nil];exact hTz⟩ ?_ ?_
  ·rintro i σ H3 hi ⟨o8,zs3,rfl,S3,gd3,hT3,gfl3,hTz3⟩
   have hi':i<qs.length:=by lia
   obtain ⟨sq,hsq⟩: ∃ sq,qs[i]? =some sq:=⟨qs[i],List.getElem?_eq_getElem hi'⟩
   obtain ⟨a,b,c,eq,ha,hb,hc⟩:=hT3 sq (hqs sq (List.mem_of_getElem? hsq))
   have eat:atI (qs.map fun q=>V.str (Srt.name q)) (0+ (i:Int))=some (V.str sq.name):=by
    rw [Int.zero_add]
    exact a8 (by rw [List.getElem?_map,hsq];rfl)
   refine ⟨_,rfl,.inl ⟨rfl,_,SqL.of gfl3⟩,?_⟩
   refine ⟨_,rfl,_,rfl,_,rfl,pa,_,_,_,rfl,rfl,SqT.of (S3 _ _ hpa),eat,td,.ref a,rfl,(by rw [<- eq];exact DGet.k (k:=.inr sq.name) gd3),a,_,0,.ref b,rfl,rfl,SqT.of ha,cz,b,rfl,⟨_,SqT.of hb⟩,?_⟩
   have ld:sq.downs.length<=3:=(hok.2.2.2.2 sq (hqs sq (List.mem_of_getElem? hsq))).2.2.1
   refine fk (by rw [List.length_map];lia) hb (fun v=>[.int (0+ (i:Int)),v]) (fun v H k _ hk=>⟨_,rfl,_,rfl,(by show 2<=sizeLine;decide),fun p hp=>hk p hp⟩) fun pl ws H4 hpl s4 gpl hTw=>?_
   have ew:(sq.downs.map V.str).map (fun v=>[V.int (0+ (i:Int)),v])=(sq.downs.map fun x=>(0+ (i:Int),x)).map tgV:=by rw [List.map_map,List.map_map];rfl
   rw [ew]at hTw
   have gfl4:=s4 _ _ gfl3
   have lz:=hTz3.len
   have lw:=hTw.len
   have lt:=iB 0 (qs.take i) fun s hs=>hok.2.2.2.2 s (hqs s (List.mem_of_mem_take hs))
   rw [List.length_map,List.length_append,List.length_map]at lz
   rw [List.length_map,List.length_map]at lw
   rw [List.length_take]at lt
   refine ⟨fl,pl,zs3,ws,rfl,rfl,gfl4,gpl,Nat.le_of_lt (ao (by lia)),?_⟩
   have tk:TK H4 (upd H4 fl (.lst (zs3++ws))):=TK.lst gfl4
   have tk3:TK H3 (upd H4 fl (.lst (zs3++ws))):=(au s4).trans tk
   refine ⟨_,zs3++ws,rfl,?_,?_,hT3.mono tk3,ab,?_⟩
   ·intro y oo h
    rw [ah (af h hfl0)]
    exact s4 _ _ (S3 _ _ h)
   ·rw [ah (Ne.symm dfl)]
    exact s4 _ _ gd3
   ·rw [List.take_add_one,hsq]
    show Tups _ ((_++cL 0 (qs.take i++[sq])).map tgV) _
    rw [lL,<- List.append_assoc,List.map_append]
    have e9:(0:Int) + ((qs.take i).length:Int)=0+ (i:Int):=by rw [List.length_take];lia
    rw [e9]
    exact (hTz3.mono tk3).append (hTw.mono tk)
  ·rintro σ H3 ⟨o8,zs3,rfl,S3,gd3,hT3,gfl3,hTz3⟩
   have e9:qs.take (((qs.map fun q=>V.str (Srt.name q)).length:Int)).toNat=qs:=by rw [hlp];exact List.take_of_length_le (by lia)
   rw [e9]at hTz3
   exact ⟨_,rfl,q fl zs3 H3 hfl0 S3 gfl3 hTz3⟩
noncomputable def cM (k:Int):List Srt->List Fm
 | []=>[]
 | q::r=>q.ups.map (fun x=>Fm.part k x)++cM (k+1) r
noncomputable def tgF (t:Int×Str):Fm:=if t.1<0 then .own t.2 else .part t.1 t.2
noncomputable def eA (o:Srt) (qs:List Srt) (mode j:Int):List (Int×Str):=if mode=2 then (cQ o qs).take j.toNat else cQ o qs
noncomputable def rds (o:Srt) (qs:List Srt) (mode j:Int):List Fm:=(o.downs.map Fm.own++cM 0 qs)++(if mode>0 then (eA o qs mode j).map tgF else [])
noncomputable def fmV:Fm->List V
 | .own x=>[.str "own",.str x]
 | .part k x=>[.str "part",.int k,.str x]
 | _=>[]
theorem fH (k:Int): ∀ (qs:List Srt),(∀ s∈qs,s.ok)->(cM k qs).length<=3*qs.length:=by
 intro qs
 induction qs generalizing k with
 | nil=>intro _;exact Nat.le_refl _
 | cons q r ih=>
  intro h
  have h1:=ih (k+1) fun s hs=>h s (List.mem_cons_of_mem _ hs)
  have h2:=(h q List.mem_cons_self).2.2.2.1
  unfold cM
  rw [List.length_append,List.length_map,List.length_cons]
  lia
theorem l3 (k:Int): ∀ (qs:List Srt) (q:Srt),cM k (qs++[q])=cM k qs++q.ups.map (fun x=>Fm.part (k+qs.length) x):=by
 intro qs
 induction qs generalizing k with
 | nil=>intro q;show q.ups.map (fun x=>Fm.part k x)++[]=_;rw [List.append_nil];show _=q.ups.map (fun x=>Fm.part (k+ ((0:Nat):Int)) x);rw [show k+ ((0:Nat):Int)=k by lia]
 | cons r rs ih=>
  intro q
  show r.ups.map _++cM (k+1) (rs++[q])=(r.ups.map _++cM (k+1) rs)++_
  rw [ih,List.append_assoc]
  have:k+1+ (rs.length:Int)=k+ ((r::rs).length:Int):=by rw [List.length_cons];lia
  rw [this]
theorem eG {ss:List Srt} {o:Srt} {qs:List Srt} (hok: ∀ s∈ss,s.ok) (ho:o∈ss) (hq: ∀ q∈qs,q∈ss) (hl:qs.length<=3):(cQ o qs).length<=12:=by
 have h1:=iB 0 qs fun s hs=>hok s (hq s hs)
 have h2:=(hok o ho).2.2.2.1
 unfold cQ
 rw [List.length_append,List.length_map]
 lia
theorem ju (o:Srt) (qs:List Srt) (mode j:Int):(eA o qs mode j).length<=(cQ o qs).length:=by
 unfold eA
 by_cases c:mode=2
 ·rw [if_pos c,List.length_take];exact Nat.min_le_right _ _
 ·rw [if_neg c];exact Nat.le_refl _
noncomputable def gV:Sp:=fun vs H Q _=> ∃ sa pa ss o qs mode j,vs=[.ref sa,.str (Srt.name o),.ref pa,.int mode,.int j]/\SrtsAt H sa ss/\da ss/\o∈ss/\H pa=some (.tup (qs.map fun q=>V.str (Srt.name q)))/\(∀ q∈qs,q∈ss)/\qs.length<=3/\
 0<=j/\j<=(cQ o qs).length/\ ∀ p zs H',H p=none->Same H H'->H' p=some (.lst zs)->Tups H' ((rds o qs mode j).map fmV) zs->Q (.ref p) H'
theorem wG {z u:V} (k:Bool):atI [z,u] (if k then 1 else 0)=some (if k then u else z):=by cases k <;> rfl
theorem scLReadings:ay ["sorts","own","parts","mode","j","table","name","downs","ups","word","found","k","targets","at"] ["sorts","own","parts","mode","j"] (ak di):=fsc
theorem li (F:Fun K "_law_readings" "_law_readings" di f fd) (G:Gb mg) (GT:ar P w K mg base CX0 1 g gd ["sorts","own","parts"] dC) (bT:Binds K gd ["sorts","own","parts"] []) (kT:PySem.W.keepIn K (.ref g)=true) (mT:mg "_law_targets"=some (.ref g)):
  ar P w K mg base CX0 2 f fd ["sorts","own","parts","mode","j"] gV:=by
 refine F.ok scLReadings (fun vs H Q E h=>?_) (fun cdv A outer s H vs Q E hr h=>?_)
 ·obtain ⟨sa,pa,ss,o,qs,mode,j,rfl,_⟩:=h
  rfl
 obtain ⟨sa,pa,ss,o,qs,mode,j,rfl,⟨xs,hsa,hR⟩,hok,ho,hpa,hqs,hql,hj0,hj1,q⟩:=h
 have hu:=cW hr
 refine ⟨_,ae (am (i:=5) scLReadings.nd rfl (Or.inl rfl) ma)
  (ae (bd PassesOwn.never rfl (cN (pv 0)) (cP rfl (aG (av (i:=6) scLReadings.nd rfl (Or.inl rfl)) (aG (av (i:=7) scLReadings.nd rfl (Or.inl rfl)) (aG (av (i:=8) scLReadings.nd rfl (Or.inl rfl)) ce))))
   (aj (cC hu (pv 5) (pv 6) (aK (aa (pv 7) (aa (pv 8) ad))) rfl)))
  (ae (cT (i:=10) (sc0:=ak di) (N0:=["sorts","own","parts","mode","j","table","name","downs","ups","word","found","k","targets","at"]) (ys:=[]) (fr:=[]) rfl scLReadings.nd rfl (Or.inl rfl)
    (cN (aF aW (bV hu (pv 5) (pv 1) (fun _ _=>rfl)) ai (fun _ _=>rfl))) rfl rfl
    cok
    (fun C s H ex=>aK (aa aL (aa (pv 0) ad))))
  (ae (bd PassesOwn.never rfl (bq rfl G.range (aa (aw aA rfl G.len PySem.boot_len (aa (pv 2) ad)) ad)) (av (i:=11) scLReadings.nd rfl (Or.inr rfl))
   (aj (bH (dj PySem.F.plainAttrs_list PySem.F.slot_list_extend PySem.F.type_list_extend jN (pv 10) (aa
    (gc (sc0:=ak di) (N0:=["sorts","own","parts","mode","j","table","name","downs","ups","word","found","k","targets","at"]) (ys:=["k"]) (fr:=[11]) rfl
     (cN (aF aW (bV hu (pv 5) (aF aW (pv 2) (pv 11) (fun _ _=>rfl)) (fun _ _=>rfl)) ai (fun _ _=>rfl))) rfl rfl
     cok
     (fun C s H ex=>aK (aa aL (aa (pv 1) (aa (pv 0) ad))))) ad)))))
  (ae (am (i:=12) scLReadings.nd rfl (Or.inl rfl) (al GT hr rfl mT kT bT .nil aq (aa (pv 0) (aa (pv 1) (aa (pv 2) ad)))))
  (ae (bh (aC cq (pv 3) ai (aJ _)) (aj (am (i:=12) scLReadings.nd rfl (Or.inl rfl) (aS cB (pv 12) ba (aZ (pv 4))))) aN)
  (ae (bd PassesOwn.never rfl (cO (pv 12)) (cP rfl (aG (av (i:=13) scLReadings.nd rfl (Or.inl rfl)) (aG (av (i:=9) scLReadings.nd rfl (Or.inl rfl)) ce)))
   (aj (bh (aC iY (pv 3) ai (aJ _))
    (aj (bH (dj PySem.F.plainAttrs_list PySem.F.slot_list_append PySem.F.type_list_append bi (pv 10) (aa
     (aF aX (bc (aa (aK (aa aL (aa (pv 13) (aa (pv 9) ad)))) (aa (aK (aa aL (aa (pv 9) ad))) ad)))
      (aT dS rfl G.int (by decide +kernel) (aa (c7 ft (pv 13) ai (aJ _)) ad)) (fun _ _=>rfl)) ad)))) aN)))
  (aj (aB (pv 10))))))))),?_⟩
 refine fun td htd=>?_
 have s0:=ag htd (.dK [])
 have g0:(upd H td (.dK [])) td=some (.dK []):=ab
 generalize upd H td (.dK [])=H0 at s0 g0 ⊢
 have hlen:=hR.len
 refine ⟨_,rfl,sa,rfl,⟨xs,SqT.of (s0 _ _ hsa)⟩,?_⟩
 refine fi (xs:=xs) (fun i σ H'=>i<=xs.length/\ ∃ o4 o5 o6 kvs,σ=[some (.ref sa),some (.str o.name),some (.ref pa),some (.int mode),some (.int j),some (.ref td),o4,o5,o6,none,none,none,none,none]/\Same H H'/\H' td=some (.dK kvs)/\kvs.length<=i/\TabOk H' kvs (ss.take i))
  ⟨Nat.zero_le _,none,none,none,[],rfl,s0,g0,Nat.le_refl _,fun s hs=>(by cases hs)⟩ (fun i σ H' _ h=>by obtain ⟨_,_,_,_,_,_,sm,_⟩:=h;exact SqT.of (sm _ _ hsa)) ?_ ?_
 ·rintro i x σ H1 hx ⟨hi,o4,o5,o6,kvs,rfl,sm,gd,hl,hT⟩
  have hlt:i<xs.length:=(List.getElem?_eq_some_iff.mp hx).1
  obtain ⟨sr,hsr,a,b,c,rfl,ha,hb,hc⟩:=aH hR hx
  refine ⟨a,_,rfl,SqT.of (sm _ _ ha),rfl,_,_,rfl,_,_,rfl,_,_,rfl,rfl,?_⟩
  refine ⟨_,rfl,_,rfl,(by show 2<=sizeLine;decide),fun pt hpt=>?_⟩
  have s1:=ag hpt (.tup [.ref b,.ref c])
  have g1:(upd H1 pt (.tup [.ref b,.ref c])) pt=some (.tup [.ref b,.ref c]):=ab
  generalize upd H1 pt (.tup [.ref b,.ref c])=H2 at s1 g1 ⊢
  have gd2:=s1 _ _ gd
  have S2:Same H H2:=sm.trans s1
  refine ⟨_,rfl,_,rfl,td,_,rfl,DPut.k (k:=.inr sr.name) gd2 (ao (by have:=hok.2.1;lia)),?_⟩
  have tk:TK H2 (upd H2 td (.dK (bp kvs (.inr sr.name) (.ref pt)))):=TK.upd fun ys e=>by rw [gd2]at e;cases e
  refine ⟨hlt,_,_,_,_,rfl,?_,ab,?_,?_⟩
  ·intro y oo h
   rw [ah (af h htd)]
   exact S2 _ _ h
  ·have:=bU kvs (.inr sr.name) (.ref pt)
   lia
  ·exact TabOk.put hok.2.2.1 hsr (hT.mono ((au s1).trans tk)) (tk _ _ g1) (tk _ _ (S2 _ _ hb)) (tk _ _ (S2 _ _ hc))
 ·rintro σ H1 ⟨_,o4,o5,o6,kvs,rfl,sm,gd,hl,hT⟩
  rw [<- hlen,List.take_length]at hT
  obtain ⟨a,b,c,eo,ha,hb,hc⟩:=hT o ho
  refine ⟨_,rfl,_,rfl,td,.ref a,rfl,(by rw [<- eo];exact DGet.k (k:=.inr o.name) gd),a,_,0,.ref b,rfl,rfl,SqT.of ha,cz,b,rfl,⟨_,SqT.of hb⟩,?_⟩
  have lo:o.downs.length<=3:=(hok.2.2.2.2 o ho).2.2.1
  refine fk (by rw [List.length_map];lia) hb (fun v=>[.str "own",v]) (fun v H k _ hk=>⟨_,rfl,(by show 2<=sizeLine;decide),fun p hp=>hk p hp⟩) fun fl zs H2 hfl s2 gfl hTz=>?_
  have ez:(o.downs.map V.str).map (fun v=>[V.str "own",v])=(o.downs.map Fm.own).map fmV:=by rw [List.map_map,List.map_map];rfl
  rw [ez]at hTz
  have S2:Same H H2:=sm.trans s2
  have hfl0:H fl=none:=sm.free hfl
  have gd2:=s2 _ _ gd
  have hT2:=hT.mono (au s2)
  have dfl:fl≠td:=Ne.symm (af gd hfl)
  have hlp:(qs.map fun q=>V.str (Srt.name q)).length=qs.length:=List.length_map _
  refine ⟨_,rfl,pa,_,rfl,.inr (SqT.of (S2 _ _ hpa)),_,rfl,by lia,by lia,?_⟩
  refine cR (fun i σ H'=> ∃ o8 zs,σ=[some (.ref sa),some (.str o.name),some (.ref pa),some (.int mode),some (.int j),some (.ref td),o4,o5,o6,none,some (.ref fl),o8,none,none]/\Same H H'/\H' td=some (.dK kvs)/\TabOk H' kvs ss/\H' fl=some (.lst zs)/\
    Tups H' ((o.downs.map Fm.own++cM 0 (qs.take i)).map fmV) zs)
   ⟨none,zs,rfl,S2,gd2,hT2,gfl,by rw [List.take_zero];show Tups H2 ((_++[]).map fmV) zs;rw [List.append_nil];exact hTz⟩ ?_ ?_
  ·rintro i σ H3 hi ⟨o8,zs3,rfl,S3,gd3,hT3,gfl3,hTz3⟩
   have hi':i<qs.length:=by lia
   obtain ⟨sq,hsq⟩: ∃ sq,qs[i]? =some sq:=⟨qs[i],List.getElem?_eq_getElem hi'⟩
   obtain ⟨a,b,c,eq,ha,hb,hc⟩:=hT3 sq (hqs sq (List.mem_of_getElem? hsq))
   have eat:atI (qs.map fun q=>V.str (Srt.name q)) (0+ (i:Int))=some (V.str sq.name):=by
    rw [Int.zero_add]
    exact a8 (by rw [List.getElem?_map,hsq];rfl)
   refine ⟨_,rfl,.inl ⟨rfl,_,SqL.of gfl3⟩,?_⟩
   refine ⟨_,rfl,_,rfl,_,rfl,pa,_,_,_,rfl,rfl,SqT.of (S3 _ _ hpa),eat,td,.ref a,rfl,(by rw [<- eq];exact DGet.k (k:=.inr sq.name) gd3),a,_,1,.ref c,rfl,rfl,SqT.of ha,a8 (j:=1) rfl,c,rfl,⟨_,SqT.of hc⟩,?_⟩
   have ld:sq.ups.length<=3:=(hok.2.2.2.2 sq (hqs sq (List.mem_of_getElem? hsq))).2.2.2.1
   refine fk (by rw [List.length_map];lia) hc (fun v=>[.str "part",.int (0+ (i:Int)),v]) (fun v H k _ hk=>⟨_,rfl,_,rfl,(by show 3<=sizeLine;decide),fun p hp=>hk p hp⟩) fun pl ws H4 hpl s4 gpl hTw=>?_
   have ew:(sq.ups.map V.str).map (fun v=>[V.str "part",V.int (0+ (i:Int)),v])=(sq.ups.map fun x=>Fm.part (0+ (i:Int)) x).map fmV:=by rw [List.map_map,List.map_map];rfl
   rw [ew]at hTw
   have gfl4:=s4 _ _ gfl3
   have lz:=hTz3.len
   have lw:=hTw.len
   have lt:=fH 0 (qs.take i) fun s hs=>hok.2.2.2.2 s (hqs s (List.mem_of_mem_take hs))
   rw [List.length_map,List.length_append,List.length_map]at lz
   rw [List.length_map,List.length_map]at lw
   rw [List.length_take]at lt
   refine ⟨fl,pl,zs3,ws,rfl,rfl,gfl4,gpl,Nat.le_of_lt (ao (by lia)),?_⟩
   have tk:TK H4 (upd H4 fl (.lst (zs3++ws))):=TK.lst gfl4
   have tk3:TK H3 (upd H4 fl (.lst (zs3++ws))):=(au s4).trans tk
   refine ⟨_,zs3++ws,rfl,?_,?_,hT3.mono tk3,ab,?_⟩
   ·intro y oo h
    rw [ah (af h hfl0)]
    exact s4 _ _ (S3 _ _ h)
   ·rw [ah (Ne.symm dfl)]
    exact s4 _ _ gd3
   ·rw [List.take_add_one,hsq]
    show Tups _ ((_++cM 0 (qs.take i++[sq])).map fmV) _
    rw [l3,<- List.append_assoc,List.map_append]
    have e9:(0:Int) + ((qs.take i).length:Int)=0+ (i:Int):=by rw [List.length_take];lia
    rw [e9]
    exact (hTz3.mono tk3).append (hTw.mono tk)
  ·rintro σ H3 ⟨o8,zs3,rfl,S3,gd3,hT3,gfl3,hTz3⟩
   have e9:qs.take (((qs.map fun q=>V.str (Srt.name q)).length:Int)).toNat=qs:=by rw [hlp];exact List.take_of_length_le (by lia)
   rw [e9]at hTz3
   have lt12:=eG hok.2.2.2.2 ho hqs hql
   have l12:zs3.length<=12:=by
    have lt:=fH 0 qs fun s hs=>hok.2.2.2.2 s (hqs s hs)
    have lz:=hTz3.len
    rw [List.length_map,List.length_append,List.length_map]at lz
    lia
   refine ⟨_,rfl,_,rfl,_,rfl,sa,pa,ss,o,qs,rfl,⟨xs,S3 _ _ hsa,hR.mono (au S3)⟩,hok,ho,S3 _ _ hpa,hqs,hql,fun tl zt H4 htl s4 gtl hTt=>?_⟩
   have S4:Same H H4:=S3.trans s4
   have gfl4:=s4 _ _ gfl3
   have hTz4:=hTz3.mono (au s4)
   have nft:fl≠tl:=af gfl3 htl
   refine ⟨_,rfl,rfl,_,rfl,?_⟩
   refine c8 (fun c=>?A) (fun c=>?B)
   case' A=>
    have cm:mode=2:=V.int.inj (of_decide_eq_true c)
    have lzt:zt.length=(cQ o qs).length:=by rw [<- hTt.len,List.length_map]
    refine ⟨_,rfl,_,rfl,j,rfl,tl,zt,rfl,SqL.of gtl,fun tl2 htl2=>?_⟩
    rw [dR zt hj0 (by lia)]
    have hsel:Tups H4 ((eA o qs mode j).map tgV) (zt.take j.toNat):=by
     unfold eA
     rw [if_pos cm,List.map_take]
     exact gX hTt _
    have s5:=ag htl2 (.lst (zt.take j.toNat))
    have gt:(upd H4 tl2 (.lst (zt.take j.toNat))) tl2=some (.lst (zt.take j.toNat)):=ab
    have nft2:fl≠tl2:=af gfl4 htl2
    have gfl5:=s5 _ _ gfl4
    have hTz5:=hTz4.mono (au s5)
    have hsel5:=hsel.mono (au s5)
    have S5:Same H (upd H4 tl2 (.lst (zt.take j.toNat))):=S4.trans s5
    generalize upd H4 tl2 (.lst (zt.take j.toNat))=H5 at gt gfl5 hTz5 hsel5 S5 ⊢
    generalize zt.take j.toNat=zu at gt hsel5
    generalize tl2=tx at gt nft2 ⊢
   case' B=>
    have cm: ¬ mode=2:=fun e=>c (decide_eq_true (by rw [e]))
    have hsel5:Tups H4 ((eA o qs mode j).map tgV) zt:=by
     unfold eA
     rw [if_neg cm]
     exact hTt
    have gt:=gtl
    have nft2:=nft
    have gfl5:=gfl4
    have hTz5:=hTz4
    have S5:=S4
    generalize H4=H5 at gt gfl5 hTz5 hsel5 S5 ⊢
    generalize zt=zu at gt hsel5
    generalize tl=tx at gt nft2 ⊢
   all_goals
    have ltg:(eA o qs mode j).length<=12:=Nat.le_trans (ju o qs mode j) lt12
    have lzu:zu.length=(eA o qs mode j).length:=by rw [<- hsel5.len,List.length_map]
    have hrd:rds o qs mode j=(o.downs.map Fm.own++cM 0 qs)++(if mode>0 then (eA o qs mode j).map tgF else []):=rfl
    generalize eA o qs mode j=tg at ltg lzu hrd hsel5
    have e0:(if mode>0 then (tg.take 0).map tgF else [])=[]:=by split <;> rfl
    refine ⟨_,rfl,tx,rfl,⟨zu,SqL.of gt⟩,?_⟩
    refine cY (xs:=zu) (fun i σ H'=>i<=zu.length/\ ∃ o9 zs o13,σ=[some (.ref sa),some (.str o.name),some (.ref pa),some (.int mode),some (.int j),some (.ref td),o4,o5,o6,o9,some (.ref fl),o8,some (.ref tx),o13]/\Same H H'/\H' tx=some (.lst zu)/\Tups H' (tg.map tgV) zu/\H' fl=some (.lst zs)/\zs.length<=12+i/\
      Tups H' (((o.downs.map Fm.own++cM 0 qs)++(if mode>0 then (tg.take i).map tgF else [])).map fmV) zs)
     ⟨Nat.zero_le _,none,zs3,none,rfl,S5,gt,hsel5,gfl5,l12,by rw [e0,List.append_nil];exact hTz5⟩ (fun i σ H' _ h=>by obtain ⟨_,_,_,_,_,_,gg,_⟩:=h;exact SqL.of gg) ?_ ?_
    ·rintro i x σ H6 hx ⟨hi,o9,zs6,o13,rfl,S6,gt6,hsel6,gfl6,l6,hT6⟩
     have hlt:i<zu.length:=(List.getElem?_eq_some_iff.mp hx).1
     obtain ⟨ys,hys,a,rfl,ha⟩:=aH hsel6 hx
     obtain ⟨t,ht,rfl⟩: ∃ t,tg[i]? =some t/\tgV t=ys:=by
      rw [List.getElem?_map]at hys
      cases he:tg[i]? with
      | none=>rw [he]at hys;cases hys
      | some t=>rw [he]at hys;exact ⟨t,rfl,Option.some.inj hys⟩
     refine ⟨a,_,rfl,SqT.of ha,rfl,_,_,rfl,_,_,rfl,rfl,?_⟩
     refine ⟨_,rfl,_,_,rfl,rfl,_,rfl,?_⟩
     refine c8 (fun cm=>?_) (fun cm=>?_)
     ·have cm':mode>0:=of_decide_eq_true cm
      refine ⟨_,rfl,.inl ⟨rfl,_,SqL.of gfl6⟩,?_⟩
      refine ⟨_,rfl,_,rfl,(by show 3<=sizeLine;decide),fun p1 hp1=>?_⟩
      have s1:=ag hp1 (.tup [.str "part",.int t.1,.str t.2])
      have g1:(upd H6 p1 (.tup [.str "part",.int t.1,.str t.2])) p1=some (.tup [.str "part",.int t.1,.str t.2]):=ab
      generalize upd H6 p1 (.tup [.str "part",.int t.1,.str t.2])=H7 at s1 g1 ⊢
      refine ⟨_,rfl,(by show 2<=sizeLine;decide),fun p2 hp2=>?_⟩
      have s2:=ag hp2 (.tup [.str "own",.str t.2])
      have g2:(upd H7 p2 (.tup [.str "own",.str t.2])) p2=some (.tup [.str "own",.str t.2]):=ab
      generalize upd H7 p2 (.tup [.str "own",.str t.2])=H8 at s2 g2 ⊢
      refine ⟨(by show 2<=sizeLine;decide),fun p3 hp3=>?_⟩
      have s3:=ag hp3 (.lst [.ref p1,.ref p2])
      have g3:(upd H8 p3 (.lst [.ref p1,.ref p2])) p3=some (.lst [.ref p1,.ref p2]):=ab
      generalize upd H8 p3 (.lst [.ref p1,.ref p2])=H9 at s3 g3 ⊢
      have S69:Same H6 H9:=s1.trans (s2.trans s3)
      refine ⟨_,rfl,_,_,rfl,rfl,.inr ⟨_,rfl,p3,_,_,_,rfl,rfl,SqL.of g3,wG _,?_⟩⟩
      have gfl9:=S69 _ _ gfl6
      refine ⟨fl,zs6,_,rfl,rfl,gfl9,ao (by lia),?_⟩
      have hz:uj H9 (fmV (tgF t)) (if decide (t.1<0)=true then .ref p2 else .ref p1):=by
       by_cases cn:t.1<0
       ·rw [if_pos (decide_eq_true cn)]
        unfold tgF
        rw [if_pos cn]
        exact ⟨p2,rfl,s3 _ _ g2⟩
       ·rw [if_neg (fun e=>cn (of_decide_eq_true e))]
        unfold tgF
        rw [if_neg cn]
        exact ⟨p1,rfl,s3 _ _ (s2 _ _ g1)⟩
      generalize (if decide (t.1<0)=true then V.ref p2 else .ref p1)=zv at hz ⊢
      have tk:TK H9 (upd H9 fl (.lst (zs6++[zv]))):=TK.lst gfl9
      have tk6:TK H6 (upd H9 fl (.lst (zs6++[zv]))):=(au S69).trans tk
      refine ⟨hlt,_,zs6++[zv],_,rfl,?_,?_,hsel6.mono tk6,ab,by rw [List.length_append];show zs6.length+1<=_;lia,?_⟩
      ·intro y oo h
       rw [ah (af h hfl0)]
       exact S69 _ _ (S6 _ _ h)
      ·rw [ah (Ne.symm nft2)]
       exact S69 _ _ gt6
      ·rw [if_pos cm']at hT6 ⊢
       rw [List.take_add_one,ht]
       show Tups _ ((_++(tg.take i++[t]).map tgF).map fmV) _
       rw [List.map_append (f:=tgF),<- List.append_assoc,List.map_append (f:=fmV)]
       obtain ⟨az,ez,gz⟩:=hz
       exact Paired.snoc (hT6.mono tk6) ⟨az,ez,tk _ _ gz⟩
     ·have cm': ¬ mode>0:=fun e=>cm (decide_eq_true e)
      refine ⟨hlt,_,zs6,_,rfl,S6,gt6,hsel6,gfl6,by lia,?_⟩
      rw [if_neg cm']at hT6 ⊢
      exact hT6
    ·rintro σ H6 ⟨_,o9,zs6,o13,rfl,S6,gt6,hsel6,gfl6,l6,hT6⟩
     rw [List.take_of_length_le (by lia),<- hrd]at hT6
     exact ⟨_,rfl,q fl zs6 H6 hfl0 S6 gfl6 hT6⟩
structure Rul where
 pl:Int
 word:Str
 fm:Fm
structure Frm where
 name:Str
 own:Srt
 parts:List Srt
 rules:List Rul
noncomputable def RepR (H:Hp) (r:Rul) (v:V):Prop:= ∃ a u,v=.ref a/\H a=some (.tup [.int r.pl,.str r.word,u])/\Rep H r.fm u
theorem RepR.mono {H H':Hp} (t:TK H H') {r:Rul} {v:V}:RepR H r v->RepR H' r v:=fun ⟨a,u,e,h,p⟩=>⟨a,u,e,t _ _ h,p.mono t⟩
noncomputable def RepRs (H:Hp) (rs:List Rul) (vs:List V):Prop:=Paired (RepR H) rs vs
theorem RepRs.mono {H H':Hp} (t:TK H H') {rs:List Rul} {vs:List V} (h:RepRs H rs vs):RepRs H' rs vs:=Paired.mapP h fun _ _ r=>r.mono t
theorem RepRs.len {H:Hp} {rs:List Rul} {vs:List V} (h:RepRs H rs vs):rs.length=vs.length:=Paired.length h
noncomputable def cF (qs:List Srt):List V:=qs.map fun q=>V.str (Srt.name q)
noncomputable def RepF (H:Hp) (fr:Frm) (v:V):Prop:= ∃ a pa ra rv,v=.ref a/\H a=some (.tup [.str fr.name,.str fr.own.name,.ref pa,.ref ra])/\H pa=some (.tup (cF fr.parts))/\H ra=some (.tup rv)/\RepRs H fr.rules rv
theorem RepF.mono {H H':Hp} (t:TK H H') {fr:Frm} {v:V}:RepF H fr v->RepF H' fr v:=fun ⟨a,pa,ra,rv,e,h1,h2,h3,h4⟩=>⟨a,pa,ra,rv,e,t _ _ h1,t _ _ h2,t _ _ h3,h4.mono t⟩
noncomputable def pQ (o:Srt) (qs:List Srt) (mode:Int) (rules:List Rul):Prop:=rules.map (fun r=>(r.pl,r.word))=cQ o qs/\ ∀ (j:Nat) r,rules[j]? =some r->r.fm.wfp (fun f=>f∈rds o qs mode j)/\r.fm.size<=15
noncomputable def fL:Fm->Prop
 | .own x=>cJ x=true
 | .part k x=>(0<=k/\k<=2)/\cJ x=true
 | _=>False
theorem dW {k:Int}: ∀ {qs:List Srt} {t:Int×Str},t∈cL k qs->k<=t.1/\t.1<k+qs.length/\ ∃ q∈qs,t.2∈q.downs:=by
 intro qs
 induction qs generalizing k with
 | nil=>intro t h;cases h
 | cons q r ih=>
  intro t h
  unfold cL at h
  rw [List.mem_append]at h
  rcases h with h | h
  ·obtain ⟨x,hx,rfl⟩:=List.mem_map.mp h
   exact ⟨Int.le_refl _,by rw [List.length_cons];show k<_;lia,q,List.mem_cons_self,hx⟩
  ·obtain ⟨h1,h2,q',h3,h4⟩:=ih h
   exact ⟨by lia,by rw [List.length_cons];lia,q',List.mem_cons_of_mem _ h3,h4⟩
theorem nJ {k:Int}: ∀ {qs:List Srt} {f:Fm},f∈cM k qs-> ∃ j x,f=.part j x/\k<=j/\j<k+qs.length/\ ∃ q∈qs,x∈q.ups:=by
 intro qs
 induction qs generalizing k with
 | nil=>intro t h;cases h
 | cons q r ih=>
  intro t h
  unfold cM at h
  rw [List.mem_append]at h
  rcases h with h | h
  ·obtain ⟨x,hx,rfl⟩:=List.mem_map.mp h
   exact ⟨k,x,rfl,Int.le_refl _,by rw [List.length_cons];lia,q,List.mem_cons_self,hx⟩
  ·obtain ⟨j,x,e,h1,h2,q',h3,h4⟩:=ih h
   exact ⟨j,x,e,by lia,by rw [List.length_cons];lia,q',List.mem_cons_of_mem _ h3,h4⟩
theorem lM {ss:List Srt} {o:Srt} {qs:List Srt} (hok: ∀ s∈ss,s.ok) (ho:o∈ss) (hq: ∀ q∈qs,q∈ss) (hl:qs.length<=3) {t:Int×Str} (ht:t∈cQ o qs):fL (tgF t):=by
 unfold cQ at ht
 rw [List.mem_append]at ht
 unfold tgF
 rcases ht with h | h
 ·obtain ⟨x,hx,rfl⟩:=List.mem_map.mp h
  rw [if_pos (show ((-1:Int),x).1<0 from (by decide:(-1:Int) <0))]
  exact (hok o ho).2.1 x (List.mem_append_right _ hx)
 ·obtain ⟨h1,h2,q,h3,h4⟩:=dW h
  rw [if_neg (by lia)]
  exact ⟨⟨h1,by lia⟩,(hok q (hq q h3)).2.1 _ (List.mem_append_left _ h4)⟩
theorem sw {ss:List Srt} {o:Srt} {qs:List Srt} {mode j:Int} (hok: ∀ s∈ss,s.ok) (ho:o∈ss) (hq: ∀ q∈qs,q∈ss) (hl:qs.length<=3) {f:Fm} (hf:f∈rds o qs mode j):fL f:=by
 unfold rds at hf
 rw [List.mem_append,List.mem_append]at hf
 rcases hf with (h | h) | h
 ·obtain ⟨x,hx,rfl⟩:=List.mem_map.mp h
  exact (hok o ho).2.1 x (List.mem_append_left _ hx)
 ·obtain ⟨k,x,rfl,h1,h2,q,h3,h4⟩:=nJ h
  exact ⟨⟨h1,by lia⟩,(hok q (hq q h3)).2.1 _ (List.mem_append_right _ h4)⟩
 ·by_cases c:mode>0
  ·rw [if_pos c]at h
   obtain ⟨t,ht,rfl⟩:=List.mem_map.mp h
   refine lM hok ho hq hl ?_
   unfold eA at ht
   by_cases c2:mode=2
   ·rw [if_pos c2]at ht;exact List.mem_of_mem_take ht
   ·rw [if_neg c2]at ht;exact ht
  ·rw [if_neg c]at h;cases h
theorem nT {α β:Type} {F:α->β->Prop}: ∀ {l:List α} {r:List β} {b:β},Paired F l r->b∈r-> ∃ a∈l,F a b:=fun {l r b} h m=>by
 obtain ⟨i,hi⟩:=List.getElem?_of_mem m
 obtain ⟨a,ha,f⟩:=aH h hi
 exact ⟨a,List.mem_of_getElem? ha,f⟩
theorem tK {H:Hp} {f:Fm} {v:V} (hl:fL f) (h:uj H (fmV f) v):Rep H f v/\f.size=1:=by
 obtain ⟨a,rfl,ha⟩:=h
 cases f with
 | own x=>exact ⟨⟨a,rfl,ha⟩,rfl⟩
 | part k x=>exact ⟨⟨a,rfl,ha⟩,rfl⟩
 | num n=>exact hl.elim
 | bin op x y=>exact hl.elim
 | whn x y z=>exact hl.elim
theorem tJ {ρ:Fm->Prop} {f:Fm} (hl:fL f) (h:ρ f):f.wfp ρ:=by
 cases f with
 | own x=>exact ⟨hl,h⟩
 | part k x=>exact ⟨hl,h⟩
 | num n=>exact hl.elim
 | bin op x y=>exact hl.elim
 | whn x y z=>exact hl.elim
theorem uJ {H:Hp} {ss:List Srt} {o:Srt} {qs:List Srt} {mode j:Int} {zs:List V} (hok: ∀ s∈ss,s.ok) (ho:o∈ss) (hq: ∀ q∈qs,q∈ss) (hl:qs.length<=3) (h:Tups H ((rds o qs mode j).map fmV) zs):LvsP (fun f=>f∈rds o qs mode j) H zs:=fun v hv=>by
 obtain ⟨ys,hy,hz⟩:=nT h hv
 obtain ⟨f,hf,rfl⟩:=List.mem_map.mp hy
 have lf:=sw hok ho hq hl hf
 obtain ⟨r,s⟩:=tK lf hz
 exact ⟨f,r,tJ lf hf,s⟩
theorem uK {ss:List Srt} {o:Srt} {qs:List Srt} {mode j:Int} (hok: ∀ s∈ss,s.ok) (ho:o∈ss) (hq: ∀ q∈qs,q∈ss) (hl:qs.length<=3):(rds o qs mode j).length<=24:=by
 have h1:=fH 0 qs fun s hs=>hok s (hq s hs)
 have h2:=(hok o ho).2.2.1
 have h3:=eG hok ho hq hl
 have h4:=ju o qs mode j
 unfold rds
 rw [List.length_append,List.length_append,List.length_map]
 by_cases c:mode>0
 ·rw [if_pos c,List.length_map];lia
 ·rw [if_neg c];show _+0<=24;lia
noncomputable def fU:Sp:=fun vs H Q _=> ∃ tp sa pa ss nm o qs mode,vs=[.ref tp,.ref sa,.str nm,.str (Srt.name o),.ref pa,.int mode]/\Tp H tp/\SrtsAt H sa ss/\da ss/\o∈ss/\H pa=some (.tup (cF qs))/\(∀ q∈qs,q∈ss)/\qs.length<=3/\
 ∀ v rules H',RepF H' ⟨nm,o,qs,rules⟩ v->pQ o qs mode rules->Kp tp H H'->Tp H' tp->Q v H'
theorem scLForm:ay ["tape","sorts","name","own","parts","mode","rules","targets","j","readings"] ["tape","sorts","name","own","parts","mode"] (ak nE):=fsc
theorem sY (F:Fun K "_law_form" "_law_form" nE f fd) (G:Gb mg) (GT:ar P w K mg base CX0 1 g gd ["sorts","own","parts"] dC) (bT:Binds K gd ["sorts","own","parts"] []) (kT:PySem.W.keepIn K (.ref g)=true) (mT:mg "_law_targets"=some (.ref g))
  (GR:ar P w K mg base CX0 2 f2 fd2 ["sorts","own","parts","mode","j"] gV) (bR:Binds K fd2 ["sorts","own","parts","mode","j"] []) (kR:PySem.W.keepIn K (.ref f2)=true) (mR:mg "_law_readings"=some (.ref f2))
  (GF: ∀ ρ,ar P w K mg base CX0 4 f3 fd3 ["tape","readings"] (fD ρ)) (bF:Binds K fd3 ["tape","readings"] []) (kF:PySem.W.keepIn K (.ref f3)=true) (mF:mg "_law_formula"=some (.ref f3)):
  ar P w K mg base CX0 5 f fd ["tape","sorts","name","own","parts","mode"] fU:=by
 have GF':ar P w K mg base CX0 4 f3 fd3 ["tape","readings"] (fun vs H Q E=> ∃ ρ,fD ρ vs H Q E):=⟨fun vs H Q E ⟨ρ,h⟩=>(GF ρ).len vs H Q E h,fun A outer s H args us vs Q E hr he hb hv ⟨ρ,h⟩=>(GF ρ).run A outer s H args us vs Q E hr he hb hv h⟩
 refine F.ok scLForm (fun vs H Q E h=>?_) (fun cdv A outer s H vs Q E hr h=>?_)
 ·obtain ⟨tp,sa,pa,ss,nm,o,qs,mode,rfl,_⟩:=h
  rfl
 obtain ⟨tp,sa,pa,ss,nm,o,qs,mode,rfl,hT,hsa,hok,ho,hpa,hqs,hql,q⟩:=h
 refine ⟨_,ae (am (i:=6) scLForm.nd rfl (Or.inl rfl) (bc ad))
  (ae (am (i:=7) scLForm.nd rfl (Or.inl rfl) (al GT (hr.mono (show 1<=4 by decide)) rfl mT kT bT .nil aq (aa (pv 1) (aa (pv 3) (aa (pv 4) ad)))))
  (ae (bd PassesOwn.never rfl (bq rfl G.range (aa (aw aA rfl G.len PySem.boot_len (aa (pv 7) ad)) ad)) (av (i:=8) scLForm.nd rfl (Or.inl rfl))
   (ae (am (i:=9) scLForm.nd rfl (Or.inl rfl) (al GR (hr.mono (show 2<=4 by decide)) rfl mR kR bR .nil aq (aa (pv 1) (aa (pv 3) (aa (pv 4) (aa (pv 5) (aa (pv 8) ad)))))))
   (aj (bH (dj PySem.F.plainAttrs_list PySem.F.slot_list_append PySem.F.type_list_append bi (pv 6) (aa
    (aK (aa (aF aW (aF aX (pv 7) (pv 8) (fun _ _=>rfl)) ai (fun _ _=>rfl)) (aa (aF aW (aF aX (pv 7) (pv 8) (fun _ _=>rfl)) ai (fun _ _=>rfl))
     (aa (al GF' hr rfl mF kF bF .nil aq (aa (pv 0) (aa (pv 9) ad))) ad)))) ad))))))
  (aj (aB (aK (aa (pv 2) (aa (pv 3) (aa (pv 4) (aa (aT aM rfl G.tuple (by decide +kernel) (aa (pv 6) ad)) ad))))))))),?_⟩
 refine ⟨(by show 0<=sizeLine;decide),fun rl hrl=>?_⟩
 have s0:=ag hrl (.lst [])
 have g0:(upd H rl (.lst [])) rl=some (.lst []):=ab
 have nrt:=dw hT hrl
 have t0:=hT.new (o:=.lst []) hrl
 generalize upd H rl (.lst [])=H0 at s0 g0 t0 ⊢
 refine ⟨_,rfl,_,rfl,_,rfl,sa,pa,ss,o,qs,rfl,hsa.mono (au s0),hok,ho,s0 _ _ hpa,hqs,hql,fun tl zt H1 htl s1 gtl hTt=>?_⟩
 have S1:Same H H1:=s0.trans s1
 have grl1:=s1 _ _ g0
 have tt1:=t0.same s1
 have ntt:tl≠tp:=dw t0 htl
 have nrl:rl≠tl:=af g0 htl
 have lt12:=eG hok.2.2.2.2 ho hqs hql
 have lzt:zt.length=(cQ o qs).length:=by rw [<- hTt.len,List.length_map]
 refine ⟨_,rfl,tl,zt,rfl,.inl (SqL.of gtl),_,rfl,by lia,by lia,?_⟩
 refine cR (fun i σ H'=> ∃ o8 o9 rv rules,σ=[some (.ref tp),some (.ref sa),some (.str nm),some (.str o.name),some (.ref pa),some (.int mode),some (.ref rl),some (.ref tl),o8,o9]/\Kp tp H H'/\Tp H' tp/\H' tl=some (.lst zt)/\Tups H' ((cQ o qs).map tgV) zt/\
   H' rl=some (.lst rv)/\RepRs H' rules rv/\rules.map (fun r=>(r.pl,r.word))=(cQ o qs).take i/\ ∀ (j:Nat) r,rules[j]? =some r->r.fm.wfp (fun f=>f∈rds o qs mode j)/\r.fm.size<=15)
  ⟨none,none,[],[],rfl,Kp.refl.same S1,tt1,gtl,hTt,grl1,.nil,rfl,fun j r h=>by cases h⟩ ?_ ?_
 ·rintro i σ H2 hi ⟨o8,o9,rv,rules,rfl,k2,tt2,gtl2,hTt2,grl2,hRr,hmap,hfm⟩
  have hi':i< (cQ o qs).length:=by lia
  have tk2:=k2.tk hT
  have lrules:rules.length=i:=by
   have:=congrArg List.length hmap
   rw [List.length_map,List.length_take]at this
   lia
  have lrv:rv.length=i:=by rw [<- hRr.len];exact lrules
  refine ⟨_,rfl,_,rfl,_,rfl,_,rfl,_,rfl,sa,pa,ss,o,qs,mode,0+ (i:Int),rfl,hsa.mono tk2,hok,ho,tk2 _ _ hpa,hqs,hql,by lia,by lia,fun rdl zr H3 hrdl s3 grdl hTr=>?_⟩
  have tt3:=tt2.same s3
  have grl3:=s3 _ _ grl2
  have gtl3:=s3 _ _ gtl2
  have hTt3:=hTt2.mono (au s3)
  have nrdt:rdl≠tp:=dw tt2 hrdl
  obtain ⟨t,ht⟩: ∃ t,(cQ o qs)[i]? =some t:=⟨(cQ o qs)[i],List.getElem?_eq_getElem hi'⟩
  obtain ⟨x,hx⟩: ∃ x,zt[i]? =some x:=⟨zt[i]'(by lia),List.getElem?_eq_getElem (by lia)⟩
  obtain ⟨ys,hys,a,rfl,ha⟩:=aH hTt3 hx
  have eys:ys=tgV t:=by
   rw [List.getElem?_map,ht]at hys
   exact (Option.some.inj hys).symm
  subst eys
  have eat:atI zt (0+ (i:Int))=some (.ref a):=by
   rw [Int.zero_add]
   exact a8 hx
  refine ⟨_,rfl,.inl ⟨rfl,_,SqL.of grl3⟩,?_⟩
  refine ⟨_,rfl,_,rfl,tl,_,_,_,rfl,rfl,SqL.of gtl3,eat,a,_,0,.int t.1,rfl,rfl,SqT.of ha,cz,?_⟩
  refine ⟨_,rfl,_,rfl,tl,_,_,_,rfl,rfl,SqL.of gtl3,eat,a,_,1,.str t.2,rfl,rfl,SqT.of ha,a8 (j:=1) rfl,?_⟩
  have lzr:zr.length<=24:=by
   rw [<- hTr.len,List.length_map]
   exact uK hok.2.2.2.2 ho hqs hql
  refine ⟨_,rfl,_,rfl,fun fm=>fm∈rds o qs mode (0+ (i:Int)),tp,rdl,zr,rfl,tt3,nrdt,grdl,by lia,uJ hok.2.2.2.2 ho hqs hql hTr,fun v fm H4 rp wf sz k4 tt4=>?_⟩
  have k24:Kp tp H2 H4:=(Kp.refl.same s3).trans k4
  have grl4:=k24 _ _ grl2 nrt
  have gtl4:=k24 _ _ gtl2 ntt
  refine ⟨(by show 3<=sizeLine;decide),fun p5 hp5=>?_⟩
  have s5:=ag hp5 (.tup [.int t.1,.str t.2,v])
  have g5:(upd H4 p5 (.tup [.int t.1,.str t.2,v])) p5=some (.tup [.int t.1,.str t.2,v]):=ab
  have tt5:=tt4.same s5
  generalize upd H4 p5 (.tup [.int t.1,.str t.2,v])=H5 at s5 g5 tt5 ⊢
  have k25:Kp tp H2 H5:=k24.same s5
  have grl5:=s5 _ _ grl4
  refine ⟨rl,rv,.ref p5,rfl,rfl,grl5,ao (by lia),?_⟩
  have tk:TK H5 (upd H5 rl (.lst (rv++[.ref p5]))):=TK.lst grl5
  have tk26:TK H2 (upd H5 rl (.lst (rv++[.ref p5]))):=(k25.tk tt2).trans tk
  refine ⟨_,_,rv++[.ref p5],rules++[⟨t.1,t.2,fm⟩],rfl,?_,?_,?_,hTt2.mono tk26,ab,?_,?_,?_⟩
  ·intro b oo hb hbn
   rw [ah (af hb hrl)]
   exact k25 _ _ (k2 _ _ hb hbn) hbn
  ·obtain ⟨t9,e9⟩:=tt5
   exact ⟨t9,by rw [ah (Ne.symm nrt)];exact e9⟩
  ·rw [ah (Ne.symm nrl)]
   exact s5 _ _ gtl4
  ·exact Paired.snoc (hRr.mono tk26) ⟨p5,v,rfl,tk _ _ g5,rp.mono ((au s5).trans tk)⟩
  ·rw [List.map_append,hmap,List.take_add_one,ht]
   rfl
  ·intro j r hj
   by_cases c:j<i
   ·rw [List.getElem?_append_left (by lia)]at hj
    exact hfm j r hj
   ·rw [List.getElem?_append_right (by lia),lrules]at hj
    have hji:j=i:=by
     by_cases c2:j=i
     ·exact c2
     ·have:j-i≠0:=by lia
      rw [List.getElem?_eq_none (by show 1<=j-i;lia)]at hj
      cases hj
    subst hji
    rw [Nat.sub_self]at hj
    have:r=⟨t.1,t.2,fm⟩:=(Option.some.inj hj).symm
    subst this
    rw [Int.zero_add]at wf
    exact ⟨wf,sz⟩
 ·rintro σ H2 ⟨o8,o9,rv,rules,rfl,k2,tt2,gtl2,hTt2,grl2,hRr,hmap,hfm⟩
  have tk2:=k2.tk hT
  rw [List.take_of_length_le (by lia)]at hmap
  refine ⟨_,rfl,_,rfl,_,rfl,_,rfl,rl,rv,rfl,.inl ⟨SqL.of grl2,fun p3 hp3=>?_⟩⟩
  have s3:=ag hp3 (.tup rv)
  have g3:(upd H2 p3 (.tup rv)) p3=some (.tup rv):=ab
  generalize upd H2 p3 (.tup rv)=H3 at s3 g3 ⊢
  refine ⟨(by show 4<=sizeLine;decide),fun p4 hp4=>?_⟩
  have s4:=ag hp4 (.tup [.str nm,.str o.name,.ref pa,.ref p3])
  refine q (.ref p4) rules _ ⟨p4,pa,p3,rv,rfl,ab,s4 _ _ (s3 _ _ (tk2 _ _ hpa)),s4 _ _ g3,hRr.mono (au (s3.trans s4))⟩ ⟨hmap,hfm⟩ (k2.same (s3.trans s4)) (tt2.same (s3.trans s4))
structure Bk where
 wheel:Int
 sorts:List Srt
 forms:List Frm
noncomputable def RepFs (H:Hp) (fs:List Frm) (vs:List V):Prop:=Paired (RepF H) fs vs
theorem RepFs.mono {H H':Hp} (t:TK H H') {fs:List Frm} {vs:List V} (h:RepFs H fs vs):RepFs H' fs vs:=Paired.mapP h fun _ _ r=>r.mono t
theorem RepFs.len {H:Hp} {fs:List Frm} {vs:List V} (h:RepFs H fs vs):fs.length=vs.length:=Paired.length h
noncomputable def RepB (H:Hp) (b:Bk) (v:V):Prop:= ∃ a sa fa fv,v=.ref a/\H a=some (.tup [.int b.wheel,.ref sa,.ref fa])/\SrtsAt H sa b.sorts/\H fa=some (.tup fv)/\RepFs H b.forms fv
theorem RepB.mono {H H':Hp} (t:TK H H') {b:Bk} {v:V}:RepB H b v->RepB H' b v:=fun ⟨a,sa,fa,fv,e,h1,h2,h3,h4⟩=>⟨a,sa,fa,fv,e,t _ _ h1,h2.mono t,t _ _ h3,h4.mono t⟩
noncomputable def vM (ss:List Srt) (mode:Int) (fr:Frm):Prop:=fr.own∈ss/\(∀ q∈fr.parts,q∈ss)/\fr.parts.length<=3/\pQ fr.own fr.parts mode fr.rules
structure oJ (b:Bk):Prop where
 so:da b.sorts
 wh:2<=b.wheel/\b.wheel<=10^30
 few:b.forms.length<=10
 more:b.sorts.length<=b.forms.length
 nd:(b.forms.map Frm.name).Nodup
 wd: ∀ fr∈b.forms,cJ fr.name=true
 fo: ∃ mode:Int,(mode=0\/mode=1\/mode=2)/\ ∀ fr∈b.forms,vM b.sorts mode fr
 own: ∀ k,k<b.sorts.length->(b.forms[k]?).map Frm.own=b.sorts[k]?
 nil: ∀ fr,b.forms[0]? =some fr->fr.parts=[]
theorem SqL.keep {K:PySem.W.Frag} {H H':Hp} {a:Addr} {xs:List V} (h:SqL K H a xs) (k: ∀ o,H a=some o->H' a=some o):SqL K H' a xs:=by
 rcases h with (h | ⟨o,h⟩) | h
 ·exact .inl (.inl (k _ h))
 ·exact .inl (.inr ⟨o,k _ h⟩)
 ·exact .inr h
theorem kg {H:Hp} {ss:List Srt} {xs:List V} (h:RepSs H ss xs) {d:Int} (h0:0<=d) (h1:d<xs.length): ∃ q a b c,ss[d.toNat]? =some q/\atI xs d=some (.ref a)/\H a=some (.tup [.str (Srt.name q),b,c]):=by
 obtain ⟨x,ex,ex2⟩:=lA h0 h1
 obtain ⟨q,hq,a,b,c,rfl,ha,_⟩:=aH h ex2
 exact ⟨q,a,.ref b,.ref c,hq,ex,ha⟩
noncomputable def yf (K:PySem.W.Frag):List V->Hp->VK->Prop:=fun xs H Q=> ∃ p ys,xs=[.ref p]/\(SqL K H p ys\/SqT K H p ys)/\Q (.int ys.length) H
noncomputable def rX (K:PySem.W.Frag):Sp:=fun vs H Q _=> ∃ (sc:Addr) (ns:List Int) (st:Int) (few:Bool),vs=[.ref sc,.int st,.bl few]/\SqL K H sc (ns.map V.int)/\ns.length<=63/\0<=st/\st<900/\ ∀ v bk H',RepB H' bk v->oJ bk->Same H H'->Q v H'
noncomputable def vw (s:Stmt):List Stmt:=match s with
 | .For _ _ b _ _=>b
 | _=>[]
noncomputable def bkFor:List Stmt:=vw ((cp eC).getD 8 (.Pass ⟨0,0,0,0⟩))
noncomputable def mY (H:Hp) (sc hd sa nl fl:Addr) (st wh mode gr mo:Int) (few:Bool) (ss:List Srt) (ws:List Str) (i:Nat) (σ:St) (H':Hp):Prop:= ∃ o11 o12 o13 o14 o15 fv frs,
 σ=[some (.ref sc),some (.int st),some (.bl few),some (.ref hd),some (.int wh),some (.int mode),some (.int gr),some (.int mo),some (.ref sa),some (.ref nl),some (.ref fl),o11,o12,o13,o14,o15]/\
 Same H H'/\SrtsAt H' sa ss/\H' nl=some (.lst (ws.map V.str))/\H' fl=some (.lst fv)/\RepFs H' frs fv/\frs.length=i/\frs.map Frm.name=ws.take i/\(∀ fr∈frs,vM ss mode fr)/\
 (∀ k,k<i->k<ss.length->(frs[k]?).map Frm.own=ss[k]?)/\ ∀ fr,frs[0]? =some fr->fr.parts=[]
theorem rY {α:Type} {l:List α} {x y:α} {j:Nat} (h:(l++[x])[j]? =some y):(j<l.length/\l[j]? =some y)\/(j=l.length/\y=x):=by
 by_cases c:j<l.length
 ·rw [List.getElem?_append_left c]at h
  exact .inl ⟨c,h⟩
 ·rw [List.getElem?_append_right (by lia)]at h
  by_cases c2:j-l.length=0
  ·rw [c2]at h
   exact .inr ⟨by lia,(Option.some.inj h).symm⟩
  ·rw [List.getElem?_eq_none (by show 1<=j-l.length;lia)]at h
   cases h
noncomputable abbrev hV:List Str:=["script","start","few","head","wheel","mode","grown","more","sorts","names","forms","k","tape","own","many","parts"]
theorem scBook:ay hV ["script","start","few"] (ak eC):=fsc
theorem ug {cdv:Value} {A:Around} {outer:List Env} {s:Shared} {H H0:Hp} {E:XK} (G:Gb mg)
  (GD:ar P w K mg base CX0 1 g gd ["tape","many"] cA) (bD:Binds K gd ["tape","many"] []) (kD:PySem.W.keepIn K (.ref g)=true) (mD:mg "_law_digit"=some (.ref g))
  (GF:ar P w K mg base CX0 5 f2 fd2 ["tape","sorts","name","own","parts","mode"] fU) (bF:Binds K fd2 ["tape","sorts","name","own","parts","mode"] []) (kF:PySem.W.keepIn K (.ref f2)=true) (mF:mg "_law_form"=some (.ref f2))
  (hr:Room 5 (eU CX0 P w K mg base hV "_law_book" (ak eC) f cdv A outer s H0 E).nox.A):
  ∃ t,PSs (eU CX0 P w K mg base hV "_law_book" (ak eC) f cdv A outer s H0 E).nox (bkFor.drop 5) t/\
   ∀ (sc hd sa nl fl:Addr) (st wh mode gr mo:Int) (few:Bool) (ss:List Srt) (ws:List Str),da ss->ws.length=10->H fl=none->nl≠fl-> ∀ (D:eV) (i:Nat) (σ:St) (H2 H5:Hp) (tp:Addr) (o:Srt) (m:Int) (o15:Option V),mY H sc hd sa nl fl st wh mode gr mo few ss ws i σ H2->i<10->H2 tp=none->Same H2 H5->Tp H5 tp->o∈ss->(i<ss.length->ss[i]? =some o)->0<=m->m<=3->(i=0->m=0)->
    (∀ σ' H',mY H sc hd sa nl fl st wh mode gr mo few ss ws (i+1) σ' H'->D.nx σ' H')->
    t D [some (.ref sc),some (.int st),some (.bl few),some (.ref hd),some (.int wh),some (.int mode),some (.int gr),some (.int mo),some (.ref sa),some (.ref nl),some (.ref fl),some (.int (0+ (i:Int))),some (.ref tp),some (.str o.name),some (.int m),o15] H5:=by
 have hr1:=hr.mono (show 1<=5 by decide)
 refine ⟨_,ae (am (i:=15) scBook.nd rfl (Or.inl rfl) (aT aM rfl G.tuple (by decide +kernel) (aa
   (gc (sc0:=ak eC) (N0:=hV) (ys:=["sorts","tape"]) (fr:=[8,12]) rfl (bq rfl G.range (aa (pv 14) ad)) rfl rfl
    cok
    (fun C s H ex=>aF (r:=we K) aW (aF (r:=we K) aW (pv 1) (al GD hr1 rfl mD kD bD .nil aq (aa (pv 2) (aa (aw (r:=yf K) aA rfl G.len PySem.boot_len (aa (pv 1) ad)) ad))) (fun _ _=>rfl)) ai (fun _ _=>rfl))) ad)))
  (aj (bH (dj PySem.F.plainAttrs_list PySem.F.slot_list_append PySem.F.type_list_append bi (pv 10) (aa
   (al GF hr rfl mF kF bF .nil aq (aa (pv 12) (aa (pv 8) (aa (aF aX (pv 9) (pv 11) (fun _ _=>rfl)) (aa (pv 13) (aa (pv 15) (aa (pv 5) ad))))))) ad)))),?_⟩
 rintro sc hd sa nl fl st wh mode gr mo few ss ws hok hws hfl0 hnf D i σ H2 H5 tp o m o15 ⟨o11,o12,o13,o14,o15',fv,frs,rfl,sm,hsa,gnl,gfl,hF,hfl,hnm,hfok,hown,hnil⟩ hi htp s5 tt5 ho hoi hm0 hm3 hmi hD
 obtain ⟨xs,gsa,hR⟩:=hsa.mono (au s5)
 have lxs:=hR.len
 refine ⟨_,rfl,m,rfl,by lia,by lia,?_⟩
 refine fj (n:=m.toNat) (R:=fun i v=>v=.int (0+i)) (by lia) lq gm ip
  (fun p n zs H'=>Kp tp H5 H'/\Tp H' tp/\H' p=some (.lst zs)/\p≠tp/\ ∃ qs,zs=cF qs/\qs.length=n/\ ∀ q∈qs,q∈ss) ?_ ?_ ?_ ?_
 ·intro p hp
  exact ⟨Kp.refl.new hp,tt5.new hp,ab,dw tt5 hp,[],rfl,rfl,fun q h=>by cases h⟩
 ·rintro p n zs H' ⟨_,_,gp,_,qs,rfl,hl,_⟩
  exact ⟨gp,by unfold cF;rw [List.length_map];exact hl⟩
 ·rintro p n zs H' v k hp hn rfl ⟨k6,tt6,gp,hpn,qs,rfl,hl,hqs⟩ hk
  have tk6:=k6.tk tt5
  have h1:=hok.1
  refine ⟨_,rfl,_,rfl,_,rfl,sa,_,rfl,.inr (SqT.of (tk6 _ _ gsa)),tp,_,rfl,tt6,by lia,by have:=hok.2.1;lia,fun d t hd0 hd1=>?_⟩
  obtain ⟨q,a,b,c,hq,eat,ha⟩:=kg hR hd0 hd1
  have k7:Kp tp H5 (upd H' tp (.lst [.int t])):=k6.trans Kp.tape
  have tk7:=k7.tk tt5
  refine ⟨sa,xs,d,.ref a,rfl,rfl,SqT.of (tk7 _ _ gsa),eat,a,_,0,_,rfl,rfl,SqT.of (tk7 _ _ ha),cz,?_⟩
  have gp7:(upd H' tp (.lst [.int t])) p=some (.lst (cF qs)):=by rw [ah hpn];exact gp
  refine hk _ _ gp7 ⟨?_,⟨t,?_⟩,ab,hpn,qs++[q],?_,?_,?_⟩
  ·intro b' o' hb hbn
   rw [ah (af hb hp)]
   exact k7 _ _ hb hbn
  ·rw [ah (Ne.symm hpn),ab]
  ·unfold cF;rw [List.map_append];rfl
  ·rw [List.length_append,hl];rfl
  ·intro x hx
   rw [List.mem_append,List.mem_singleton]at hx
   rcases hx with h | rfl
   ·exact hqs x h
   ·exact List.mem_of_getElem? hq
 ·rintro p zs H6 hp ⟨k6,tt6,gp,hpn,qs,rfl,hl,hqs⟩
  refine ⟨p,_,rfl,.inl ⟨SqL.of gp,fun pa hpa=>?_⟩⟩
  have s7:=ag hpa (.tup (cF qs))
  have g7:(upd H6 pa (.tup (cF qs))) pa=some (.tup (cF qs)):=ab
  have tt7:=tt6.same s7
  generalize upd H6 pa (.tup (cF qs))=H7 at s7 g7 tt7 ⊢
  have k27:Kp tp H2 H7:=((Kp.refl.same s5).trans k6).same s7
  have S27:Same H2 H7:=fun b oo h=>k27 b oo h (af h htp)
  have gfl7:=S27 _ _ gfl
  obtain ⟨nm,enm⟩: ∃ nm,ws[i]? =some nm:=⟨ws[i]'(by lia),List.getElem?_eq_getElem (by lia)⟩
  have eat:atI (ws.map V.str) (0+ (i:Int))=some (V.str nm):=by
   rw [Int.zero_add]
   exact a8 (by rw [List.getElem?_map,enm];rfl)
  refine ⟨_,rfl,.inl ⟨rfl,_,SqL.of gfl7⟩,?_⟩
  refine ⟨_,rfl,_,rfl,_,rfl,_,rfl,nl,_,_,_,rfl,rfl,SqL.of (S27 _ _ gnl),eat,_,rfl,_,rfl,_,rfl,tp,sa,pa,ss,nm,o,qs,mode,rfl,tt7,hsa.mono (au S27),hok,ho,g7,hqs,by lia,fun v rules H8 rf rok k8 tt8=>?_⟩
  have S28:Same H2 H8:=fun b oo h=>k8 b oo (S27 b oo h) (af h htp)
  have gfl8:=S28 _ _ gfl
  have lfv:=hF.len
  refine ⟨fl,fv,v,rfl,rfl,gfl8,ao (by lia),?_⟩
  have tk:TK H8 (upd H8 fl (.lst (fv++[v]))):=TK.lst gfl8
  have tk2:TK H2 (upd H8 fl (.lst (fv++[v]))):=(au S28).trans tk
  refine hD _ _ ⟨_,_,_,_,_,fv++[v],frs++[⟨nm,o,qs,rules⟩],rfl,?_,hsa.mono tk2,?_,ab,?_,?_,?_,?_,?_,?_⟩
  ·intro b oo h
   rw [ah (af h hfl0)]
   exact S28 _ _ (sm _ _ h)
  ·rw [ah hnf]
   exact S28 _ _ gnl
  ·exact Paired.snoc (hF.mono tk2) (rf.mono tk)
  ·rw [List.length_append,hfl];rfl
  ·rw [List.map_append,hnm,List.take_add_one,enm];rfl
  ·intro fr hfr
   rw [List.mem_append,List.mem_singleton]at hfr
   rcases hfr with h | rfl
   ·exact hfok fr h
   ·exact ⟨ho,hqs,by show qs.length<=3;lia,rok⟩
  ·intro k hk hks
   by_cases c:k<i
   ·rw [List.getElem?_append_left (by lia)]
    exact hown k c hks
   ·have:k=i:=by lia
    subst this
    rw [List.getElem?_append_right (by lia),hfl,Nat.sub_self]
    show some o=_
    rw [hoi hks]
  ·intro fr hfr
   rcases rY hfr with ⟨h,e⟩ | ⟨h,e⟩
   ·exact hnil fr e
   ·subst e
    have:qs.length=0:=by rw [hl,hmi (by lia)];rfl
    exact List.eq_nil_of_length_eq_zero this
theorem ve {d:Int} (h0:0<=d) (h1:d<5): ∃ m:Int,atI [V.int 2,.int 1,.int 3,.int 2,.int 0] d=some (.int m)/\0<=m/\m<=3:=by
 have h5:d=0\/d=1\/d=2\/d=3\/d=4:=by lia
 rcases h5 with h | h | h | h | h <;> subst h <;> exact ⟨_,rfl,by decide,by decide⟩
theorem u9 {d:Int} (h0:0<=d) (h1:d<5): ∃ m:Int,atI [V.int 0,.int 0,.int 1,.int 2,.int 2] d=some (.int m)/\(m=0\/m=1\/m=2):=by
 have h5:d=0\/d=1\/d=2\/d=3\/d=4:=by lia
 rcases h5 with h | h | h | h | h <;> subst h <;> exact ⟨_,rfl,by decide⟩
theorem u8 {d:Int} (h0:0<=d) (h1:d<3): ∃ m:Int,atI [V.int 3,.int 4,.int 7] d=some (.int m)/\3<=m/\m<=7:=by
 have h5:d=0\/d=1\/d=2:=by lia
 rcases h5 with h | h | h <;> subst h <;> exact ⟨_,rfl,by decide,by decide⟩
theorem rk {z d:Int} (hz0:0<=z) (hz1:z<1000) (h0:0<=d) (h1:d<6): ∃ m:Int,atI [V.int 2,.int 7,.int 10,.int 97,.int (10^ (30:Int).toNat),.int (2+z)] d=some (.int m)/\2<=m/\m<=10^30:=by
 have e:(10:Int) ^ (30:Int).toNat=10^30:=rfl
 have b:(2000:Int)<=10^30:=by decide +kernel
 have h5:d=0\/d=1\/d=2\/d=3\/d=4\/d=5:=by lia
 rcases h5 with h | h | h | h | h | h <;> subst h
 ·exact ⟨2,rfl,by lia,by lia⟩
 ·exact ⟨7,rfl,by lia,by lia⟩
 ·exact ⟨10,rfl,by lia,by lia⟩
 ·exact ⟨97,rfl,by lia,by lia⟩
 ·exact ⟨_,rfl,by rw [e];lia,by rw [e];lia⟩
 ·exact ⟨_,rfl,by lia,by lia⟩
theorem uh {cdv:Value} {A:Around} {outer:List Env} {s:Shared} {H H0:Hp} {E:XK} (G:Gb mg)
  (GD:ar P w K mg base CX0 1 g gd ["tape","many"] cA) (bD:Binds K gd ["tape","many"] []) (kD:PySem.W.keepIn K (.ref g)=true) (mD:mg "_law_digit"=some (.ref g))
  (GF:ar P w K mg base CX0 5 f2 fd2 ["tape","sorts","name","own","parts","mode"] fU) (bF:Binds K fd2 ["tape","sorts","name","own","parts","mode"] []) (kF:PySem.W.keepIn K (.ref f2)=true) (mF:mg "_law_form"=some (.ref f2))
  (hr:Room 5 (eU CX0 P w K mg base hV "_law_book" (ak eC) f cdv A outer s H0 E).nox.A):
  ∃ t,PSs (eU CX0 P w K mg base hV "_law_book" (ak eC) f cdv A outer s H0 E).nox (bkFor.drop 3) t/\
   ∀ (sc hd sa nl fl:Addr) (st wh mode gr mo:Int) (few:Bool) (ss:List Srt) (ws:List Str),da ss->ws.length=10->H fl=none->nl≠fl-> ∀ (D:eV) (i:Nat) (σ:St) (H2 H5:Hp) (tp:Addr) (o:Srt) (o14 o15:Option V),mY H sc hd sa nl fl st wh mode gr mo few ss ws i σ H2->i<10->H2 tp=none->Same H2 H5->Tp H5 tp->o∈ss->(i<ss.length->ss[i]? =some o)->
    (∀ σ' H',mY H sc hd sa nl fl st wh mode gr mo few ss ws (i+1) σ' H'->D.nx σ' H')->
    t D [some (.ref sc),some (.int st),some (.bl few),some (.ref hd),some (.int wh),some (.int mode),some (.int gr),some (.int mo),some (.ref sa),some (.ref nl),some (.ref fl),some (.int (0+ (i:Int))),some (.ref tp),some (.str o.name),o14,o15] H5:=by
 have hr1:=hr.mono (show 1<=5 by decide)
 obtain ⟨t2,ht2,hread2⟩:=ug (cdv:=cdv) (A:=A) (outer:=outer) (s:=s) (H:=H) (H0:=H0) (E:=E) (f:=f) G GD bD kD mD GF bF kF mF hr
 refine ⟨_,ae (am (i:=14) scBook.nd rfl (Or.inl rfl) (aF aX (bc (aa ai (aa ai (aa ai (aa ai (aa ai ad)))))) (al GD hr1 rfl mD kD bD .nil aq (aa (pv 12) (aa ai ad))) (fun _ _=>rfl)))
  (ae (bh (PW.pt (oY (aC cq (pv 11) ai (aJ _)) (kX (PW.pt (gG (aC cq (pv 6) ai (aJ _)) (fc (aC ft (pv 11) (aw aA rfl G.len PySem.boot_len (aa (pv 8) ad)) (aJ _))))))))
   (aj (am (i:=14) scBook.nd rfl (Or.inl rfl) ai)) aN) ht2),?_⟩
 intro sc hd sa nl fl st wh mode gr mo few ss ws hok hws hfl0 hnf D i σ H2 H5 tp o o14 o15 hB hi htp s5 tt5 ho hoi hD
 obtain ⟨xs,gsa,hR⟩:SrtsAt H5 sa ss:=by
  obtain ⟨_,_,_,_,_,_,_,_,_,h,_⟩:=hB
  exact h.mono (au s5)
 refine ⟨(by show 5<=sizeLine;decide),fun p hp=>?_⟩
 have npt:=dw tt5 hp
 refine ⟨_,rfl,tp,5,rfl,tt5.new hp,by decide,by decide,fun d t hd0 hd1=>?_⟩
 obtain ⟨m,em,hm0,hm3⟩:=ve hd0 hd1
 refine ⟨p,_,d,.int m,rfl,rfl,SqL.of (by rw [ah npt];exact ab),em,?_⟩
 have k6:Kp tp H5 (upd (upd H5 p (.lst [.int 2,.int 1,.int 3,.int 2,.int 0])) tp (.lst [.int t])):=(Kp.refl.new hp).trans Kp.tape
 have tt6:Tp (upd (upd H5 p (.lst [.int 2,.int 1,.int 3,.int 2,.int 0])) tp (.lst [.int t])) tp:=⟨t,ab⟩
 generalize upd (upd H5 p (.lst [.int 2,.int 1,.int 3,.int 2,.int 0])) tp (.lst [.int t])=H6 at k6 tt6 ⊢
 have s6:Same H2 H6:=fun b oo h=>k6 b oo (s5 b oo h) (af h htp)
 have gsa6:=k6.tk tt5 _ _ gsa
 refine ⟨_,rfl,rfl,_,rfl,?_⟩
 refine c8 (fun c=>cH ?_) (fun c=>?_)
 ·exact hread2 sc hd sa nl fl st wh mode gr mo few ss ws hok hws hfl0 hnf D i σ H2 H6 tp o 0 o15 hB hi htp s6 tt6 ho hoi (by decide) (by decide) (fun _=>rfl) hD
 have hne:i=0->m=0:=fun e=>by
  subst e
  exact absurd (decide_eq_true rfl) c
 refine ⟨_,rfl,rfl,_,rfl,?_⟩
 refine c8 (fun c2=>?_) (fun c2=>bu ?_)
 ·refine ⟨_,rfl,_,rfl,sa,xs,rfl,.inr (SqT.of gsa6),_,_,rfl,rfl,_,rfl,?_⟩
  refine c8 (fun c3=>?_) (fun c3=>?_)
  ·exact hread2 sc hd sa nl fl st wh mode gr mo few ss ws hok hws hfl0 hnf D i σ H2 H6 tp o 0 o15 hB hi htp s6 tt6 ho hoi (by decide) (by decide) (fun _=>rfl) hD
  ·exact hread2 sc hd sa nl fl st wh mode gr mo few ss ws hok hws hfl0 hnf D i σ H2 H6 tp o m o15 hB hi htp s6 tt6 ho hoi hm0 hm3 hne hD
 ·exact hread2 sc hd sa nl fl st wh mode gr mo few ss ws hok hws hfl0 hnf D i σ H2 H6 tp o m o15 hB hi htp s6 tt6 ho hoi hm0 hm3 hne hD
theorem bQ {α β:Type} {F:α->β->Prop}: ∀ {l:List α} {r:List β} {i:Nat} {a:α},Paired F l r->l[i]? =some a-> ∃ b,r[i]? =some b/\F a b
 | _,_,i,a,.nil,e=>by cases i <;> cases e
 | _,_,0,a,.cons h _,e=>⟨_,rfl,by cases e;exact h⟩
 | _,_,i+1,a,.cons _ t,e=>bQ (i:=i) t e
end My
namespace HT
open PySem PyProof.Rows
theorem noFill_tuple_mul:fillsNumberSlot (.type "tuple") "mul"=pure false:=
 PySem.fillsNumberSlot_seq (id:="tuple.__mul__") (r:=some (.builtin "tuple.__rmul__")) F.slot_tuple_mul.lookup (by decide +kernel) F.slot_tuple_rmul.lookup (by decide +kernel)
theorem repeat_tuple:seqRepeat? (.type "tuple")=pure (some (.builtin "tuple.__mul__")):=by
 unfold seqRepeat?
 rw [PySem.seqSlot_of (T:="tuple") (name:="__mul__") (id:="tuple.__mul__") F.slot_tuple_mul.lookup (by decide +kernel),PySem.seqSlot_of (T:="tuple") (name:="__rmul__") (id:="tuple.__rmul__") F.slot_tuple_rmul.lookup (by decide +kernel)]
 rfl
theorem int_rmul_tuple (a:Int) (t:Tok) (l:Addr) (items:Array Value) (n:Nat) (dd:Option Addr) (sl:Array (Option Value)):
  Meets (Builtin.«int.__rmul__» ⟨[.int a t,.ref l],[]⟩) (fun _ R s=>s.heap.get? l=some {cls:=.type "tuple",dict:=dd,data:=.seq items n,slots:=sl}/\R (.ok (.ret Value.notImplemented)) s):=
 .of_wp fun prog w A R s h=>by obtain ⟨hp,g,d,tk,os⟩:=s;obtain ⟨hl,h⟩:=h;wp_walk;exact ⟨_,rfl,h⟩
theorem tuple_mul1 (l:Addr) (items:Array Value) (n:Nat) (dd:Option Addr) (sl:Array (Option Value)) (u:Tok) (hc0: ¬ items.isEmpty=true):
  Meets (Builtin.«tuple.__mul__» ⟨[.ref l,.int 1 u],[]⟩) (fun _ R s=>s.heap.get? l=some {cls:=.type "tuple",dict:=dd,data:=.seq items n,slots:=sl}/\R (.ok (.ret (.ref l))) s):=
 .of_wp fun prog w A R s h=>by obtain ⟨hp,g,d,tk,os⟩:=s;obtain ⟨hl,h⟩:=h;have f1:=AutoSeq1.idx_int;have f2:=AutoSeq1.sub_tuple_tuple;wp_walk using AutoSeq1.wpAny_loadPart' hl;exact ⟨_,rfl,h⟩
theorem tuple_mul0 (l:Addr) (v:Value) (n:Nat) (dd:Option Addr) (sl:Array (Option Value)) (u:Tok):
  Meets (Builtin.«tuple.__mul__» ⟨[.ref l,.int 0 u],[]⟩) (fun _ R s=>s.heap.get? l=some {cls:=.type "tuple",dict:=dd,data:=.seq #[v] n,slots:=sl}/\R (.ok (.ret (.ref s.heap.objs.size))) {s with heap:=s.heap.push {cls:=.type "tuple",data:=.seq #[]},toks:=s.toks}):=
 .of_wp fun prog w A R s h=>by obtain ⟨hp,g,d,tk,os⟩:=s;obtain ⟨hl,h⟩:=h;have f1:=AutoSeq1.idx_int;have f2:=AutoSeq1.sub_tuple_tuple;wp_walk using AutoSeq1.wpAny_loadPart' hl;exact ⟨_,rfl,h⟩
theorem tuple_mul2 (l:Addr) (v:Value) (n:Nat) (dd:Option Addr) (sl:Array (Option Value)) (u:Tok):
  Meets (Builtin.«tuple.__mul__» ⟨[.ref l,.int 2 u],[]⟩) (fun _ R s=>s.heap.get? l=some {cls:=.type "tuple",dict:=dd,data:=.seq #[v] n,slots:=sl}/\R (.ok (.ret (.ref s.heap.objs.size))) {s with heap:=s.heap.push {cls:=.type "tuple",data:=.seq #[v,v]},toks:=s.toks}):=
 .of_wp fun prog w A R s h=>by obtain ⟨hp,g,d,tk,os⟩:=s;obtain ⟨hl,h⟩:=h;have f1:=AutoSeq1.idx_int;have f2:=AutoSeq1.sub_tuple_tuple;wp_walk using AutoSeq1.wpAny_loadPart' hl;exact ⟨_,rfl,h⟩
theorem tuple_mul3 (l:Addr) (v:Value) (n:Nat) (dd:Option Addr) (sl:Array (Option Value)) (u:Tok):
  Meets (Builtin.«tuple.__mul__» ⟨[.ref l,.int 3 u],[]⟩) (fun _ R s=>s.heap.get? l=some {cls:=.type "tuple",dict:=dd,data:=.seq #[v] n,slots:=sl}/\R (.ok (.ret (.ref s.heap.objs.size))) {s with heap:=s.heap.push {cls:=.type "tuple",data:=.seq #[v,v,v]},toks:=s.toks}):=
 .of_wp fun prog w A R s h=>by obtain ⟨hp,g,d,tk,os⟩:=s;obtain ⟨hl,h⟩:=h;have f1:=AutoSeq1.idx_int;have f2:=AutoSeq1.sub_tuple_tuple;wp_walk using AutoSeq1.wpAny_loadPart' hl;exact ⟨_,rfl,h⟩
end HT
namespace L2
open PySem PySem.Spec PyProof.Rows
section
variable {X:Cx}
theorem sR:OpR X (binaryOp .Add) (fun x y H Q=> ∃ a b xs ys,x=.ref a/\y=.ref b/\SqT X.K H a xs/\SqT X.K H b ys/\xs.length+ys.length<=sizeLine/\(xs=[]->Q (.ref b) H)/\(xs≠[]->ys=[]->Q (.ref a) H)/\
  (xs≠[]->ys≠[]-> ∀ p,H p=none->Q (.ref p) (upd H p (.tup (xs++ys))))):=by
 intro pins s σ H x y v u Q I rx ry h
 obtain ⟨a,b,xs,ys,rfl,rfl,ha,hb,hz,q0,q1,q2⟩:=h
 by_cases hx:xs=[]
 ·subst hx
  cases rx
  cases ry
  obtain ⟨its,r1,p1,_⟩:=I.tuple ha
  obtain ⟨its2,r2,p2,_⟩:=I.tuple hb
  cases r1
  obtain ⟨⟨cls,dd,data,sl⟩,ho,hc,n,hd⟩:=id p1
  obtain ⟨⟨cls2,dd2,data2,sl2⟩,ho2,hc2,n2,hd2⟩:=id p2
  simp only at hc hd hc2 hd2
  subst hc hd hc2 hd2
  exact concat_meets ⟨_,ho,rfl⟩ ⟨_,ho2,rfl⟩ noFill_tuple_add seq_tuple_add PySem.F.slot_tuple_add PySem.F.entry_tuple_add (PySem.F.args_tuple_add_2 _ _)
   (tuple_addW0 a b #[] its2.toArray n n2 dd dd2 sl sl2 rfl) ⟨ho,ho2,⟨.ref b,H,I,rfl,q0 rfl⟩⟩
 ·exact uT pins s σ H _ _ v u Q I rx ry ⟨a,b,xs,ys,rfl,rfl,ha,hb,hx,hz,q1 hx,q2 hx⟩
theorem uS:OpR X (binaryOp .Mult) (fun x y H Q=> ∃ a v k,x=.ref a/\y=.int k/\SqT X.K H a [v]/\(k=0\/k=1\/k=2\/k=3)/\(k=1->Q (.ref a) H)/\(∀ p,H p=none->k≠1->Q (.ref p) (upd H p (.tup (List.replicate k.toNat v))))):=by
 intro pins s σ H x y vv u Q I rx ry h
 obtain ⟨a,v,k,rfl,rfl,ha,hk,q1,q2⟩:=h
 cases rx
 obtain ⟨t,rfl⟩:=ry
 obtain ⟨its,r,p1,_⟩:=I.tuple ha
 cases r with
 | @cons _ z _ _ rz r0=>
  cases r0
  obtain ⟨⟨cls,dd,data,sl⟩,ho,hc,n,hd⟩:=id p1
  simp only at hc hd
  subst hc hd
  have go: ∀ {Q':Value->Shared->Prop},wpAny (model X.prog X.w) X.A (call (.builtin "tuple.__mul__") [.ref a,.int k t]) Q' X.xe s->wpAny (model X.prog X.w) X.A (binaryOp .Mult (.ref a) (.int k t)) Q' X.xe s:=fun hq=>
   wpAny_binaryOp_repeat_ref (T:="tuple") (U:="int") (by decide) ⟨_,ho,rfl⟩ (fun s'=>typeIs_int s' k t) HT.noFill_tuple_mul F.fills_int_mul F.slot_int_rmul HT.repeat_tuple F.slot_int_index.lookup
    (call_meets F.slot_int_rmul (typeIs_int s k t) F.entry_int_rmul (F.args_int_rmul_2 _ _) (HT.int_rmul_tuple k t a _ n dd sl) ⟨ho,rfl,⟨_,ho,rfl⟩,hq⟩)
  have new: ∀ (zs:List Value) (vs:List V),Vals vs zs->vs.length<=3->(∀ p,H p=none->Q (.ref p) (upd H p (.tup vs)))->EP X pins σ Q (.ref s.heap.objs.size) {s with heap:=s.heap.push {cls:=.type "tuple",data:=.seq zs.toArray},toks:=s.toks}:=by
   intro zs vs rv hl hq
   refine ⟨.ref s.heap.objs.size,_,I.laid (t':=s.toks) (o:=.tup vs) (fun b ob q=>Heap.get?_push_of_some _ q) (Nat.le_refl _) ?_,rfl,hq _ (I.hok.fresh (Nat.le_refl _))⟩
   exact ⟨Nat.le_of_lt (ao (by lia)),_,rv,IsTup.new _ _⟩
  rcases hk with rfl | rfl | rfl | rfl
  ·exact go (call_meets F.slot_tuple_mul ⟨_,ho,rfl⟩ F.entry_tuple_mul (F.args_tuple_mul_2 _ _) (HT.tuple_mul0 a z n dd sl t) ⟨ho,new [] [] .nil (by show 0<=3;lia) fun p hp=>q2 p hp (by decide)⟩)
  ·exact go (call_meets F.slot_tuple_mul ⟨_,ho,rfl⟩ F.entry_tuple_mul (F.args_tuple_mul_2 _ _) (HT.tuple_mul1 a _ n dd sl t (by simp)) ⟨ho,⟨.ref a,H,I,rfl,q1 rfl⟩⟩)
  ·exact go (call_meets F.slot_tuple_mul ⟨_,ho,rfl⟩ F.entry_tuple_mul (F.args_tuple_mul_2 _ _) (HT.tuple_mul2 a z n dd sl t) ⟨ho,new [z,z] [v,v] (.cons rz (.cons rz .nil)) (by show 2<=3;lia) fun p hp=>q2 p hp (by decide)⟩)
  ·exact go (call_meets F.slot_tuple_mul ⟨_,ho,rfl⟩ F.entry_tuple_mul (F.args_tuple_mul_2 _ _) (HT.tuple_mul3 a z n dd sl t) ⟨ho,new [z,z,z] [v,v,v] (.cons rz (.cons rz (.cons rz .nil))) (by show 3<=3;lia) fun p hp=>q2 p hp (by decide)⟩)
end
section
variable {X:Cx} {x x2:Str} {px px2 tpos pos fpos:Pos} {kk:Nat} {iter elt:Expr} {scope sc0:Scope} {N0 ys:List Str} {fr:List Nat} {wi:TI} {te:TE}
theorem sE {i:Nat} {y:Str} {py spos:Pos} (hcalm:X.calm=true) (hnd:X.N.Nodup) (hiN:X.N[i]? =some y) (hy:Loc X.env.scope y) (hi:PI X (.Tuple [.Name x px,.Name x2 px2] kk tpos) iter wi) (hsc:X.env.scope=sc0) (hN:X.N=N0) (ok:lH sc0 N0 scope x x2 ys fr)
  (hE: ∀ C s H ex,PE (cE X x x2 ys scope C s H ex) elt te) (hsw:swapsWith (.ListComp elt [⟨.Tuple [.Name x px,.Name x2 px2] kk tpos,iter,[],0⟩] scope pos) (some (.Name y py)) spos.line X.env=pure true:=by rfl)
  (hs: ∀ v,foldedSetIterable iter X.env v=pure v:=by intro _;rfl) (hf:X.fn y=true\/X.env.scope.names.lookup y=some .local:=by first | exact .inl rfl | exact .inr rfl | assumption):
  PS X (.Assign [.Name y py] (.ListComp elt [⟨.Tuple [.Name x px,.Name x2 px2] kk tpos,iter,[],0⟩] scope pos) spos) (lN (nu wi fr te) (eD i)):=by
 intro pins s σ H D I h
 rw [exec_Assign_Name_used _ _ _ _ hsw]
 refine wpAny_bind (wpAny_standAt (wpAny_bind ?_))
 show wpAny _ X.A (do let _ <- comprehension (.ListComp elt [⟨.Tuple [.Name x px,.Name x2 px2] kk tpos,iter,[],0⟩] scope pos) scope X.env _ (newList []) false (eval iter X.env) (some (assign (.Name y py) X.env))) _ _ s
 refine wpAny_bind (thn (jf (use:=some (assign (.Name y py) X.env)) (Qv:=fun _ s'=>SP X pins D .next s') (Q:=fun v H'=>D.nx (σ.set i (some v)) H') hcalm hi hsc hN ok hE I h hs fun p C H' s' m I' hn h0 h1 h2 h3 h4 q=>?_) fun _ s' hq=>wpAny_pure (wpAny_pure hq))
 show wpAny _ X.A (assign (.Name y py) X.env (.ref p)) _ _ s'
 refine wpAny_assign_Name (eX (v:=.ref p) I' hnd hiN hy rfl (fun s'' I'' ⟨a,sb,ha⟩=>?_) hf)
 have hCa:C≠a:=by
  rcases ha with e | e
  ·rw [e];exact h1
  ·exact (h3 y a e).symm
 refine ⟨m,hn.sameBut sb hCa,fun h' sb'=>⟨_,H',I''.turned (t':=s''.toks) (fun b o hb e=>sb'.extBut b o hb e) h0 h1 (.inr h2) h3 h4,q⟩⟩
noncomputable def wj (K:PySem.W.Frag):R2:=fun x y H Q=> ∃ a b xs ys,x=.ref a/\y=.ref b/\SqT K H a xs/\SqT K H b ys/\xs.length+ys.length<=sizeLine/\(xs=[]->Q (.ref b) H)/\(xs≠[]->ys=[]->Q (.ref a) H)/\
 (xs≠[]->ys≠[]-> ∀ p,H p=none->Q (.ref p) (upd H p (.tup (xs++ys))))
theorem sQ:OpR X (binaryOp .Add) (wj X.K):=by
 intro pins s σ H x y v u Q I rx ry h
 obtain ⟨a,b,xs,ys,e1,e2,h1,h2,h3,q1,q2,q3⟩:=h
 exact sR pins s σ H x y v u Q I rx ry ⟨a,b,xs,ys,e1,e2,h1,h2,h3,q1,q2,q3⟩
end
end L2
namespace HT
open PySem PyProof.Rows
section
variable {prog:Program} {w:World} {A:Around} {s:Shared} {E:Value->Shared->Prop}
noncomputable def xB (l:Addr):Obj:={cls:=.type "list_iterator",data:=.fields #[.ref l,.int 0 0]}
end
section
variable {prog:Program} {w:World} {A:Around} {s:Shared} {E:Value->Shared->Prop}
theorem getItem_tuple_all {t sl:Addr} {items:Array Value} {vl vu:Value} {lo hi:Option Int} {Q:Value->Shared->Prop} (ht:IsTup s.heap t items) (hs:s.heap.IsSliceOf sl vl vu .none) (pl:IsPart vl lo) (pu:IsPart vu hi)
  (i1:sIx items.size 0 lo=0) (i2:sIx items.size items.size hi=items.size) (h:Q (.ref t) s):wpAny (model prog w) A (getItem (.ref t) (.ref sl)) Q E s:=by
 obtain ⟨os,hos,hcs,hds⟩:=id hs
 have hTs:s.TypeIs (.ref sl) "slice":=⟨os,hos,hcs⟩
 unfold getItem
 try with_reducible refine wpAny_holding ?_
 first | refine wpAny_bind (wpAny_pure ?_) | skip
 refine wpAny_bind (wpAny_sequenceKey ht.typeIs (by decide) (wpAny_bind (wpAny_callSpecial?_slot (name:=Str.ofString "__getitem__") ht.typeIs PyProof.Rows.slot_tuple_getitem
  (wpAny_call_entry PyProof.Rows.slot_tuple_getitem ht.typeIs entry_tuple_getitem ?_ (args_tuple_getitem _ _)))))
 refine (show wpAny _ _ (Builtin.Tuple.tupleItemsOf (.ref t) >>= _) _ _ s from wpAny_bind (tupleItemsOf_ ht (wpAny_bind (wpAny_typeOf hTs ?_))))
 rw [if_pos (by decide)]
 refine wpAny_bind (dD hs pl pu ?_)
 rw [i1,i2]
 refine (show wpAny _ _ (if (((0:Nat):Int)==0&&(1:Int)==1&&(items.size-0)==items.size)=true then _ else _) _ _ s from ?_)
 rw [if_pos (by simp)]
 refine wpAny_bind (m:=Builtin.Tuple.tupleIsExact _) ?_
 unfold Builtin.Tuple.tupleIsExact
 refine wpAny_bind (wpAny_typeOf ht.typeIs (wpAny_pure ?_))
 rw [if_pos (by decide)]
 exact wpAny_bind (wpAny_rule (wpAny_pure ⟨_,rfl,wpAny_pure h⟩))
end
end HT
namespace L2
open PySem PySem.Spec PyProof.Rows
section
variable {X:Cx}
noncomputable def ye:V->Option Int->Option Int->Hp->VK->Prop:=fun x lo hi H Q=> ∃ a xs,x=.ref a/\H a=some (.tup xs)/\ ∀ p H',(∀ b o,H b=some o->H' b=some o)->H' p=some (.tup (cZ xs lo hi))->Q (.ref p) H'
theorem dz:SlR X ye:=by
 intro pins s σ H x v vl vu lo hi sl Q I rx hs pl pu h
 obtain ⟨a,xs,ex,hx,q⟩:=h
 by_cases hw:HT.sIx xs.length 0 lo=0/\HT.sIx xs.length xs.length hi=xs.length
 ·subst ex
  cases rx
  obtain ⟨its,r,ht,hz⟩:=I.tuple (SqT.of (K:=X.K) hx)
  have hl:=r.length
  refine ⟨"tuple",_,PyProof.Rows.slot_tuple_getitem.lookup,ht.typeIs,HT.getItem_tuple_all ht hs pl pu (by rw [List.size_toArray,<- hl];exact hw.1) (by rw [List.size_toArray,<- hl];exact hw.2) ⟨.ref a,H,I,rfl,q a H (fun _ _ h=>h) ?_⟩⟩
  rw [hx]
  unfold cZ
  rw [hw.1,hw.2,List.drop_zero,Nat.sub_zero,List.take_length]
 ·exact nA pins s σ H x v vl vu lo hi sl Q I rx hs pl pu ⟨a,xs,ex,SqT.of hx,hw,fun p hp=>q p _ (fun b o e=>by rw [ah (af e hp)];exact e) ab⟩
theorem gQ: ∀ (ns:List Int) (a:Int),PySem.W.Num.sumInts a (ns.map PySem.W.WData.int)=some (.int (a+lO ns))
 | [],a=>by show some (PySem.W.WData.int a)=some (.int (a+0));rw [Int.add_zero]
 | n::r,a=>by
  have fold: ∀ (r:List Int) (b:Int),PySem.W.Num.foldFrom PySem.W.Num.add (.int b) (r.map PySem.W.WData.int)=some (.int (b+lO r)):=by
   intro r
   induction r with
   | nil=>intro b;show some (PySem.W.WData.int b)=some (.int (b+0));rw [Int.add_zero]
   | cons m r ih=>
    intro b
    show PySem.W.Num.foldFrom PySem.W.Num.add (.int (b+m)) (r.map PySem.W.WData.int)=some (.int (b+ (m+lO r)))
    rw [ih,Int.add_assoc]
  show (if (PySem.W.Num.fitsLong n&&PySem.W.Num.fitsLong (a+n))=true then PySem.W.Num.sumInts (a+n) (r.map PySem.W.WData.int)else PySem.W.Num.foldFrom PySem.W.Num.add (.int (a+n)) (r.map PySem.W.WData.int))=some (.int (a+ (n+lO r)))
  split
  ·rw [gQ r,Int.add_assoc]
  ·rw [fold,Int.add_assoc]
theorem qW (hc:X.calm=true):c5 X (.builtin "sum") (fun xs H Q=> ∃ (p:Addr) (ns:List Int),xs=[.ref p]/\SqL X.K H p (ns.map V.int)/\Q (.int (lO ns)) H):=by
 intro pins s σ H xs us Q I r h
 obtain ⟨p,ns,rfl,hq,q⟩:=h
 obtain ⟨u,rfl,ru⟩:=fq r
 cases ru
 obtain ⟨its,rv,pl,hz⟩:=I.list hq
 have hl:=pl.isList
 have hlt:p<s.heap.objs.size:=by obtain ⟨_,e,_⟩:=hl;exact Heap.lt_size e
 have hlen:its.length=ns.length:=by have:=rv.length;rw [List.length_map]at this;lia
 refine PySem.Flt.call_sum_walkF (xs:=ns.map PySem.W.WData.int) (r:=.int (lO ns)) (by rw [gQ,Int.zero_add]) (wpAny_pyIter_list hl ?_)
 have W:=Walks.toS (Walks.list (prog:=X.prog) (w:=X.w) (A:=X.A.in1) (I.ok.hd hc) s.heap.objs.size p (Nat.ne_of_lt hlt) its.toArray)
 rw [show its.toArray.size=(ns.map PySem.W.WData.int).length by rw [List.size_toArray,List.length_map];exact hlen]at W
 refine ⟨s.heap.objs.size,[s.heap.objs.size,p],[s.heap.objs.size],_,_,_,rfl,W,⟨⟨_,Heap.get?_push_size _ rfl,rfl,rfl⟩,hl.push _⟩,fun b hb=>?_,fun i v hP=>?_,fun s' v hv hm=>?_⟩
 ·show b< (s.heap.push _).objs.size
  rw [Heap.size_push]
  rcases List.mem_cons.mp hb with e | e
  ·rw [e];exact Nat.lt_succ_self _
  ·rw [List.mem_singleton.mp e];exact Nat.lt_succ_of_lt hlt
 ·have hv:its[i]? =some v:=by simpa using hP
  have hi:i<ns.length:=by
   have:=(List.getElem?_eq_some_iff.mp hv).1
   lia
  have hx:(ns.map V.int)[i]? =some (V.int ns[i]):=by rw [List.getElem?_map,List.getElem?_eq_getElem hi] <;> rfl
  obtain ⟨u,eu,ru⟩:=rv.get hx
  rw [hv]at eu
  cases eu
  obtain ⟨t,rfl⟩:=ru
  exact ⟨.int ns[i],by rw [List.getElem?_map,List.getElem?_eq_getElem hi] <;> rfl,.int _ t⟩
 ·cases hv
  obtain ⟨hh,g,d,tk,os⟩:=s'
  obtain rfl:g=s.gens:=hm.gens
  obtain rfl:d=s.drawn:=hm.drawn
  obtain rfl:os=s.os:=hm.os
  refine ⟨.int _,H,I.kept (t':=tk) (h':=hh) fun b o e=>hm.heap b o (fun z=>?_) (Heap.get?_push_of_some _ e),⟨_,rfl⟩,q⟩
  rw [List.mem_singleton.mp z]at e
  exact absurd (Heap.lt_size e) (Nat.lt_irrefl _)
end
end L2
namespace HT
open PySem PyProof.Rows
section
variable {prog:Program} {w:World} {A:Around} {s:Shared} {E:Value->Shared->Prop} {d j:Addr} {ks:List Value} {i ep:Nat}
noncomputable def VEs (h:Heap) (d:Addr) (ks:List Value) (ep:Nat):Prop:= ∃ o es,h.get? d=some o/\o.ExactDict/\o.data=.dict es ep/\es.toList.map (·.val)=ks
end
end HT
namespace L2
open PySem PySem.Spec PyProof.Rows
section
variable {X:Cx} {o l:Expr} {to tl:TE} {p pos apos cpos:Pos}
noncomputable def Itv (K:PySem.W.Frag) (a:Addr) (n:Nat):It:=
 ⟨fun i H=>i<n/\ ∃ xs,xs.length=n/\SqL K H a xs,fun i H x H'=>H'=H/\ ∀ xs,SqL K H a xs->xs[n-1-i]? =some x,fun i H=>i=n⟩
theorem rF {P:Program} {w:World} {K:PySem.W.Frag} {tg:Expr} (a it:Addr) (n:Nat):jq P w K tg (Itv K a n) [it] it (fun i h=>h.IsRevIter it a ((n:Int) -1- (i:Int))) where
 mem:=by simp
 obj:=fun i h st b hb=>by
  have e:b=it:=by simpa using hb
  subst e
  obtain ⟨o,e,c,d⟩:=st
  exact ⟨o,e,fun v z=>by rw [d]at z;cases z⟩
 keep:=fun i h h' st k=>st.at fun o e=>k it (by simp) o e
 item:=by
  intro X hP hw hK hc i pins s σ H E I hf st hg
  subst hP hw hK
  obtain ⟨hi,xs,hn,hq⟩:=hg
  obtain ⟨its,rv,p,hz⟩:=I.list hq
  have hl:=rv.length
  have hx:xs[n-1-i]? =some (xs[n-1-i]'(by lia)):=List.getElem?_eq_getElem (by lia)
  obtain ⟨u,hu,ru⟩:=rv.get hx
  obtain ⟨f0,f1,f2,f3,f4,f5⟩:=hf it (by simp)
  have st1:s.heap.IsRevIter it a ((n-1-i:Nat):Int):=by
   have e:(n:Int) -1- (i:Int)=((n-1-i:Nat):Int):=by lia
   rw [<- e];exact st
  refine wpAny_pyNext_rev_item st1 p.isList (x:=u) (by simpa using hu) fun h' st' sb=>?_
  have I1:Inv X pins σ H {s with heap:=h'}:=I.turned (t':=s.toks) (fun b o hb e=>(sb.2 b hb).trans e) f0 f1 f3 f4 f5
  have st2:h'.IsRevIter it a ((n:Int) -1- ((i+1:Nat):Int)):=by
   have e:(n:Int) -1- ((i+1:Nat):Int)=((n-1-i:Nat):Int) -1:=by lia
   rw [e];exact st'
  obtain ⟨o,e,c,d⟩:=id st'
  exact ⟨u,rfl,jQ (s:={s with heap:=h'}) e c d (by decide) ⟨_,H,I1,ru,⟨rfl,fun ys hy=>by rw [I.list_inj hy hq];exact hx⟩,st2,fun b hb=>(hf b hb).1⟩⟩
 done:=by
  intro X hP hw hK hc i pins s σ H E I hf st hg
  subst hP hw hK
  have hi:i=n:=hg
  obtain ⟨f0,f1,f2,f3,f4,f5⟩:=hf it (by simp)
  have st1:s.heap.IsRevIter it a (-1):=by
   have e:(n:Int) -1- (i:Int)= -1:=by lia
   rw [<- e];exact st
  exact wpAny_pyNext_rev_end (I.ok.hd hc) st1 fun h' eb=>⟨rfl,I.turned (t':=s.toks) (fun b o hb e=>eb b o hb e) f0 f1 f3 f4 f5⟩
 self:=fun _ _ _ _ _ st h=>wpAny_pyIter_revIter st h
noncomputable def yo (K:PySem.W.Frag) (tl:TE):TI:=fun σ H R=>tl σ H fun x H1=> ∃ a xs,x=.ref a/\SqL K H1 a xs/\R (Itv K a xs.length) H1
theorem wm {tg:Expr} (hg:Gl X "reversed") (hm:X.mg "reversed"=none) (hl:PE X l tl) (hs:starEach [l] X.env=[(false,eval l X.env)]:=by rfl):PI X tg (.Call (.Name "reversed" p) [l] [] pos) (yo X.K tl):=by
 intro pins s σ H R I h
 refine Call_ (eR I hg hm (show bootBuiltins "reversed"=some (.type "reversed") by decide +kernel) (PyProof.Rows.callWith_type1 (by rw [hs];exact Calls.spliced_cons (thn (hl pins s σ H _ I h) fun v s1 ⟨x,H1,I1,r1,q1⟩=>Calls.spliced_nil (by
  obtain ⟨a,xs,ex,hq,q⟩:=q1
  subst ex
  cases r1
  obtain ⟨its,rv,pl,hz⟩:=I1.list hq
  refine call_reversed_list pl.isList ?_
  refine wpAny_pyIter_revIter (i:=(its.toArray.size:Int) -1) ⟨_,Heap.get?_push_size _ rfl,rfl,rfl⟩ ?_
  refine ⟨s1.heap.objs.size,[s1.heap.objs.size],_,_,H1,rfl,I1.kept (t':=s1.toks) fun b o e=>Heap.get?_push_of_some _ e,rF a _ xs.length,⟨_,Heap.get?_push_size _ rfl,rfl,?_⟩,fun b hb=>?_,q⟩
  ·have e:(its.toArray.size:Int) -1=(xs.length:Int) -1- ((0:Nat):Int):=by rw [List.size_toArray,rv.length];lia
   rw [<- e];rfl
  ·have e:b=s1.heap.objs.size:=by simpa using hb
   subst e
   exact I1.fpOk (Nat.le_refl _) (I1.hok.fresh (Nat.le_refl _))))) (by rw [hs];rfl) rfl))
theorem vt {K:PySem.W.Frag} {a:Addr} {xs:List V} {g:TG} {tb:TS} {D:eV} {σ:St} {H:Hp} (Pv:Nat->St->Hp->Prop) (h0:Pv 0 σ H) (hl: ∀ i σ H,i<=xs.length->Pv i σ H->SqL K H a xs)
  (step: ∀ i x σ H,i<xs.length->xs[xs.length-1-i]? =some x->Pv i σ H->g x σ H fun σ2 H2=>tb {D with nx:=Pv (i+1),ct:=Pv (i+1),bk:=D.nx} σ2 H2) (fin: ∀ σ H,Pv xs.length σ H->D.nx σ H):
  ∃ W:Nat->Nat->St->Hp->Prop,(∃ m,W 0 m σ H)/\ ∀ i m σ H,W i m σ H->
   ((Itv K a xs.length).stop i H/\D.nx σ H)\/((Itv K a xs.length).go i H/\ ∃ N:St->Hp->Prop,(∀ σ' H',N σ' H'-> ∃ m',m'<m/\W (i+1) m' σ' H')/\ ∀ x H',(Itv K a xs.length).yld i H x H'->g x σ H' fun σ2 H2=>tb {D with nx:=N,ct:=N,bk:=D.nx} σ2 H2):=by
 refine ⟨fun i m σ H=>m=xs.length-i/\i<=xs.length/\Pv i σ H,⟨xs.length,by simp,Nat.zero_le _,h0⟩,?_⟩
 rintro i m σ H ⟨rfl,hi,p⟩
 have q:=hl i σ H hi p
 by_cases hlt:i<xs.length
 ·refine .inr ⟨⟨hlt,xs,rfl,q⟩,Pv (i+1),fun σ' H' p'=>⟨xs.length- (i+1),by lia,rfl,hlt,p'⟩,fun x H' y=>?_⟩
  obtain ⟨e,y⟩:=y
  subst e
  exact step i x σ _ hlt (y xs q) p
 ·have e:i=xs.length:=by lia
  subst e
  exact .inl ⟨rfl,fin σ H p⟩
end
end L2
namespace HT
open PySem PyProof.Rows
section
variable {prog:Program} {w:World} {A:Around} {s:Shared} {E:Value->Shared->Prop} {d it:Addr} {ks:List (Value×Value)} {i ep:Nat}
noncomputable def IEs (h:Heap) (d:Addr) (ks:List (Value×Value)) (ep:Nat):Prop:= ∃ o es,h.get? d=some o/\o.ExactDict/\o.data=.dict es ep/\es.toList.map (fun e=>(e.key,e.val))=ks
theorem IEs.type (m:IEs s.heap d ks ep):s.TypeIs (.ref d) "dict":=by
 obtain ⟨o,_,ho,hc,_⟩:=m
 exact ⟨o,ho,hc.1⟩
theorem IEs.keeps {h h':Heap} (m:IEs h d ks ep) (k: ∀ o,h.get? d=some o->h'.get? d=some o):IEs h' d ks ep:=by
 obtain ⟨o,es,ho,r⟩:=m
 exact ⟨o,es,k o ho,r⟩
theorem fE {es:Array DictEntry} (e:es.toList.map (fun e=>(e.key,e.val))=ks):es.size=ks.length:=by
 rw [<- e,List.length_map,Array.length_toList]
theorem call_ies {Q:Value->Shared->Prop} (lo:(d==sysModules)=false) (m:IEs s.heap d ks ep)
  (q:Q (.ref s.heap.objs.size) {s with heap:=s.heap.push {cls:=.type "dict_items",data:=.fields #[.ref d]}}):wpAny (model prog w) A (call (.builtin "dict.items") [.ref d]) Q E s:=by
 have ty:=m.type
 refine wpAny_call_entry PySem.F.slot_dict_items ty PySem.F.entry_dict_items ?_ (PySem.F.args_dict_items_1 _)
 refine wpAny_bind ?_
 unfold Builtin.Dict.noArgs
 refine wpAny_bind (wpAny_notOrdered_dict ty ?_)
 refine (show wpAny _ _ (pure d) _ _ s from wpAny_pure (show wpAny _ _ (Builtin.Dict.showsAll d >>= _) _ _ s from ?_))
 unfold Builtin.Dict.showsAll
 rw [if_neg (by rw [lo];exact Bool.false_ne_true)]
 exact wpAny_bind (wpAny_pure (wpAny_bind (wpAny_newObj_type (wpAny_pure ⟨_,rfl,q⟩))))
theorem iter_ies {r:Addr} {Q:Value->Shared->Prop} (hv:s.heap.IsItemsView r d) (m:IEs s.heap d ks ep)
  (q:Q (.ref s.heap.objs.size) {s with heap:=s.heap.push {cls:=.type "dict_itemiterator",data:=.fields #[.none,.bool false,.ref d,.int 0 0,.int ks.length 0,.int ep 0,.none,.none]}}):wpAny (model prog w) A (pyIter (.ref r)) Q E s:=by
 obtain ⟨ov,hov,hcv,hdv⟩:=(show ∃ o,s.heap.get? r=some o/\o.cls=.type "dict_items"/\o.data=.fields #[.ref d]from hv)
 obtain ⟨o,es,ho,hc,hdat,hk⟩:=m
 refine wpAny_pyIter_slot hv.typeIs PySem.F.slot_dict_items_iter (wpAny_call_entry PySem.F.slot_dict_items_iter hv.typeIs PySem.F.entry_dict_items_iter ?_ (PySem.F.args_dict_items_iter_1 _))
 unfold Builtin.«dict_items.__iter__» Builtin.Dict_items.dictOf Builtin.Dict_items.newIterator
 refine wpAny_bind (wpAny_pure (wpAny_bind (wpAny_bind (wpAny_field hov hdv (x:=.ref d) rfl (wpAny_pure (wpAny_bind (wpAny_bind (wpAny_dictEntries ho hdat (wpAny_bind (wpAny_dictEpoch ho hdat ?_))))))))))
 have own:Builtin.Dict_items.ownsTuple "dict_itemiterator"=true:=by decide
 simp only [own,if_true]
 refine wpAny_newObj_type (wpAny_pure ⟨_,rfl,"dict_itemiterator",_,⟨_,Heap.get?_push_size _ rfl,rfl⟩,PySem.F.slot_dict_itemiterator_next.lookup,?_⟩)
  (by simp only [sizeOk,Builtin.Dict_items.ownedTupleFields,List.size_toArray,List.length_append,List.length_cons,List.length_nil,sizeLine_eq];lia)
 simpa [rawInt,fE hk,Builtin.Dict_items.ownedTupleFields]using q
theorem next_ies {x y ok ov:Value} {Q:Option Value->Shared->Prop} (st:IsItemIter s.heap it d i ks.length ep ok ov) (m:IEs s.heap d ks ep) (hx:ks[i]? =some (x,y))
  (q: ∀ h',IsItemIterOut h' it d (i+1) ks.length ep x y s.heap.objs.size->h'.get? s.heap.objs.size=some {cls:=.type "tuple",data:=.seq #[x,y]}->
   (∀ b o,b≠it->s.heap.get? b=some o->h'.get? b=some o)->Q (some (.ref s.heap.objs.size)) {s with heap:=h'}):wpAny (model prog w) A (pyNext (.ref it)) Q E s:=by
 obtain ⟨hp,g,dr,tk,os⟩:=s
 obtain ⟨od,es,hod,hcd,hdd,hk⟩:=m
 have ty:Shared.TypeIs ⟨hp,g,dr,tk,os⟩ (.ref it) "dict_itemiterator":=⟨_,st,rfl⟩
 have hz:=fE hk
 have hlt:i<ks.length:=(List.getElem?_eq_some_iff.mp hx).1
 have hes:i<es.size:=by lia
 have hkv:(es[i].key,es[i].val)=(x,y):=by
  have e1:(es.toList.map (fun e=>(e.key,e.val)))[i]? =some (x,y):=by rw [hk];exact hx
  rw [List.getElem?_map,Array.getElem?_toList,Array.getElem?_eq_getElem hes]at e1
  exact Option.some.inj e1
 have hkx:es[i].key=x:=(Prod.mk.inj hkv).1
 have hvy:es[i].val=y:=(Prod.mk.inj hkv).2
 unfold pyNext
 refine wpAny_bind (wpAny_attempt (wpAny_callSpecial?_slot (name:=Str.ofString "__next__") ty PySem.F.slot_dict_itemiterator_next (wpAny_call_entry PySem.F.slot_dict_itemiterator_next ty PySem.F.entry_dict_itemiterator_next ?_ (PySem.F.args_dict_itemiterator_next_1 _))))
 refine wpAny_bind (wpAny_pure (wpAny_bind (wpAny_bind ?_)))
 first | refine wpAny_bind (wpAny_typeNameOfWhole_itemiter ty (wpAny_pure (wpAny_bind (wpAny_fieldsOf st rfl ?_)))) | refine wpAny_bind (wpAny_typeNameOf_itemiter ty (wpAny_pure (wpAny_bind (wpAny_fieldsOf st rfl ?_))))
 have own:Builtin.Dict_items.ownsTuple "dict_itemiterator"=true:=by decide
 simp only [own,if_true]
 refine (show wpAny _ _ (if (Value.ref d==Value.none)=true then _ else _) _ _ _ from ?_)
 rw [if_neg fun b0:(Value.ref d==Value.none)=true=>Bool.false_ne_true b0]
 refine wpAny_bind (wpAny_pure (wpAny_bind (wpAny_dictEntries hod hdd ?_)))
 rw [if_neg (by rw [hz];simp)]
 refine wpAny_bind (wpAny_pure (wpAny_bind (wpAny_dictEpoch hod hdd ?_)))
 rw [if_neg (by simp)]
 refine wpAny_pure ?_
 simp only [show ¬ ((i:Int) <0)from by lia,if_false,Int.toNat_natCast,Array.getElem?_eq_getElem hes]
 refine wpAny_bind ?_
 first | refine wpAny_bind (wpAny_typeNameOfWhole_itemiter ty (wpAny_pure (wpAny_bind (wpAny_isOneOf_itemiter ty ?_)))) | refine wpAny_bind (wpAny_typeNameOf_itemiter ty (wpAny_pure (wpAny_bind (wpAny_isOneOf_itemiter ty ?_))))
 refine (show wpAny _ _ (setField (.ref it) 3 (rawInt ((i:Int) +1)) >>= _) _ _ ⟨hp,g,dr,tk,os⟩from ?_)
 refine wpAny_bind (wpAny_setField_rec st (by simp) fun h1 e1 b1=>?_)
 replace b1:Heap.SameBut it hp h1:=b1
 replace e1:IsItemIter h1 it d (i+1) ks.length ep ok ov:=by
  have e:((i+1:Nat):Int)=(i:Int) +1:=by lia
  unfold IsItemIter
  rw [e]
  simpa [rawInt]using e1
 have ty1:Shared.TypeIs ⟨h1,g,dr,tk,os⟩ (.ref it) "dict_itemiterator":=⟨_,e1,rfl⟩
 refine wpAny_bind (wpAny_holding (wpAny_bind (wpAny_isOneOf_itemiter ty1 (wpAny_bind (wpAny_isOneOf_itemiter ty1 ?_)))))
 rw [hkx,hvy]
 refine (show wpAny _ _ (Builtin.Dict_items.pairFromOwner (.ref it) 6 x y) _ _ ⟨h1,g,dr,tk,os⟩from ?_)
 unfold Builtin.Dict_items.pairFromOwner
 refine wpAny_bind (wpAny_newTuple ?_)
 have e2:IsItemIter (h1.push {cls:=.type "tuple",data:=.seq #[x,y]}) it d (i+1) ks.length ep ok ov:=Heap.get?_push_of_some _ e1
 have z1:h1.objs.size=hp.objs.size:=b1.1
 have il:hp.objs.size≠it:=Nat.ne_of_gt (Heap.lt_size st)
 have t2:(h1.push {cls:=.type "tuple",data:=.seq #[x,y]}).get? hp.objs.size=some {cls:=.type "tuple",data:=.seq #[x,y]}:=by rw [<- z1];exact Heap.get?_push_size _ rfl
 have k2: ∀ b o,b≠it->hp.get? b=some o->(h1.push {cls:=.type "tuple",data:=.seq #[x,y]}).get? b=some o:=fun b o hb e=>Heap.get?_push_of_some _ (b1.extBut b o hb e)
 generalize h1.push {cls:=.type "tuple",data:=.seq #[x,y]}=h2 at e2 t2 k2
 refine (show wpAny _ _ (Builtin.Dict_items.ownedTupleIsFree (.ref it) >>= _) _ _ ⟨h2,g,dr,tk,os⟩from ?_)
 rw [z1]
 refine wpAny_bind ?_
 unfold Builtin.Dict_items.ownedTupleIsFree
 refine wpAny_bind (wpAny_field e2 rfl (x:=.none) rfl (wpAny_pure ?_))
 simp only [if_true]
 refine wpAny_bind (wpAny_field e2 rfl (x:=ok) rfl (wpAny_bind (wpAny_field e2 rfl (x:=ov) rfl ?_)))
 refine wpAny_bind (wpAny_setField_rec e2 (by simp) fun h3 e3 b3=>?_)
 replace b3:Heap.SameBut it h2 h3:=b3
 replace e3:IsItemIter h3 it d (i+1) ks.length ep x ov:=e3
 refine wpAny_bind (wpAny_setField_rec e3 (by simp) fun h4 e4 b4=>?_)
 replace b4:Heap.SameBut it h3 h4:=b4
 replace e4:IsItemIter h4 it d (i+1) ks.length ep x y:=e4
 refine wpAny_bind (wpAny_setField_rec e4 (by simp) fun h5 e5 b5=>?_)
 replace b5:Heap.SameBut it h4 h5:=b5
 replace e5:IsItemIterOut h5 it d (i+1) ks.length ep x y hp.objs.size:=e5
 refine wpAny_bind (wpAny_setField_rec e5 (by simp) fun h6 e6 b6=>?_)
 replace b6:Heap.SameBut it h5 h6:=b6
 replace e6:IsItemIterOut h6 it d (i+1) ks.length ep x y hp.objs.size:=e6
 have up: ∀ b o,b≠it->h2.get? b=some o->h6.get? b=some o:=fun b o hb e=>b6.extBut b o hb (b5.extBut b o hb (b4.extBut b o hb (b3.extBut b o hb e)))
 exact wpAny_bind (wpAny_letGo (wpAny_pure (wpAny_pure ⟨_,rfl,wpAny_pure (q h6 e6 (up _ _ il t2) fun b o hb e=>up b o hb (k2 b o hb e))⟩)))
theorem end_ies {ok ov:Value} {Q:Option Value->Shared->Prop} (hh:A.handled=none) (st:IsItemIter s.heap it d i ks.length ep ok ov) (m:IEs s.heap d ks ep) (hx:ks.length<=i)
  (q: ∀ h',Heap.ExtBut it s.heap h'->Q none {s with heap:=h'}):wpAny (model prog w) A (pyNext (.ref it)) Q E s:=by
 have ty:s.TypeIs (.ref it) "dict_itemiterator":=⟨_,st,rfl⟩
 obtain ⟨od,es,hod,hcd,hdd,hk⟩:=m
 have hz:=fE hk
 unfold pyNext
 refine wpAny_bind (wpAny_attempt (wpAny_callSpecial?_slot (name:=Str.ofString "__next__") ty PySem.F.slot_dict_itemiterator_next (wpAny_call_entry PySem.F.slot_dict_itemiterator_next ty PySem.F.entry_dict_itemiterator_next ?_ (PySem.F.args_dict_itemiterator_next_1 _))))
 refine wpAny_bind (wpAny_pure (wpAny_bind (wpAny_bind ?_)))
 first | refine wpAny_bind (wpAny_typeNameOfWhole_itemiter ty (wpAny_pure (wpAny_bind (wpAny_fieldsOf st rfl ?_)))) | refine wpAny_bind (wpAny_typeNameOf_itemiter ty (wpAny_pure (wpAny_bind (wpAny_fieldsOf st rfl ?_))))
 have own:Builtin.Dict_items.ownsTuple "dict_itemiterator"=true:=by decide
 simp only [own,if_true]
 refine (show wpAny _ _ (if (Value.ref d==Value.none)=true then _ else _) _ _ s from ?_)
 rw [if_neg fun b0:(Value.ref d==Value.none)=true=>Bool.false_ne_true b0]
 refine wpAny_bind (wpAny_pure (wpAny_bind (wpAny_dictEntries hod hdd ?_)))
 rw [if_neg (by rw [hz];simp)]
 refine wpAny_bind (wpAny_pure (wpAny_bind (wpAny_dictEpoch hod hdd ?_)))
 rw [if_neg (by simp)]
 refine wpAny_pure ?_
 have hge:es.size<=i:=by lia
 simp only [show ¬ ((i:Int) <0)from by lia,if_false,Int.toNat_natCast,Array.getElem?_eq_none hge]
 refine wpAny_bind ?_
 first | refine wpAny_bind (wpAny_typeNameOfWhole_itemiter ty (wpAny_pure ?_)) | refine wpAny_bind (wpAny_typeNameOf_itemiter ty (wpAny_pure ?_))
 refine (show wpAny _ _ (setField (.ref it) 2 .none >>= _) _ _ s from wpAny_bind (wpAny_setField st rfl (by simp) ?_))
 refine (show wpAny _ _ (newExc (.type "StopIteration") [] >>= _) _ _ _ from wpAny_bind ?_)
 simp only [newExc,newTuple]
 refine wpAny_bind (wpAny_newObj_type (wpAny_bind (m:=firstArgMember _ _) (wpAny_of_eq (a:=Value.none) (by first | rfl | (simp only [firstArgMember];rfl)) (wpAny_newObj_type ?_ (by size_fits)))) (by size_fits))
 simp only [raiseNew]
 refine wpAny_bind (wpAny_handled ?_)
 rw [show A.in1.handled=none from hh]
 refine (wpAny_bind (wpAny_pure (wpAny_throw (?_))))
 refine wpAny_bind (wpAny_isInstance (T:="StopIteration") (b:=true) ⟨_,Heap.get?_push_size _ rfl,rfl⟩ isSubtype_stop (wpAny_pure (q _ ?_)))
 exact ((Heap.SameBut.update ..).extBut.push _).push _
end
end HT
namespace L2
open PySem PySem.Spec PyProof.Rows
theorem Inv.freeze {X:Cx} {pins:List (Addr×Obj)} {σ:St} {H:Hp} {s:Shared} {d:Addr} {o:Obj} {kvs:List (List Key×V)} (I:Inv X pins σ H s) (hd:H d=some (.dT kvs)) (ho:s.heap.get? d=some o):Inv X pins σ (upd H d (.frz o (.dT kvs))) s:=by
 refine iq (t':=s.toks) (h':=s.heap) I (by rw [hd];exact True.intro) ⟨rfl,fun _ _=>rfl⟩ ⟨o,ho⟩ ⟨ho,?_⟩
 obtain ⟨z,lo,xs,kt,r⟩:=(show ObjOk X.prog X.w H s.heap d (.dT kvs)from I.hok d _ hd)
 refine ⟨z,lo,xs,Paired.mapP kt fun p q h=>⟨h.1,?_,h.2.2⟩,r⟩
 rw [ah (fun z=>by rw [z,hd]at h;cases h.2.1)]
 exact h.2.1
noncomputable def nO (o:Obj):Nat:=match o.data with
 | .dict es _=>es.size
 | _=>0
noncomputable def epO (o:Obj):Nat:=match o.data with
 | .dict _ ep=>ep
 | _=>0
theorem cX {X:Cx} {pins:List (Addr×Obj)} {σ:St} {H:Hp} {s:Shared} {d:Addr} {o:Obj} {kvs:List (List Key×V)} (I:Inv X pins σ H s) (hd:H d=some (.frz o (.dT kvs))):
  ∃ xs:List (List Key×Addr×Value),KT H kvs xs/\(d==sysModules)=false/\nO o=xs.length/\HT.IEs s.heap d (xs.map fun q=>(Value.ref q.2.1,q.2.2)) (epO o)/\HT.VEs s.heap d (xs.map fun q=>q.2.2) (epO o)/\s.heap.get? d=some o:=by
 obtain ⟨ho,z,lo,xs,kt,o',es,ep,h1,h2,h3,h4,h5⟩:=(show ObjOk X.prog X.w H s.heap d (.frz o (.dT kvs))from I.hok d _ hd)
 rw [ho]at h1
 cases h1
 have e1:nO o=es.size:=by unfold nO;rw [h3]
 have e2:epO o=ep:=by unfold epO;rw [h3]
 refine ⟨xs,kt,lo,?_,⟨o,es,ho,h2,by rw [e2];exact h3,?_⟩,⟨o,es,ho,h2,by rw [e2];exact h3,?_⟩,ho⟩
 ·rw [e1,<- Array.length_toList,h4,List.length_map]
 ·rw [h4,List.map_map];rfl
 ·rw [h4,List.map_map];rfl
theorem tN {H:Hp}: ∀ {kvs:List (List Key×V)} {xs:List (List Key×Addr×Value)} {i:Nat} {kv:List Key×V},KT H kvs xs->kvs[i]? =some kv-> ∃ q:List Key×Addr×Value,xs[i]? =some q/\H q.2.1=some (.tup (kv.1.map kV))/\RelV kv.2 q.2.2
 | _,_,i,_,.nil,e=>by cases i <;> cases e
 | _,_,0,_,.cons h _,e=>by cases e;exact ⟨_,rfl,h.2.1,h.2.2⟩
 | _,_,i+1,_,.cons _ t,e=>tN (i:=i) t e
noncomputable def Ity (d:Addr) (o:Obj):It:=
 ⟨fun i H=> ∃ kvs kv,H d=some (.frz o (.dT kvs))/\kvs[i]? =some kv,
  fun i H x H'=> ∃ T c ks v,H T=none/\x=.ref T/\H'=upd H T (.tup [.ref c,v])/\H c=some (.tup (List.map kV ks))/\ ∀ kvs,H d=some (.frz o (.dT kvs))->kvs[i]? =some (ks,v),
  fun i H=> ∃ kvs,H d=some (.frz o (.dT kvs))/\kvs.length=i⟩
noncomputable def yG (it d:Addr) (o:Obj) (i:Nat) (h:Heap):Prop:= ∃ ok ov,IsItemIter h it d i (nO o) (epO o) ok ov
theorem nq {P:Program} {w:World} {K:PySem.W.Frag} {es:List Expr} {kk:Nat} {tpos:Pos} (it d:Addr) (o:Obj):jq P w K (.Tuple es kk tpos) (Ity d o) [it] it (yG it d o):=by
 refine ⟨by simp,fun i h st b hb=>?_,fun i h h' st k=>?_,?_,?_,fun _ _ _ _ _ st h=>?_⟩
 ·obtain ⟨ok,ov,st⟩:=st
  have e:b=it:=by simpa using hb
  subst e
  exact ⟨_,st,fun v e=>nomatch e⟩
 ·obtain ⟨ok,ov,st⟩:=st
  exact ⟨ok,ov,k it (by simp) _ st⟩
 ·intro X hP hw hK hc i pins s σ H E I hf st hg
  subst hP hw hK
  obtain ⟨kvs,kv,hd,hx⟩:=hg
  obtain ⟨xs,kt,lo,hn,m,_,_⟩:=cX I hd
  obtain ⟨q,hq,hc',rv⟩:=tN kt hx
  obtain ⟨ok,ov,st⟩:=st
  have st0:=st
  rw [hn,<- List.length_map (f:=fun q:List Key×Addr×Value=>(Value.ref q.2.1,q.2.2))]at st
  have nd:d≠it:=fun z=>by have:=(hf it (by simp)).1;rw [<- z,hd]at this;cases this
  refine HT.next_ies st m (by rw [List.getElem?_map,hq];rfl) fun h' z1 pr kk=>?_
  refine ⟨_,rfl,wpAny_letOwnedTupleGo_items z1 fun h'' z2 sb=>?_⟩
  have lt: ∀ {b:Addr} {ob:Obj},s.heap.get? b=some ob->b≠s.heap.objs.size:=fun e=>Nat.ne_of_lt (Heap.lt_size e)
  have fT:H s.heap.objs.size=none:=I.hok.fresh (Nat.le_refl _)
  have keep: ∀ b ob,b∉[it]->s.heap.get? b=some ob->h''.get? b=some ob:=fun b ob hb z=>by
   simp only [List.mem_cons,List.not_mem_nil,or_false]at hb
   exact sb.extBut b ob hb (kk b ob hb z)
  have trk: ∀ b uo,H b=some uo->b∉[it]:=fun b uo z hb=>by rw [(hf b hb).1]at z;cases z
  have ptT:=sb.extBut _ _ (Ne.symm (lt st0)) pr
  have I2:Inv X pins σ (upd H s.heap.objs.size (.tup [.ref q.2.1,kv.2])) {s with heap:=h''}:=by
   refine I.step (g':=s.gens) (d':=s.drawn) (t':=s.toks) (ch:=[it]) (fun b hb=>?_) (fun b ob _ _ hb z _=>keep b ob hb z) (fun b ob _ _ hb z _=>⟨ob.slots,keep b ob hb z⟩) (fun b ob hb z n=>by rw [ah (lt z)];exact n)
    (fun b ob hb z=>⟨ob,keep b ob hb z⟩) (fun b zs z=>by rw [ah (af z fT)];exact z) (fun b ob uo z=>by rw [ah (af z fT)];exact z) (fun b ps z=>⟨#[],by rw [ah (af z fT),z];simp⟩) (fun m hm=>?_) (fun b uo z=>?_) I.bare
   ·obtain ⟨_,f1,_,f3,f4,f5⟩:=hf b hb
    exact ⟨f3,f1,f4,f5⟩
   ·obtain ⟨ob,es',ep,ho,r⟩:=hm
    exact ⟨ob,es',ep,keep _ ob (fun hb=>(hf _ hb).2.1 rfl) ho,r⟩
   ·by_cases hb:b=s.heap.objs.size
    ·subst hb
     rw [ab]at z
     cases z
     exact ⟨by show 2<=sizeLine;decide,[.ref q.2.1,q.2.2],.cons rfl (.cons rv .nil),_,ptT,rfl,_,rfl⟩
    ·rw [ah hb]at z
     refine (I.hok b uo z).stay (fun c' v' hc' q=>keep c' v' ?_ q) (fun c' q=>by rw [ah (af q fT)];exact q) fun c' zs q=>by rw [ah (af q fT)];exact q
     rcases hc' with h | h
     ·rw [h];exact trk b uo z
     ·exact trk c' _ h
  refine ⟨.ref s.heap.objs.size,_,I2,rfl,⟨_,q.2.1,kv.1,kv.2,fT,rfl,rfl,hc',fun kvs' h1=>?_⟩,⟨_,_,by rw [hn,<- List.length_map (f:=fun q:List Key×Addr×Value=>(Value.ref q.2.1,q.2.2))];exact z2⟩,fun b hb=>?_⟩
  ·rw [hd]at h1
   cases h1
   exact hx
  ·have e:b=it:=by simpa using hb
   subst e
   rw [ah (lt st0)]
   exact (hf _ (by simp)).1
 ·intro X hP hw hK hc i pins s σ H E I hf st hg
  subst hP hw hK
  obtain ⟨kvs,hd,hl⟩:=hg
  obtain ⟨xs,kt,lo,hn,m,_,_⟩:=cX I hd
  obtain ⟨ok,ov,st⟩:=st
  rw [hn,<- List.length_map (f:=fun q:List Key×Addr×Value=>(Value.ref q.2.1,q.2.2))]at st
  have hle:xs.length=kvs.length:=(Paired.length kt).symm
  obtain ⟨f0,f1,f2,f3,f4,f5⟩:=hf it (by simp)
  exact HT.end_ies (I.ok.hd hc) st m (by rw [List.length_map];lia) fun h' eb=>⟨rfl,I.turned (t':=s.toks) (fun b o hb e=>eb b o hb e) f0 f1 f3 f4 f5⟩
 ·obtain ⟨ok,ov,st⟩:=st
  exact PySem.W.kcp_self st h
noncomputable def xH (J:Addr->Obj->It) (to:TE):TI:=fun σ H R=>to σ H fun x H1=> ∃ d kvs,x=.ref d/\((H1 d=some (.dT kvs)/\ ∀ o,R (J d o) (upd H1 d (.frz o (.dT kvs))))\/ ∃ o,H1 d=some (.frz o (.dT kvs))/\R (J d o) H1)
theorem tV {X:Cx} {pins:List (Addr×Obj)} {σ:St} {H:Hp} {s:Shared} {d:Addr} {kvs:List (List Key×V)} {J:Addr->Obj->It} {R:It->Hp->Prop} (I:Inv X pins σ H s)
  (h:(H d=some (.dT kvs)/\ ∀ o,R (J d o) (upd H d (.frz o (.dT kvs))))\/ ∃ o,H d=some (.frz o (.dT kvs))/\R (J d o) H): ∃ o H',Inv X pins σ H' s/\H' d=some (.frz o (.dT kvs))/\R (J d o) H':=by
 rcases h with ⟨hd,q⟩ | ⟨o,hd,q⟩
 ·obtain ⟨_,_,xs,kt,o,es,ep,h1,_⟩:=(show ObjOk X.prog X.w H s.heap d (.dT kvs)from I.hok d _ hd)
  exact ⟨o,_,I.freeze hd h1,ab,q o⟩
 ·exact ⟨o,H,I,hd,q⟩
theorem iT {X:Cx} {es:List Expr} {kk:Nat} {tpos:Pos} {o:Expr} {to:TE} {apos cpos:Pos} (ho:PE X o to)
  (hbase:attributeBase o "items" X.env (eval o X.env)=eval o X.env:=by rfl) (hline:(apos.endLine==cpos.line)=true:=by rfl):
  PI X (.Tuple es kk tpos) (.Call (.Attribute o "items" apos) [] [] cpos) (xH Ity to):=by
 intro pins s σ H R I h
 refine wpAny_Call_method0_late hbase hline (thn (ho pins s σ H _ I h) fun v s1 ⟨x,H1,I1,r1,d,kvs,ex,q1⟩=>?_)
 subst ex
 cases r1
 obtain ⟨ob,H2,I2,hd,q⟩:=tV I1 q1
 obtain ⟨xs,kt,lo,hn,m,_,hob⟩:=cX I2 hd
 refine ⟨"dict","dict.items",PySem.F.plainAttrs_dict,PySem.F.slot_dict_items,PySem.F.type_dict_items,m.type,(fun b e=>?_),Calls.callWith_builtin rfl (PySem.evalArgs_none (HT.call_ies lo m ?_))⟩
 ·cases e
  obtain ⟨o',es',e1,e2,_⟩:=m
  exact ⟨o',e1,e2.2.1⟩
 have kp0: ∀ b o,s1.heap.get? b=some o->(s1.heap.push {cls:=.type "dict_items",data:=.fields #[.ref d]}).get? b=some o:=fun b o e=>Heap.get?_push_of_some _ e
 refine HT.iter_ies ⟨_,Heap.get?_push_size _ rfl,rfl,rfl⟩ (m.keeps fun o e=>kp0 _ o e) ?_
 have hsz:(s1.heap.push {cls:=.type "dict_items",data:=.fields #[.ref d]}).objs.size=s1.heap.objs.size+1:=Heap.size_push ..
 refine ⟨_,[_],_,_,H2,rfl,I2.kept (t':=s1.toks) fun b o e=>Heap.get?_push_of_some _ (kp0 b o e),nq _ d ob,⟨.none,.none,?_⟩,fun b hb=>?_,q⟩
 ·rw [List.length_map,<- hn]
  exact Heap.get?_push_size _ rfl
 ·have e:b=(s1.heap.push {cls:=.type "dict_items",data:=.fields #[.ref d]}).objs.size:=by simpa using hb
  have hb':s1.heap.objs.size<=b:=by rw [e,hsz];lia
  exact I2.fpOk hb' (I2.hok.fresh hb')
theorem gO {d:Addr} {o:Obj} {kvs:List (List Key×V)} {g:TG} {tb:TS} {D:eV} {σ:St} {H:Hp} (Pv:Nat->St->Hp->Prop) (h0:Pv 0 σ H) (hl: ∀ i σ H,i<=kvs.length->Pv i σ H->H d=some (.frz o (.dT kvs)))
  (step: ∀ i ks v T c σ H,kvs[i]? =some (ks,v)->H T=none->H c=some (.tup (List.map kV ks))->Pv i σ H->g (.ref T) σ (upd H T (.tup [.ref c,v])) fun σ2 H2=>tb {D with nx:=Pv (i+1),ct:=Pv (i+1),bk:=D.nx} σ2 H2) (fin: ∀ σ H,Pv kvs.length σ H->D.nx σ H):
  ∃ W:Nat->Nat->St->Hp->Prop,(∃ m,W 0 m σ H)/\ ∀ i m σ H,W i m σ H->
   ((Ity d o).stop i H/\D.nx σ H)\/((Ity d o).go i H/\ ∃ N:St->Hp->Prop,(∀ σ' H',N σ' H'-> ∃ m',m'<m/\W (i+1) m' σ' H')/\ ∀ x H',(Ity d o).yld i H x H'->g x σ H' fun σ2 H2=>tb {D with nx:=N,ct:=N,bk:=D.nx} σ2 H2):=by
 refine ⟨fun i m σ H=>m=kvs.length-i/\i<=kvs.length/\Pv i σ H,⟨kvs.length,by simp,Nat.zero_le _,h0⟩,?_⟩
 rintro i m σ H ⟨rfl,hi,p⟩
 have q:=hl i σ H hi p
 by_cases hlt:i<kvs.length
 ·refine .inr ⟨⟨kvs,kvs[i],q,List.getElem?_eq_getElem hlt⟩,Pv (i+1),fun σ' H' p'=>⟨kvs.length- (i+1),by lia,rfl,hlt,p'⟩,fun x H' y=>?_⟩
  obtain ⟨T,c,ks,v,fT,rfl,rfl,hc,hk⟩:=y
  exact step i ks v T c σ H (hk kvs q) fT hc p
 ·have e:i=kvs.length:=by lia
  subst e
  exact .inl ⟨⟨kvs,q,rfl⟩,fin σ H p⟩
end L2
namespace My
open PySem L2
inductive Ts (H:Hp):List V->List V->Prop where
 | nil:Ts H [] []
 | cons {a:Addr} {k:Str} {r vs out:List V}:H a=some (.tup (.str k::r))->k.length<=1000->r.length<=3->Ts H (bf (.str k::r)++vs) out->Ts H (.ref a::vs) (.ref a::out)
theorem Ts.len {H:Hp} {ws out:List V} (h:Ts H ws out):ws.length<=out.length:=by
 induction h with
 | nil=>exact Nat.le_refl _
 | cons _ _ _ _ ih=>
  rw [List.length_append]at ih
  rw [List.length_cons,List.length_cons]
  lia
theorem Ts.same {H H':Hp} {ws out:List V} (sm:Same H H') (h:Ts H ws out):Ts H' ws out:=by
 induction h with
 | nil=>exact .nil
 | cons ha hk hr _ ih=>exact .cons (sm _ _ ha) hk hr ih
noncomputable def fR:Sp:=fun vs H Q _=> ∃ v out,vs=[v]/\Ts H [v] out/\out.length<=1000/\ ∀ p H',Same H H'->H' p=some (.lst out)->Q (.ref p) H'
theorem scTuples:ay ["formula","found","waiting","one"] ["formula"] (ak ko):=fsc
theorem jM (F:Fun K "tuples_of" "tuples_of" ko f fd)
  (GI:ar P w K mg base CX0 1 f2 fd2 ["formula"] ke) (bI:Binds K fd2 ["formula"] []) (kI:PySem.W.keepIn K (.ref f2)=true) (mI:mg "inner_of"=some (.ref f2)):
  ar P w K mg base CX0 2 f fd ["formula"] fR:=by
 refine F.ok scTuples (fun vs H Q E h=>?_) (fun cdv A outer s H vs Q E hr h=>?_)
 ·obtain ⟨v,b,rfl,_⟩:=h
  rfl
 obtain ⟨v,out,rfl,hT,hout,q⟩:=h
 refine ⟨_,ae (am (i:=1) scTuples.nd rfl (Or.inl rfl) (bc ad))
  (ae (am (i:=2) scTuples.nd rfl (Or.inl rfl) (bc (aa (pv 0) ad)))
  (ae (fZ PassesOwn.never (l7 (pv 2) (fun _=>rfl))
   (ae (am (i:=3) scTuples.nd rfl (Or.inl rfl) (nS PySem.F.plainAttrs_list PySem.F.slot_list_pop PySem.F.type_list_pop oi (pv 2)))
   (ae (bH (dj PySem.F.plainAttrs_list PySem.F.slot_list_append PySem.F.type_list_append bi (pv 1) (aa (pv 3) ad)))
   (aj (bH (dj PySem.F.plainAttrs_list PySem.F.slot_list_extend PySem.F.type_list_extend u0 (pv 2) (aa (sN (al GI hr rfl mI kI bI .nil aq (aa (pv 3) ad)) (pc j7 ai)) ad)))))))
  (aj (aB (pv 1))))),?_⟩
 refine ⟨(by show 0<=sizeLine;decide),fun p1 h1=>?_⟩
 refine ⟨_,rfl,(by show 1<=sizeLine;decide),fun p2 h2=>?_⟩
 dsimp only [vR,lN,eD,tC]
 have n21:p1≠p2:=fun e=>by
  subst e
  rw [ab]at h2
  cases h2
 have h2':H p2=none:=by rw [ah (Ne.symm n21)]at h2;exact h2
 refine iw (fun σ H'=> ∃ (ws done rest:List V) (o:Option V),σ=[some v,some (.ref p1),some (.ref p2),o]/\H' p1=some (.lst done)/\H' p2=some (.lst ws.reverse)/\Same H H'/\Ts H ws rest/\done++rest=out)
  (fun _ H'=>match H' p1 with | some (.lst d)=>out.length-d.length | _=>0) ⟨[v],[],out,none,rfl,by rw [ah n21,ab],ab,(ag h1 _).trans (ag h2 _),hT,rfl⟩ ?_ ?_
 ·rintro σ H' ⟨ws,done,rest,o,rfl,g1,g2,sm,hW,he⟩
  refine ⟨_,rfl,_,.inl ⟨ws.reverse,SqL.of g2,rfl⟩,?_⟩
  have hle:done.length+rest.length=out.length:=by rw [<- he,List.length_append]
  cases hW with
  | nil=>
   refine bu ?_
   refine ⟨_,rfl,?_⟩
   rw [List.append_nil]at he
   subst he
   exact q _ _ sm g1
  | @cons a k r vs rest' ha hk hr3 ht=>
   have ne:(!((V.ref a::vs).reverse).isEmpty)=true:=by simp
   refine c8 (fun _=>?_) (fun c=>absurd ne c)
   rw [List.reverse_cons]at g2
   refine ⟨_,rfl,.inl ⟨rfl,_,SqL.of g2⟩,p2,_,.ref a,rfl,rfl,g2,by simp,?_⟩
   rw [List.dropLast_concat]
   have l1: ∀ {c:Addr} {oo:HO},H c=some oo->c≠p1:=fun h=>af h h1
   have l2: ∀ {c:Addr} {oo:HO},H c=some oo->c≠p2:=fun h=>af h h2'
   rw [List.length_cons]at hle
   refine ⟨_,rfl,.inl ⟨rfl,_,SqL.of (show upd H' p2 (.lst vs.reverse) p1=some (.lst done) by rw [ah n21];exact g1)⟩,_,rfl,p1,done,.ref a,rfl,rfl,by rw [ah n21];exact g1,ao (by lia),?_⟩
   have sm1:Same H (upd (upd H' p2 (.lst vs.reverse)) p1 (.lst (done++[.ref a]))):=fun c oo h=>by rw [ah (l1 h),ah (l2 h)];exact sm c oo h
   have k2:upd (upd H' p2 (.lst vs.reverse)) p1 (.lst (done++[.ref a])) p2=some (.lst vs.reverse):=by rw [ah (Ne.symm n21),ab]
   refine ⟨_,rfl,.inl ⟨rfl,_,SqL.of k2⟩,_,rfl,a,k,r,rfl,sm1 _ _ ha,by lia,fun p H3 sm4 hp=>?_⟩
   have k1':H3 p1=some (.lst (done++[.ref a])):=sm4 _ _ ab
   have k2':H3 p2=some (.lst vs.reverse):=sm4 _ _ k2
   have hil:(bf (.str k::r)).length<=3:=by
    show (if (cr k).isSome=true then r else []).length<=3
    split
    ·exact hr3
    ·exact Nat.zero_le _
   refine ⟨_,rfl,p,_,rfl,rfl,SqT.of hp,fun p4 h4=>?_⟩
   have n41:p1≠p4:=af k1' h4
   have n42:p2≠p4:=af k2' h4
   have hlv:=ht.len
   rw [List.length_append]at hlv
   refine ⟨p2,p4,_,_,rfl,rfl,by rw [ah n42];exact k2',SqT.of ab,?_,?_⟩
   ·rw [List.length_reverse,List.length_reverse]
    exact Nat.le_of_lt (ao (by lia))
   ·refine ⟨⟨bf (.str k::r)++vs,done++[.ref a],rest',_,rfl,by rw [ah n21,ah n41];exact k1',by rw [ab,List.reverse_append],fun c oo h=>?_,ht,by rw [List.append_assoc];exact he⟩,?_⟩
    ·have h3:=sm4 _ _ (sm1 c oo h)
     rw [ah (l2 h),ah (af h3 h4)]
     exact h3
    ·rw [ah n21,ah n41,k1',g1]
     show out.length- (done++[V.ref a]).length<out.length-done.length
     rw [List.length_append,List.length_singleton]
     lia
 ·rintro σ H' Q1 Q2 hq ⟨y,e1,k,t,h⟩
  exact ⟨y,e1,k,t,hq _ _ h⟩
theorem gy {J:It} {α:Type} {as:List α} {A:α->V->Prop} {xs:List V} {fr:List Nat} {te:TE} {σ:St} {H1:Hp} {Q:VK} (hn:xs.length<=1000) (hP:Paired A as xs)
  (hgo: ∀ i H,Same H1 H->i<xs.length->J.go i H) (hst: ∀ H,Same H1 H->J.stop xs.length H) (hy: ∀ i H v H',Same H1 H->J.yld i H v H'->H'=H/\xs[i]? =some v)
  (R:Hp->α->V->Prop) (mono: ∀ {H H':Hp} {a:α} {v:V},TK H H'->R H a v->R H' a v)
  (hte: ∀ a v H (k:VK),a∈as->A a v->Same H1 H->(∀ u H',Same H H'->R H' a u->k u H')->te (some v::bJ fr σ) H k)
  (hd: ∀ p zs H',H1 p=none->Same H1 H'->H' p=some (.lst zs)->Paired (R H') as zs->Q (.ref p) H'):fC fr te σ J H1 Q:=by
 intro p hp
 have hl:as.length=xs.length:=Paired.length hP
 refine ⟨fun i m zs H=>i<=xs.length/\m=xs.length-i/\Same H1 H/\H p=some (.lst zs)/\zs.length=i/\Paired (R H) (as.take i) zs,⟨_,Nat.zero_le _,rfl,ag hp _,ab,rfl,.nil⟩,?_⟩
 rintro i m zs H ⟨hi,hm,sm,gp,hz,hT⟩
 refine ⟨gp,?_⟩
 by_cases e:i=xs.length
 ·subst e
  rw [<- hl,List.take_length]at hT
  exact .inl ⟨hst H sm,hd p zs H hp sm gp hT⟩
 ·have hlt:i<xs.length:=by lia
  refine .inr ⟨hgo i H sm hlt,ao (by lia),fun v H' hv=>?_⟩
  obtain ⟨rfl,hv2⟩:=hy i H v H' sm hv
  obtain ⟨a,ha,hA⟩:=aH hP hv2
  refine hte a v _ _ (List.mem_of_getElem? ha) hA sm fun u H2 s2 r=>?_
  have gp2:=s2 _ _ gp
  have tk:TK H2 (upd H2 p (.lst (zs++[u]))):=TK.lst gp2
  refine ⟨gp2,xs.length- (i+1),by lia,by lia,rfl,?_,ab,by rw [List.length_append,hz];rfl,?_⟩
  ·intro b o hb
   rw [ah (af hb hp)]
   exact s2 _ _ (sm _ _ hb)
  ·rw [List.take_add_one,ha]
   exact Paired.snoc (Paired.mapP hT fun _ _ r=>mono ((au s2).trans tk) r) (mono tk r)
theorem pO {α:Type} {J:It} {as:List α} {xs:List V} {A:α->V->Prop} {fr:List Nat} {tc:TT} {te:TE} {σ:St} {H1:Hp} {Q:VK} (hn:xs.length<=1000) (hP:Paired A as xs)
  (hgo: ∀ i H,Same H1 H->i<xs.length->J.go i H) (hst: ∀ H,Same H1 H->J.stop xs.length H) (hy: ∀ i H v H',Same H1 H->J.yld i H v H'->H'=H/\xs[i]? =some v)
  (c:α->Bool) (R:Hp->α->V->Prop) (mono: ∀ {H H':Hp} {a:α} {v:V},TK H H'->R H a v->R H' a v)
  (htc: ∀ a v H (k:Bool->Hp->Prop),a∈as->A a v->Same H1 H->(∀ H',Same H H'->k (c a) H')->tc (some v::bJ fr σ) H k)
  (hte: ∀ a v H (k:VK),a∈as->A a v->c a=true->Same H1 H->(∀ u H',Same H H'->R H' a u->k u H')->te (some v::bJ fr σ) H k)
  (hd: ∀ p zs H',H1 p=none->Same H1 H'->H' p=some (.lst zs)->Paired (R H') (as.filter c) zs->Q (.ref p) H'):j8 fr tc te σ J H1 Q:=by
 intro p hp
 refine ⟨fun i m zs H=>i<=xs.length/\m=xs.length-i/\Same H1 H/\H p=some (.lst zs)/\zs.length<=i/\Paired (R H) ((as.take i).filter c) zs,⟨_,Nat.zero_le _,rfl,ag hp _,ab,Nat.le_refl _,.nil⟩,?_⟩
 rintro i m zs H ⟨hi,hm,sm,gp,hz,hT⟩
 refine ⟨gp,?_⟩
 by_cases e:i=xs.length
 ·subst e
  rw [<- Paired.length hP,List.take_length]at hT
  exact .inl ⟨hst H sm,hd p zs H hp sm gp hT⟩
 ·have hlt:i<xs.length:=by lia
  refine .inr ⟨hgo i H sm hlt,ao (by lia),fun v H' hv=>?_⟩
  obtain ⟨rfl,hv2⟩:=hy i H v H' sm hv
  obtain ⟨a,ha,hA⟩:=aH hP hv2
  have etk:(as.take (i+1)).filter c=(as.take i).filter c++(if c a then [a]else []):=by
   rw [List.take_add_one,ha,List.filter_append]
   congr 1
   show List.filter c [a]=_
   by_cases hc:c a=true
   ·rw [if_pos hc,List.filter_cons_of_pos hc];rfl
   ·rw [if_neg hc,List.filter_cons_of_neg hc];rfl
  refine htc a v _ _ (List.mem_of_getElem? ha) hA sm fun H0 s0=>?_
  have sm0:=sm.trans s0
  have gp0:=s0 _ _ gp
  by_cases hc:c a=true
  ·rw [if_pos hc]at etk
   rw [if_pos hc]
   refine hte a v _ _ (List.mem_of_getElem? ha) hA hc sm0 fun u H2 s2 r=>?_
   have gp2:=s2 _ _ gp0
   have tk:TK H2 (upd H2 p (.lst (zs++[u]))):=TK.lst gp2
   refine ⟨gp2,xs.length- (i+1),by lia,by lia,rfl,?_,ab,by rw [List.length_append];show zs.length+1<=i+1;lia,?_⟩
   ·intro b o hb
    rw [ah (af hb hp)]
    exact s2 _ _ (sm0 _ _ hb)
   ·rw [etk]
    exact Paired.snoc (Paired.mapP hT fun _ _ r=>mono ((au (s0.trans s2)).trans tk) r) (mono tk r)
  ·rw [if_neg hc,List.append_nil]at etk
   rw [if_neg hc]
   exact ⟨xs.length- (i+1),by lia,by lia,rfl,sm0,gp0,by lia,by rw [etk];exact Paired.mapP hT fun _ _ r=>mono (au s0) r⟩
theorem lx {K:PySem.W.Frag} {a:Addr} {xs:List V} {H1:Hp} (ha:H1 a=some (.lst xs)): ∀ i H,Same H1 H->i<xs.length->(Itl K a).go i H:=fun i H s h=>⟨xs,xs[i],SqL.of (s _ _ ha),List.getElem?_eq_getElem h⟩
theorem lu {K:PySem.W.Frag} {a:Addr} {xs:List V} {H1:Hp} (ha:H1 a=some (.lst xs)): ∀ H,Same H1 H->(Itl K a).stop xs.length H:=fun H s=>⟨xs,SqL.of (s _ _ ha),Nat.le_refl _⟩
theorem on {K:PySem.W.Frag} {a:Addr} {xs:List V} {H1:Hp} (ha:H1 a=some (.lst xs)): ∀ i H v H',Same H1 H->(Itl K a).yld i H v H'->H'=H/\xs[i]? =some v:=fun i H v H' s hv=>⟨hv.1,by obtain ⟨rfl,hv⟩:=hv;exact hv xs (SqL.of (s _ _ ha))⟩
theorem io {K:PySem.W.Frag} {a:Addr} {xs:List V} {H1:Hp} (ha:H1 a=some (.tup xs)): ∀ i H,Same H1 H->i<xs.length->(Itt K a).go i H:=fun i H s h=>⟨xs,xs[i],SqT.of (s _ _ ha),List.getElem?_eq_getElem h⟩
theorem im {K:PySem.W.Frag} {a:Addr} {xs:List V} {H1:Hp} (ha:H1 a=some (.tup xs)): ∀ H,Same H1 H->(Itt K a).stop xs.length H:=fun H s=>⟨xs,SqT.of (s _ _ ha),Nat.le_refl _⟩
theorem lp {K:PySem.W.Frag} {a:Addr} {xs:List V} {H1:Hp} (ha:H1 a=some (.tup xs)): ∀ i H v H',Same H1 H->(Itt K a).yld i H v H'->H'=H/\xs[i]? =some v:=fun i H v H' s hv=>⟨hv.1,by obtain ⟨rfl,hv⟩:=hv;exact hv xs (SqT.of (s _ _ ha))⟩
theorem jK {α:Type} {g:α->V}: ∀ {l:List α} {zs:List V},Paired (fun a v=>v=g a) l zs->zs=l.map g
 | _,_,.nil=>rfl
 | _,_,.cons h t=>by rw [h,jK t];rfl
noncomputable def dQ:Fm->Str
 | .num _=>"num"
 | .own _=>"own"
 | .part _ _=>"part"
 | .bin op _ _=>op
 | .whn _ _ _=>"when"
theorem fY {H:Hp} {g:Fm} {u:V} (h:Rep H g u): ∃ a r,u=.ref a/\H a=some (.tup (.str (dQ g)::r)):=by
 cases g with
 | num n=>obtain ⟨a,e,h⟩:=h;exact ⟨a,_,e,h⟩
 | own x=>obtain ⟨a,e,h⟩:=h;exact ⟨a,_,e,h⟩
 | part k x=>obtain ⟨a,e,h⟩:=h;exact ⟨a,_,e,h⟩
 | bin op x y=>obtain ⟨a,_,_,e,h,_⟩:=h;exact ⟨a,_,e,h⟩
 | whn x y z=>obtain ⟨a,_,_,_,e,h,_⟩:=h;exact ⟨a,_,e,h⟩
theorem dO (x:Str): ∀ {xs:List Str},inV (.str x) (xs.map V.str)=decide (x∈xs)
 | []=>(decide_eq_false (by simp)).symm
 | b::r=>by
  have e:inV (.str x) ((b::r).map V.str)=(eqV (.str b) (.str x)||inV (.str x) (r.map V.str)):=rfl
  rw [e,dO x (xs:=r)]
  by_cases h:b=x
  ·rw [decide_eq_true (show x∈b::r by rw [h];exact List.mem_cons_self)]
   simp [eqV,h]
  ·have:(x∈b::r)↔x∈r:=by rw [List.mem_cons];exact ⟨fun z=>z.elim (fun e=>absurd e.symm h) id,.inr⟩
   rw [show decide (x∈b::r)=decide (x∈r)from decide_eq_decide.mpr this]
   have:(b==x)=false:=by
    cases hh:(b==x)with
    | false=>rfl
    | true=>exact absurd (eq_of_beq hh) h
   simp [eqV,this]
theorem bj: ∀ {xs:List Str},(xs.map V.str).all gv=true
 | []=>rfl
 | b::r=>by rw [List.map_cons,List.all_cons,bj (xs:=r)];rfl
theorem vz (x:V) (r:List V):cZ (x::r) (some 1) none=r:=by
 have e1:HT.sIx (x::r).length 0 (some 1)=1:=by
  have:HT.sIx (x::r).length 0 (some 1)=min 1 (x::r).length:=HT.sIx_nat _ _ 1
  rw [this,List.length_cons]
  lia
 unfold cZ
 rw [e1,HT.sIx_none,List.length_cons,List.drop_one,List.tail_cons,Nat.add_sub_cancel,List.take_length]
theorem qJ (x:V) (r:List V): ¬ (HT.sIx (x::r).length 0 (some 1)=0/\HT.sIx (x::r).length (x::r).length none=(x::r).length):=by
 rintro ⟨h1,_⟩
 have:HT.sIx (x::r).length 0 (some 1)=min 1 (x::r).length:=HT.sIx_nat _ _ 1
 rw [this,List.length_cons]at h1
 lia
theorem qV {J:It} {n:Nat} {fr:List Nat} {te:TE} {σ:St} {H1:Hp} {Q:VK} {pl:Addr} {rest top:List V} (hn:n<=1000) (ht:top.length=n) (gpl:H1 pl=some (.lst (rest++top.reverse)))
  (hgo: ∀ i H,Kp pl H1 H->i<n->J.go i H) (hst: ∀ H,Kp pl H1 H->J.stop n H) (hy: ∀ i H v H',J.yld i H v H'->H'=H)
  (hte: ∀ x H (k:VK) xs y,H pl=some (.lst xs)->xs[xs.length-1]? =some y->k y (upd H pl (.lst xs.dropLast))->te (some x::bJ fr σ) H k)
  (hd: ∀ p H',H1 p=none->Kp pl H1 H'->H' pl=some (.lst rest)->H' p=some (.lst top)->Q (.ref p) H'):fC fr te σ J H1 Q:=by
 intro p hp
 have npl:pl≠p:=fun z=>by rw [<- z,gpl]at hp;cases hp
 refine ⟨fun i m ys H=>i<=n/\m=n-i/\Kp pl H1 H/\ys=top.take i/\H p=some (.lst ys)/\H pl=some (.lst (rest++(top.drop i).reverse)),⟨_,Nat.zero_le _,rfl,Kp.refl.new hp,rfl,ab,by rw [ah npl];exact gpl⟩,?_⟩
 rintro i m ys H ⟨hi,hm,kp,rfl,gp,gl⟩
 refine ⟨gp,?_⟩
 by_cases e:i=n
 ·subst e
  rw [<- ht,List.drop_length,List.reverse_nil,List.append_nil]at gl
  rw [<- ht,List.take_length]at gp
  exact .inl ⟨hst H kp,hd p H hp kp gl gp⟩
 ·have hlt:i<n:=by lia
  have hx:top[i]? =some (top[i]'(by lia)):=List.getElem?_eq_getElem (by lia)
  refine .inr ⟨hgo i H kp hlt,ao (by rw [List.length_take];lia),fun v H' hv=>?_⟩
  cases hy i H v H' hv
  have ed:rest++(top.drop i).reverse=(rest++(top.drop (i+1)).reverse)++[top[i]'(by lia)]:=by
   rw [List.drop_eq_getElem_cons (by lia),List.reverse_cons,List.append_assoc]
  rw [ed]at gl
  refine hte v H _ _ (top[i]'(by lia)) gl (by simp) ?_
  rw [List.dropLast_concat]
  refine ⟨by rw [ah (Ne.symm npl)];exact gp,n- (i+1),by lia,by lia,rfl,?_,?_,ab,by rw [ah npl,ab]⟩
  ·intro b o hb hne
   rw [ah (af hb hp),ah hne]
   exact kp b o hb hne
  ·rw [List.take_add_one,hx];rfl
theorem Kp.tkL {tp:Addr} {H H':Hp} {xs:List V} (a:Kp tp H H') (t:H tp=some (.lst xs)):TK H H':=fun b ys h=>a b _ h fun e=>by
 rw [e,t]at h;cases h
end My
namespace L2
open PySem PySem.Spec PyProof.Rows
noncomputable def lG (P:Program) (w:World) (K:PySem.W.Frag) (mg:Str->Option Value) (base:Heap) (k:Nat) (fl:Addr) (sp:Sp):Prop:=
 (∃ o fd,base.get? fl=some o/\o.data=.func fd)/\
 ∀ (X:Cx) (pins:List (Addr×Obj)) (σ:St) (H:Hp) (s:Shared) (us:List Value) (vs:List V) (Q:VK),X.prog=P->X.w=w->X.K=K->X.mg=mg->X.base=base->Room k X.A->Inv X pins σ H s->Vals vs us->sp vs H Q E0->
  wpAny (model P w) X.A (call (.ref fl) us) (EP X pins σ Q) X.xe s
noncomputable def vW (i:Nat) (fl:Addr) (sp:Sp) (t:TA):TE:=fun σ H Q=>σ[i]? =some (some (.ref fl))/\t σ H fun vs H1=>sp vs H1 Q E0
theorem sM {X:Cx} {k i:Nat} {fl:Addr} {sp:Sp} {x:Str} {p pos:Pos} {e:Expr} {es:List Expr} {t:TA} (hT:lG X.prog X.w X.K X.mg X.base k fl sp) (hr:Room k X.A) (hN:X.N[i]? =some x) (hv:Vis X.env.scope x) (ha:PA X (e::es) t)
  (hdb:(x==("__debug__":Str))=false:=by decide) (hcd:(x==("__classdict__":Str))=false:=by decide) (he:starEach (e::es) X.env=(false,eval e X.env)::starEach es X.env:=by rfl) (hpl:(backTo pos (starEach es X.env)).any (·.1)=false:=by rfl):
  PE X (.Call (.Name x p) (e::es) [] pos) (vW i fl sp t):=by
 intro pins s σ H Q I h
 obtain ⟨e0,h⟩:=h
 obtain ⟨⟨o,fd,ho,hd⟩,run⟩:=hT
 obtain ⟨c,d,dt,sl⟩:=o
 simp only at hd
 subst hd
 refine wpAny_Call_Name_kw (thn (sI hN hv hdb hcd pins s σ H (fun v H'=>v=.ref fl/\H'=H) I ⟨_,e0,rfl,rfl⟩) fun u s1 ⟨v,H1,I1,r1,ev,eH⟩=>?_)
 subst ev eH
 cases r1
 have kin: ∀ {h':Heap},(∀ b ob,X.base.get? b=some ob->h'.get? b=some ob)->PySem.W.Frag.In [(fl,⟨c,d,.func fd,sl⟩)] h':=fun hk a ob el=>by
  by_cases ea:a=fl
  ·subst ea
   simp at el
   rw [<- el]
   exact hk _ _ ho
  ·rw [List.lookup_cons,beq_eq_false_iff_ne.mpr ea]at el
   cases el
 refine PySem.W.callWith_K (K:=[(fl,⟨c,d,.func fd,sl⟩)]) (h₀:=X.base) (kin fun _ _ z=>z) (by simp [PySem.W.keepIn]) (thn (ha pos pins s1 σ H1 _ I1 h) fun us s2 ⟨vs,H2,I2,r2,q2⟩=>⟨kin I2.bk,?_⟩) he hpl
 exact run X pins σ H2 s2 us vs Q rfl rfl rfl rfl rfl hr I2 r2 q2
structure mX (ps ys:List Str) (sc:Scope):Prop where
 kind:sc.kind=.function
 co:sc.isCoroutine=false
 gen:sc.isGenerator=false
 nd:(ps++ys).Nodup
 par: ∀ x∈ps,sc.names.lookup x=some .local
 fre: ∀ y∈ys,sc.names.lookup y=some .free
 has: ∀ y∈sc.names,y.2=.free->y.1∈ys
 nocell: ∀ y∈sc.names,y.2≠ .cell
noncomputable def vK (P:Program) (w:World) (K:PySem.W.Frag) (mg:Str->Option Value) (base:Heap) (N:List Str) (qual:Str) (scope:Scope) (fl:Addr) (cd:Value) (cl:List (Str×Addr)) (A:Around) (outer:List Env) (s:Shared) (H:Hp):Cx where
 prog:=P
 w:=w
 K:=K
 mg:=mg
 base:=base
 A:=A.deeper (PySem.W.envX qual scope s.heap.objs.size fl cd cl)
 N:=N
 s₀:=s
 H₀:=H
 env:=PySem.W.envX qual scope s.heap.objs.size fl cd cl
 outer:=outer
 stack:=PySem.W.envX qual scope s.heap.objs.size fl cd cl::outer
 ex:=[]
 calm:=true
 fn:=fun _=>false
 pn:=[]
 xe:=fun _ _=>False
theorem gi {α β:Type} [BEq α] [LawfulBEq α] {k:α} {v:β}: ∀ {l:List (α×β)},(l.map (·.1)).Nodup->(k,v)∈l->l.lookup k=some v
 | [],_,h=>by cases h
 | (a,b)::r,nd,h=>by
  rw [List.map_cons,List.nodup_cons]at nd
  rw [List.lookup_cons]
  rcases List.mem_cons.mp h with e | e
  ·cases e
   simp
  ·have ne:(k==a)=false:=beq_eq_false_iff_ne.mpr fun z=>nd.1 (by rw [<- z];exact List.mem_map.mpr ⟨(k,v),e,rfl⟩)
   rw [ne]
   exact gi nd.2 e
theorem iu {ps:List Str} {us:List Value} {i:Nat} {x:Str} {u:Value} (nd:ps.Nodup) (h1:ps[i]? =some x) (h2:us[i]? =some u):(ps.zip us).reverse.lookup x=some u:=by
 refine gi ?_ (List.mem_reverse.mpr (List.mem_iff_getElem?.mpr ⟨i,by rw [List.getElem?_zip_eq_some];exact ⟨h1,h2⟩⟩))
 rw [List.map_reverse]
 refine List.pairwise_reverse.mpr (List.Pairwise.imp (fun h=>Ne.symm h) (show List.Pairwise (· ≠ ·) _ from ?_))
 have:(ps.zip us).map (·.1)=ps.take us.length:=by
  clear nd h1 h2
  induction ps generalizing us with
  | nil=>simp
  | cons p r ih=>
   cases us with
   | nil=>simp
   | cons w t=>simp [ih]
 rw [this]
 exact nd.sublist (List.take_sublist _ _)
theorem wv {P:Program} {w:World} {K:PySem.W.Frag} {mg:Str->Option Value} {base:Heap} {k:Nat} {fl c':Addr} {nm qual:Str} {params:Arguments} {body:Expr} {scope:Scope} {cl:List (Str×Addr)} {pm ctv:Value} {oc:Obj} {vc:Array Value} {tq:Tok}
  {ps ys:List Str} {cs:List V} {sp:Sp}
  (hfl:base.get? fl=some (PySem.W.kla_obj nm qual params body scope cl pm c' ctv)) (hoc:oc.data=.fields vc) (hq:vc[1]? =some (.str qual tq)) (S:mX ps ys scope)
  (hcell: ∀ x c,cl.lookup x=some c-> ∃ v,base.IsCell c v) (hinj: ∀ x y c,cl.lookup x=some c->cl.lookup y=some c->x=y)
  (hcap: ∀ (j:Nat) (y:Str),ys[j]? =some y-> ∃ c v u,cs[j]? =some v/\cl.lookup y=some c/\base.IsCell c (some u)/\RelV v u) (hcs:cs.length=ys.length)
  (bind: ∀ us:List Value,us.length=ps.length->bindArgs (PySem.W.kla_fn nm qual params body scope cl pm (.ref c') ctv) ⟨us,[]⟩=pure (ps.zip us))
  (len: ∀ vs H Q,sp vs H Q E0->vs.length=ps.length) (hH: ∀ vs H Q,sp vs H Q E0->H c'=some (.ext fun h=>h.get? c'=some oc))
  (hE: ∀ (A:Around) (outer:List Env) (s:Shared) (H:Hp) (vs:List V) (Q:VK),Room k (A.deeper (PySem.W.envX qual scope s.heap.objs.size fl (.ref c') cl))->sp vs H Q E0->
   ∃ t,PE (vK P w K mg base (ps++ys) qual scope fl (.ref c') cl A outer s H) body t/\t (vs.map some++cs.map some) H Q):lG P w K mg base (k+1) fl sp:=by
 refine ⟨⟨_,_,hfl,rfl⟩,fun X pins σ H s us vs Q hP hw hK hm hb hr I r h=>?_⟩
 subst hP hw hK hm hb
 have hlv:=len vs H Q h
 have hlu:us.length=ps.length:=by rw [<- r.length];exact hlv
 have hc':s.heap.get? c'=some oc:=(show ObjOk X.prog X.w H s.heap c' (.ext fun h=>h.get? c'=some oc)from I.hok c' _ (hH vs H Q h)).1
 obtain ⟨t,hPE,ht⟩:=hE X.A X.stack s H vs Q (hr.deeper _) h
 refine wpAny_call (codeAny_mono (R:=CR CX0 X.stack X.prog X.w H s Q E0) (PySem.W.kla_callFunE hr.depth (I.bk _ _ hfl) rfl S.co S.gen rfl ⟨c',oc,vc,tq,rfl,hc',hoc,hq⟩ ?_) fun rr s' hq'=>?_)
 ·rw [bind us hlu]
  refine wpAny_pure (wpAny_newFunctionEnv S.nocell (fun x hx=>S.par _ (List.of_mem_zip hx).1) (fun h₁ hns hsb=>?_) S.kind)
  have hk: ∀ b o,s.heap.get? b=some o->h₁.get? b=some o:=fun b o e=>hsb.extBut b o (Nat.ne_of_lt (Heap.lt_size e)) (Heap.get?_push_of_some _ e)
  refine ⟨I.nolimit.keeps hk,?_⟩
  show codeAny _ _ (.expr body (PySem.W.envX qual scope s.heap.objs.size fl (.ref c') cl)) _ _
  refine PySem.W.kla_codeExpr ?_
  have hcl: ∀ x c,cl.lookup x=some c->H c=none/\ ∃ v,h₁.IsCell c v:=fun x c e=>by
   obtain ⟨v,o,ho,hd⟩:=hcell x c e
   obtain ⟨e1,e2⟩:=I.bs c o ho
   exact ⟨e2,v,o,hk _ _ e1,hd⟩
  have IY:Inv (vK X.prog X.w X.K X.mg X.base (ps++ys) qual scope fl (.ref c') cl X.A X.stack s H) [] (vs.map some++cs.map some) H {s with heap:=h₁,toks:=s.toks+ (ps.zip us).length}:=by
   have noA: ∀ b:Addr,b∉([]:List Addr):=fun b z=>by cases z
   refine ⟨⟨I.ok.mod,S.kind,rfl,rfl,Nat.le_refl _,hinj,fun y hy=>?_,fun y c hf _=>(by cases hf),fun _=>hr.hd,Around.frames_deeper I.ok.frames,.inr ⟨rfl,rfl⟩,fun b z=>absurd z (noA b),I.bs,Nat.le_trans I.ok.bsz I.sz,fun b _ _=>noA b,fun b z=>absurd z (noA b),I.stack,I.stkFree⟩,
    rfl,I.bare,Un.kept hk,⟨_,hns,fun i y v h1 h2 h3=>?_⟩,fun y c e=>(hcl y c e).2,I.hok.fresh (Nat.le_refl _),fun y c e=>(hcl y c e).1,fun p hp=>absurd (show p∈([]:List (Addr×Obj))from hp) (by simp),I.hok.kept hk,?_⟩
   ·have hy': ∃ kd,scope.names.lookup y=some kd/\(kd=.cell\/kd=.free):=by
     rcases hy with z | z
     ·exact ⟨_,z,.inl rfl⟩
     ·exact ⟨_,z,.inr rfl⟩
    obtain ⟨kd,hl,hkd⟩:=hy'
    have hmem:=L2.mem_of_lookup hl
    rcases hkd with z | z
    ·exact absurd z (S.nocell _ hmem)
    ·obtain ⟨j,hj⟩:=List.mem_iff_getElem?.mp (S.has _ hmem z)
     obtain ⟨c,_,_,_,e,_⟩:=hcap j y hj
     exact ⟨c,e⟩
   ·have h1':(ps++ys)[i]? =some y:=h1
    by_cases hi:i<ps.length
    ·rw [List.getElem?_append_left hi]at h1'
     rw [List.getElem?_append_left (by rw [List.length_map,hlv];exact hi),List.getElem?_map]at h2
     cases hv:vs[i]? with
     | none=>rw [hv]at h2;cases h2
     | some v0=>
      rw [hv]at h2
      cases h2
      obtain ⟨u,hu,ru⟩:=r.get hv
      refine ⟨u,ru,.inl ⟨S.par y (List.mem_of_getElem? h1'),iu (List.nodup_append.mp S.nd).1 h1' hu⟩⟩
    ·rw [List.getElem?_append_right (by lia)]at h1'
     rw [List.getElem?_append_right (by rw [List.length_map,hlv];lia),List.getElem?_map,List.length_map,hlv]at h2
     obtain ⟨c,v0,u,e1,e2,e3,e4⟩:=hcap _ y h1'
     rw [e1]at h2
     cases h2
     obtain ⟨o,ho,hd⟩:=e3
     exact ⟨u,e4,.inr ⟨.inr (S.fre y (List.mem_of_getElem? h1')),c,e2,o,hk _ _ (I.bk _ _ ho),hd⟩⟩
   ·show (vs.map some++cs.map some).length=(ps++ys).length
    rw [List.length_append,List.length_append,List.length_map,List.length_map,hlv,hcs]
  refine wpAny_mono (hPE [] _ _ H Q IY ht) (fun u s' ⟨v,H',J,rv,q⟩=>⟨v,H',J.os,J.bare,J.base,J.hok,rv,q⟩) fun _ _ z=>z.elim
 ·cases rr with
  | error e=>exact hq'.elim
  | ok f0=>
   cases f0 with
   | ret u=>exact I.after hq'
   | next=>exact False.elim hq'
   | brk=>exact False.elim hq'
   | cont=>exact False.elim hq'
section
variable {X:Cx} {pins:List (Addr×Obj)} {σ:St} {H:Hp} {s:Shared}
noncomputable def et (X:Cx) (H:Hp) (s:Shared):Heap:=PySem.W.hideAll s.heap (trk s.heap H++frs X.stack)
theorem fN {b:Addr} {o:Obj} (e:s.heap.get? b=some o) (n:H b=none) (nf:b∉frs X.stack):(et X H s).get? b=some o:=
 PySem.W.hideAll_get _ e fun hm=>by
  rcases List.mem_append.mp hm with z | z
  ·have q:(H b).isSome=true:=(List.mem_filter.mp z).2
   rw [n]at q;simp at q
  ·exact nf z
theorem qI {b:Addr} {o:Obj} (e:(et X H s).get? b=some o):s.heap.get? b=some o/\H b=none:=by
 have e1:=PySem.W.of_hideAll _ e
 refine ⟨e1,?_⟩
 cases q:H b with
 | none=>rfl
 | some u=>
  have hm:b∈trk s.heap H++frs X.stack:=List.mem_append_left _ (List.mem_filter.mpr ⟨List.mem_range.mpr (Heap.lt_size e1),by rw [q];rfl⟩)
  rw [show (et X H s).get? b=none from PySem.W.hideAll_none _ hm]at e
  cases e
theorem pH {h b1 b2:Heap}: ∀ {l:List Env},h.FunFrames b1 l->(∀ b∈frs l,b2.get? b=none)->h.FunFrames b2 l
 | [],_,_=>trivial
 | env::r,⟨hk,⟨L,o,hf,_,ho,hd⟩,hr⟩,hn=>by
  have hL:L∈frs (env::r):=by unfold frs;rw [List.filterMap_cons,hf];exact List.mem_cons_self
  exact ⟨hk,⟨L,o,hf,hn L hL,ho,hd⟩,pH hr fun b hb=>hn b (by unfold frs;rw [List.filterMap_cons,hf];exact List.mem_cons_of_mem _ hb)⟩
theorem Inv.nostk (I:Inv X pins σ H s) {b:Addr} {o:Obj} (e:X.base.get? b=some o):b∉frs X.stack:=fun hb=>by
 have:=(I.stack.mem hb).1
 rw [e]at this
 cases this
theorem Inv.inB (I:Inv X pins σ H s): ∀ b o,X.base.get? b=some o->(et X H s).get? b=some o:=fun b o e=>fN (I.bs b o e).1 (I.bs b o e).2 (I.nostk e)
theorem Inv.envB (I:Inv X pins σ H s):um X.prog X.w X.K X.mg (et X H s) X.A X.stack s H:=
 ⟨I.ok.frames,⟨I.mod.kin.keeps I.inB,I.mod.glob.keeps I.inB,let ⟨mb,h1,h2⟩:=I.mod.blt;⟨mb,h1.keeps I.inB,h2⟩,I.mod.nolimit.keeps I.inB⟩,fun b o e=>qI e,Nat.le_of_eq (PySem.W.hideAll_size _ _),
  pH I.stack fun b hb=>PySem.W.hideAll_none _ (List.mem_append_right _ hb),I.stkFree,I.hok,I.bare⟩
theorem uH {k:Nat} {f:Addr} {fd:FuncData} {ps:List Str} {sp:Sp} {Q:VK} {us:List Value} {vs:List V} (F:ar X.prog X.w X.K X.mg (et X H s) CX0 k f fd ps sp) (hr:Room k X.A) (hb:Binds X.K fd ps [])
  (I:Inv X pins σ H s) (r:Vals vs us) (h:sp vs H Q E0):wpAny (model X.prog X.w) X.A (call (.ref f) us) (EP X pins σ Q) X.xe s:=by
 have hl:(us++[]).length=ps.length:=by rw [List.append_nil,<- r.length];exact F.len _ _ _ _ h
 have hbd:=hb s us I.kIn hl
 rw [List.append_nil]at hbd
 refine wpAny_call (codeAny_mono (F.run X.A X.stack s H ⟨us,[]⟩ us vs Q E0 hr I.envB hbd r h) fun rr s' hq=>?_)
 cases rr with
 | error e=>exact hq.elim
 | ok f0=>
  cases f0 with
  | ret u=>exact I.after hq
  | next=>exact False.elim hq
  | brk=>exact False.elim hq
  | cont=>exact False.elim hq
end
noncomputable def pS (base:Heap) (cl:List (Str×Addr)) (ys:List Str) (cs:List V) (fl c':Addr) (nm qual:Str) (params:Arguments) (body:Expr) (scope:Scope):Prop:=
 (∃ pm ctv,base.get? fl=some (PySem.W.kla_obj nm qual params body scope cl pm c' ctv))/\(∀ x c,cl.lookup x=some c-> ∃ v,base.IsCell c v)/\(∀ x y c,cl.lookup x=some c->cl.lookup y=some c->x=y)/\
 (∀ (j:Nat) (y:Str),ys[j]? =some y-> ∃ c v u,cs[j]? =some v/\cl.lookup y=some c/\base.IsCell c (some u)/\RelV v u)/\cs.length=ys.length
structure oI (sc0:Scope) (N:List Str) (scope:Scope) (ys:List Str) (fr:List Nat):Prop where
 free: ∀ y∈scope.names,y.2=.free->sc0.names.lookup y.1=some .cell
 len:ys.length=fr.length
 sl: ∀ q∈ys.zip fr,N[q.2]? =some q.1/\sc0.names.lookup q.1=some .cell/\(q.1,NameKind.free)∈scope.names
noncomputable def fA (c':Addr) (oc:Obj):HO:=.ext fun h=>h.get? c'=some oc
noncomputable def ir (oc:Obj) (qual:Str):Prop:= ∃ vc tq,oc.data=.fields vc/\vc[1]? =some (.str qual tq)
noncomputable def rJ (qual:Str) (cl:List (Str×Addr)) (Pt:Addr) (lpos:Pos) (scope:Scope) (params:Arguments) (body:Expr) (ys:List Str) (fr:List Nat) (spF:Heap->Sp) (te:TE):TE:=fun σ H Q=>te σ H fun v H1=>
 ∃ (ps:Array Value) (cs:List V),H1 Pt=some (.tbl ps)/\TriplesOk ps.toList/\bJ fr σ=cs.map some/\
  ((codeAmong lpos ps.toList=none/\ ∀ fl c' oc base,H1 c'=none->c'≠Pt->ir oc qual->pS base cl ys cs fl c' "<lambda>" qual params body scope->
    spF base [v,.ref fl] (upd (upd H1 Pt (.tbl (ps++ #[rawInt lpos.line,rawInt lpos.col,.ref c']))) c' (fA c' oc)) Q E0)\/
   ∃ c' oc,codeAmong lpos ps.toList=some (.ref c')/\H1 c'=some (fA c' oc)/\ir oc qual/\ ∀ fl base,pS base cl ys cs fl c' "<lambda>" qual params body scope->spF base [v,.ref fl] H1 Q E0)
section
variable {X:Cx} {pins:List (Addr×Obj)} {σ:St} {H:Hp} {s:Shared}
theorem tL {ys:List Str} {fr:List Nat} {cs:List V} {scope:Scope} {fl c':Addr} {nm qual:Str} {params:Arguments} {body:Expr} {pm ctv:Value} (I:Inv X pins σ H s) (ok:oI X.env.scope X.N scope ys fr) (hcs:bJ fr σ=cs.map some)
  (hfl:s.heap.get? fl=some (PySem.W.kla_obj nm qual params body scope (cb X.env.cells scope.names) pm c' ctv)) (nfl:H fl=none) (nof1:fl∉frs X.stack) (hfn: ∀ x,X.fn x=true):
  pS (et X H s) (cb X.env.cells scope.names) ys cs fl c' nm qual params body scope:=by
 have nocell: ∀ {x:Str} {c:Addr},X.env.cells.lookup x=some c->c∉frs X.stack:=fun {x c} e hm=>by
  rcases List.mem_cons.mp (I.stkSub c hm)with z | z
  ·exact I.cne x c e z
  ·obtain ⟨_,o,ho,_⟩:=I.ok.funs.mem z
   exact absurd (Nat.lt_of_lt_of_le (Heap.lt_size ho) (I.ok.cab x c (hfn x) e)) (Nat.lt_irrefl _)
 have cellB: ∀ x c v,X.env.cells.lookup x=some c->s.heap.IsCell c v->(et X H s).IsCell c v:=fun x c v e hc=>by
  have nf:=nocell e
  obtain ⟨o,ho,hd⟩:=hc
  exact ⟨o,fN ho (I.freeC x c e) nf,hd⟩
 refine ⟨⟨pm,ctv,fN hfl nfl nof1⟩,fun x c e=>?_,fun x y c e1 e2=>I.ok.inj x y c (bX e1) (bX e2),fun j y hj=>?_,?_⟩
 ·have e':=bX e
  obtain ⟨v,hv⟩:=I.cell x c e'
  exact ⟨v,cellB x c v e' hv⟩
 ·have hjl:j<fr.length:=by rw [<- ok.len];exact (List.getElem?_eq_some_iff.mp hj).1
  have hi0:fr[j]? =some fr[j]:=List.getElem?_eq_getElem hjl
  have hz:(y,fr[j])∈ys.zip fr:=List.mem_iff_getElem?.mpr ⟨j,by rw [List.getElem?_zip_eq_some];exact ⟨hj,hi0⟩⟩
  obtain ⟨hn,hk,hm⟩:=ok.sl _ hz
  have hc0:(bJ fr σ)[j]? =some ((σ[fr[j]]?).join):=by unfold bJ;rw [List.getElem?_map,hi0];rfl
  rw [hcs,List.getElem?_map]at hc0
  cases hcj:cs[j]? with
  | none=>rw [hcj]at hc0;cases hc0
  | some v=>
   rw [hcj]at hc0
   have hσ:σ[fr[j]]? =some (some v):=by
    cases e:σ[fr[j]]? with
    | none=>rw [e]at hc0;cases hc0
    | some o=>rw [e]at hc0;rw [show o=some v from (Option.some.inj hc0).symm]
   obtain ⟨m,_,hl⟩:=I.loc
   obtain ⟨u,ru,lk⟩:=hl _ y v hn hσ (.inr (.inl hk))
   rcases lk with ⟨a,_⟩ | ⟨_,c,hc,hcell⟩
   ·have a':X.env.scope.names.lookup y=some .local:=a
    rw [show X.env.scope.names.lookup y=some .cell from hk]at a'
    cases a'
   ·exact ⟨c,v,u,rfl,cI hc hm,cellB y c _ hc hcell,ru⟩
 ·have:=congrArg List.length hcs
  unfold bJ at this
  rw [List.length_map,List.length_map]at this
  rw [ok.len]
  exact this.symm
theorem nR {k:Nat} {f c Pt:Addr} {fd:FuncData} {p1 p2 x:Str} {spF:Heap->Sp} {e body:Expr} {te:TE} {params:Arguments} {scope:Scope} {lpos p pos:Pos} {ys:List Str} {fr:List Nat}
  (F: ∀ base,ar X.prog X.w X.K X.mg base CX0 k f fd [p1,p2] (spF base)) (hr:Room k X.A) (hg:Gl X x) (hm:X.mg x=some (.ref f)) (hk:PySem.W.keepIn X.K (.ref f)=true) (hb:Binds X.K fd [p1,p2] [])
  (he:PE X e te) (hC:PySem.W.CodeHd X.base c Pt) (hcode:X.env.code=.ref c) (hB:X.base.BuiltinsAt X.mg Pt) (ok:oI X.env.scope X.N scope ys fr) (hfn: ∀ x,X.fn x=true) (hdef:defaultsOf params X.env=([],[]))
  (hdb:(x==("__debug__":Str))=false:=by decide) (hs:starEach [e,.Lambda params body scope lpos] X.env=(false,eval e X.env)::starEach [.Lambda params body scope lpos] X.env:=by rfl)
  (hs2:starEach [.Lambda params body scope lpos] X.env=(false,eval (.Lambda params body scope lpos) X.env)::starEach [] X.env:=by rfl) (hpl:(backTo pos (starEach [.Lambda params body scope lpos] X.env)).any (·.1)=false:=by rfl):
  PE X (.Call (.Name x p) [e,.Lambda params body scope lpos] [] pos) (rJ (X.env.qual++"<lambda>") (cb X.env.cells scope.names) Pt lpos scope params body ys fr spF te):=by
 intro pins s σ H Q I h
 refine wpAny_Call_Name_kw (ll I hg hm ?_ hdb)
 refine PySem.W.callWith_K (h₀:=X.base) I.ok.mod.kin hk ?_ hs hpl
 rw [hs]
 show wpAny _ _ (spliced ((false,eval e X.env)::backTo pos (starEach [.Lambda params body scope lpos] X.env))) _ _ s
 refine Calls.spliced_cons (thn (he pins s σ H _ I h) fun u s1 ⟨v,H1,I1,r1,ps,cs,hP,ht,hcs,q⟩=>?_)
 rw [hs2]
 show wpAny _ _ (spliced ((false,eval (.Lambda params body scope lpos) X.env)::backTo pos (starEach [] X.env))) _ _ s1
 have hcl:closureFor scope X.env=pure (cb X.env.cells scope.names):=cU fun y hy z=>I.ok.has y.1 (.inl (ok.free y hy z))
 have hPs:s1.heap.get? Pt=some (PySem.W.tabObj ps):=(show ObjOk X.prog X.w H1 s1.heap Pt (.tbl ps)from I1.hok Pt _ hP)
 have nP: ∀ {b:Addr},H1 b=none->b≠Pt:=fun hn z=>by rw [z,hP]at hn;cases hn
 have hgP:mainGlobals≠Pt:=by
  obtain ⟨o,es,ep,ho,_⟩:=I1.mod.glob
  exact nP (I1.bs _ _ ho).2
 have hB1:s1.heap.BuiltinsAt X.mg Pt:=by
  obtain ⟨bm,o,b1,b2,b3,b4,b5,b6⟩:=hB
  exact ⟨bm,o,b1,b2,b3,b4,I1.bk _ _ b5,b6⟩
 have fin: ∀ {fl:Addr} {s2:Shared} {H2:Hp} (I2:Inv X pins σ H2 s2),spF (et X H2 s2) [v,.ref fl] H2 Q E0->X.K.In s2.heap/\wpAny (model X.prog X.w) X.A (call (.ref f) ([]++[u,.ref fl])) (EP X pins σ Q) X.xe s2:=fun {fl s2 H2} I2 hq=>
  ⟨I2.kIn,uH (vs:=[v,.ref fl]) (F _) hr hb I2 (.cons r1 (.cons (show RelV (.ref fl) (.ref fl)from rfl) .nil)) hq⟩
 refine Calls.spliced_cons (PySem.W.kla_eval hdef ?_)
 rcases q with ⟨hnf,q⟩ | ⟨c',oc,hf,hc',hoc,q⟩
 ·refine PySem.W.kla_makeFunction (mg:=X.mg) hcl I1.ok.glob (I1.mod.glob.keeps I1.bk) hcode (hC.keeps I1.bk) hPs ht hnf hgP hB1 fun c' ctv h' tk hx hge hlt hrec htb=>?_
  obtain ⟨c2,oc,vc,tq,e2,hoc,hd,hq1⟩:=hrec
  cases e2
  have nc:H1 c'=none:=I1.hok.fresh hge
  have ncP:c'≠Pt:=fun z=>by rw [z,hP]at nc;cases nc
  have old: ∀ b o,b≠Pt->s1.heap.get? b=some o->(h'.push (PySem.W.kla_obj "<lambda>" (X.env.qual++"<lambda>") params body scope (cb X.env.cells scope.names) ((X.mg "__name__").getD .none) c' ctv)).get? b=some o:=fun b o hb eo=>Heap.get?_push_of_some _ (hx b o hb eo)
  have lt: ∀ {b:Addr} {o:Obj},s1.heap.get? b=some o->b≠c':=fun eo z=>absurd (Heap.lt_size eo) (by rw [z];exact Nat.not_lt.mpr hge)
  have I2:Inv X pins σ (upd (upd H1 Pt (.tbl (ps++ #[rawInt lpos.line,rawInt lpos.col,.ref c']))) c' (fA c' oc)) {s1 with heap:=h'.push (PySem.W.kla_obj "<lambda>" (X.env.qual++"<lambda>") params body scope (cb X.env.cells scope.names) ((X.mg "__name__").getD .none) c' ctv),toks:=tk}:=by
   have up: ∀ {b:Addr} {oo:HO},H1 b=some oo->b≠Pt->(upd (upd H1 Pt (.tbl (ps++ #[rawInt lpos.line,rawInt lpos.col,.ref c']))) c' (fA c' oc)) b=some oo:=fun eo hb=>by rw [ah (af eo nc),ah hb];exact eo
   have nt: ∀ {b:Addr} {oo:HO},H1 b=some oo->oo≠ .tbl ps->b≠Pt:=fun eo hne z=>by rw [z,hP]at eo;exact hne (Option.some.inj eo).symm
   refine I1.step (g':=s1.gens) (d':=s1.drawn) (ch:=[]) (fun b hb=>by cases hb) (fun b o _ _ _ eo n=>old b o (nP n) eo) (fun b o _ _ _ eo n=>⟨o.slots,old b o (nP n) eo⟩) (fun b o _ eo n=>by rw [ah (lt eo),ah (nP n)];exact n)
    (fun b o _ eo=>?_) (fun b xs eo=>up eo (nt eo (by simp))) (fun b o uo eo=>up eo (nt eo (by simp))) (fun b qs eo=>?_) (fun m hm=>?_) (fun b oo eo=>?_) I1.bare
   ·by_cases hb:b=Pt
    ·subst hb;exact ⟨_,Heap.get?_push_of_some _ htb⟩
    ·exact ⟨o,old b o hb eo⟩
   ·by_cases hb:b=Pt
    ·subst hb
     rw [hP]at eo
     cases eo
     exact ⟨_,by rw [ah (Ne.symm ncP),ab]⟩
    ·exact ⟨#[],by rw [up eo hb];simp⟩
   ·obtain ⟨o,es,ep,ho,r⟩:=hm
    exact ⟨o,es,ep,old _ o (nP I1.free) ho,r⟩
   ·by_cases hb:b=c'
    ·subst hb
     rw [ab]at eo
     cases eo
     exact ⟨Heap.get?_push_of_some _ hoc,⟨oc,Heap.get?_push_of_some _ hoc⟩,fun h1 h2 a1 a2=>a2 _ a1⟩
    ·rw [ah hb]at eo
     by_cases hbP:b=Pt
     ·subst hbP
      rw [ab]at eo
      cases eo
      exact Heap.get?_push_of_some _ htb
     ·rw [ah hbP]at eo
      refine (I1.hok b oo eo).stay (fun d' vo hd' q'=>old d' vo ?_ q') (fun d' q'=>up q' (nt q' (by simp))) fun d' xs q'=>up q' (nt q' (by simp))
      rcases hd' with z | z
      ·rw [z];exact hbP
      ·exact nt z (by simp)
  have nfl:(upd (upd H1 Pt (.tbl (ps++ #[rawInt lpos.line,rawInt lpos.col,.ref c']))) c' (fA c' oc)) h'.objs.size=none:=by
   have a1:h'.objs.size≠c':=Nat.ne_of_gt hlt
   have a2:h'.objs.size≠Pt:=Nat.ne_of_gt (Heap.lt_size htb)
   rw [ah a1,ah a2]
   exact I1.hok.fresh (Nat.le_trans hge (Nat.le_of_lt hlt))
  have nff:h'.objs.size∉frs X.stack:=fun hmm=>by
   obtain ⟨_,o,ho,_⟩:=I1.stack.mem hmm
   exact absurd (Heap.lt_size ho) (Nat.not_lt.mpr (Nat.le_trans hge (Nat.le_of_lt hlt)))
  have L:=tL I2 ok hcs (Heap.get?_push_size _ rfl) nfl nff hfn
  exact Calls.spliced_nil (fin I2 (q _ c' oc _ nc ncP ⟨vc,tq,hd,hq1⟩ L))
 ·refine PySem.W.kla_makeFunctionHit (mg:=X.mg) hcl I1.ok.glob (I1.mod.glob.keeps I1.bk) hcode (hC.keeps I1.bk) hPs ht hf hB1 fun ctv h' tk hkp hsz=>?_
  have I2:Inv X pins σ H1 {s1 with heap:=h'.push {cls:=.type "function",data:=.func (PySem.W.kla_fn "<lambda>" (X.env.qual++"<lambda>") params body scope (cb X.env.cells scope.names) ((X.mg "__name__").getD .none) (.ref c') ctv)},toks:=tk}:=
   I1.kept fun b o eo=>Heap.get?_push_of_some _ (hkp b o eo)
  have nff:h'.objs.size∉frs X.stack:=fun hmm=>by
   obtain ⟨_,o,ho,_⟩:=I1.stack.mem hmm
   exact absurd (Heap.lt_size ho) (Nat.not_lt.mpr hsz)
  have L:=tL (c':=c') I2 ok hcs (Heap.get?_push_size _ rfl) (I1.hok.fresh hsz) nff hfn
  exact Calls.spliced_nil (fin I2 (q _ _ L))
end
noncomputable def uk (h:Heap) (mg:Str->Option Value) (nm:Str) (c Pt:Addr):Prop:=(∃ a o fd,mg nm=some (.ref a)/\h.get? a=some o/\o.data=.func fd/\fd.code=.ref c)/\PySem.W.CodeHd h c Pt
theorem qP {P:Program} {w:World} {K:PySem.W.Frag} {mg mb:Str->Option Value} {k:Nat} {fa a c Pt:Addr} {fd:FuncData} {x nm:Str} {sp:Sp} {s₁:Shared} {vs:List Value} {ns:List Int}
  (KX:K.In s₁.heap) (hns:s₁.heap.Ns mainGlobals mg) (hb:s₁.heap.Ns builtinsNs mb) (hbb: ∀ x:Str,x≠"__name__"->mb x=bootBuiltins x) (hlim:s₁.heap.NoLimit) (hg:s₁.gens= #[])
  (ha:s₁.heap.get? a=some {cls:=.type "list",data:=.seq vs.toArray}) (hi:IntsAre vs ns) (hl:ns.length<=sizeLine) (hr:Room k callerA)
  (hC:PySem.W.CodeHd s₁.heap c Pt) (hP:s₁.heap.get? Pt=some (PySem.W.tabObj #[])) (hB:s₁.heap.BuiltinsAt mg Pt) (hKt:K.lookup Pt=none)
  (F: ∀ base:Heap,K.In base->base.Ns mainGlobals mg->PySem.W.CodeHd base c Pt->base.BuiltinsAt mg Pt->ar P w K mg base CX0 k fa fd [x] sp) (hbind: ∀ (s:Shared) (u:Value),BindsTo s fd ⟨[u],[]⟩ [(x,u)])
  (hsp: ∀ H:Hp,H Pt=some (.tbl #[])->SqL K H a (ns.map V.int)->sp [.ref a] H (fun v _=>v=.bl true) E0):
  codeAny (model P w) callerA (.call (.ref fa) ⟨[.ref a],[]⟩) (fun r s'=>r=.ok (.ret (.bool true))/\OldK s₁.heap s'.heap/\s'.os=s₁.os/\AllBare s'.gens) s₁:=by
 have rv:=jr hi
 have lenV:=hi.length
 have haP:a≠Pt:=fun z=>by rw [z,hP]at ha;cases ha
 have core: ∀ H:Hp,H Pt=some (.tbl #[])->SqL K H a (ns.map V.int)->HOk P w H s₁.heap->(∀ b,H b≠none->b=a\/b=Pt)->(H a≠none->K.lookup a=none)->(∀ u,H a=some u-> ∃ xs,u=.frz {cls:=.type "list",data:=.seq vs.toArray} (.lst xs))->
   codeAny (model P w) callerA (.call (.ref fa) ⟨[.ref a],[]⟩) (fun r s'=>r=.ok (.ret (.bool true))/\OldK s₁.heap s'.heap/\s'.os=s₁.os/\AllBare s'.gens) s₁:=by
  intro H hH hS hok hA hK hfr
  have un0: ∀ {b:Addr} {o:Obj},s₁.heap.get? b=some o->o≠{cls:=.type "list",data:=.seq vs.toArray}->o≠PySem.W.tabObj #[]->H b=none:=fun {b o} e n1 n2=>by
   cases q:H b with
   | none=>rfl
   | some u=>
    rcases hA b (by rw [q];simp)with z | z
    ·subst z;rw [ha]at e;exact absurd (Option.some.inj e).symm n1
    ·subst z;rw [hP]at e;exact absurd (Option.some.inj e).symm n2
  have inB: ∀ {b:Addr} {o:Obj},s₁.heap.get? b=some o->H b=none->(i8 s₁.heap H).get? b=some o:=fun e n=>tS e n
  have dictB: ∀ {b:Addr} {m:Str->Option Value},s₁.heap.Ns b m->(i8 s₁.heap H).Ns b m:=fun {b m} ⟨o,es,ep,e,d,r⟩=>⟨o,es,ep,inB e (un0 e (fun z=>by rw [z]at d;cases d) (fun z=>by rw [z]at d;cases d)),d,r⟩
  have hKb:K.In (i8 s₁.heap H):=fun b o e=>inB (KX b o e) (by
   cases q:H b with
   | none=>rfl
   | some u=>
    rcases hA b (by rw [q];simp)with z | z
    ·subst z;rw [hK (by rw [q];simp)]at e;cases e
    ·subst z;rw [hKt]at e;cases e)
  have hCb:PySem.W.CodeHd (i8 s₁.heap H) c Pt:=by
   obtain ⟨o,vs',file,tf,flags,tg,inF,text,tt,e1,e2,r⟩:=hC
   exact ⟨o,vs',file,tf,flags,tg,inF,text,tt,inB e1 (un0 e1 (fun z=>by rw [z]at e2;exact absurd e2 (by simp)) (fun z=>by rw [z]at e2;exact absurd e2 (by simp))),e2,r⟩
  have hBb:(i8 s₁.heap H).BuiltinsAt mg Pt:=by
   obtain ⟨bm,o,b1,b2,b3,b4,b5,b6,r⟩:=hB
   exact ⟨bm,o,b1,b2,b3,b4,inB b5 (un0 b5 (fun z=>by rw [z]at b6;exact absurd b6 (by simp)) (fun z=>by rw [z]at b6;exact absurd b6 (by simp))),b6,r⟩
  have hM:Mod K mg (i8 s₁.heap H):=⟨hKb,dictB hns,⟨mb,dictB hb,hbb⟩,let ⟨mc,h1,h2⟩:=hlim;⟨mc,dictB h1,h2⟩⟩
  have e0:um P w K mg (i8 s₁.heap H) callerA [] s₁ H:=⟨rfl,hM,fun b o e=>uZ e,Nat.le_of_eq (qT _ _),trivial,fun b hb=>absurd (show b∈([]:List Addr)from hb) (by simp),hok,.of_eq hg⟩
  refine codeAny_mono ((F _ hKb (dictB hns) hCb hBb).run callerA [] s₁ H ⟨[.ref a],[]⟩ [.ref a] [.ref a] _ _ hr e0 (hbind s₁ (.ref a)) (.cons rfl .nil) (hsp H hH hS)) fun r s' h=>?_
  cases r with
  | error e=>exact h.elim
  | ok fl=>
   cases fl with
   | next=>exact False.elim h
   | brk=>exact False.elim h
   | cont=>exact False.elim h
   | ret u=>
    obtain ⟨v,H',os,bare,un,hok',r',q⟩:=h
    have q':v=.bl true:=q
    subst q'
    obtain rfl:u=Value.bool true:=r'
    have tab: ∃ more:Array Value,s'.heap.get? Pt=some (PySem.W.tabObj (#[]++more)):=by
     obtain ⟨more,e⟩:=un.tbls Pt _ hH
     exact ⟨more,(show ObjOk P w H' s'.heap Pt (.tbl (#[]++more))from hok' Pt _ e)⟩
    have old: ∀ b o,b≠Pt->s₁.heap.get? b=some o->s'.heap.get? b=some o:=fun b o hbP e=>by
     cases q:H b with
     | none=>exact un.keep b o e q (by intro z;exact absurd (show b∈([]:List Addr)from z) (by simp)) (by simp)
     | some u=>
      rcases hA b (by rw [q];simp)with z | z
      ·subst z
       obtain ⟨xs,rfl⟩:=hfr u q
       obtain ⟨e1,_⟩:=hok' b _ (un.frzs b _ _ q)
       rw [ha]at e
       rw [<- Option.some.inj e]
       exact e1
      ·exact absurd z hbP
    obtain ⟨more,ht⟩:=tab
    refine ⟨rfl,⟨fun b o e=>?_,fun b o e=>?_⟩,os,bare⟩
    ·by_cases hbP:b=Pt
     ·subst hbP
      rw [hP]at e
      cases e
      obtain ⟨oc,vs',file,tf,flags,tg,inF,text,tt,e1,e2,e3,e4,_⟩:=hC
      exact .inr (.inl ⟨⟨c,oc,vs',e1,e2,e3,e4⟩,rfl,#[],more,rfl,ht⟩)
     ·exact .inl (old b o hbP e)
    ·by_cases hbP:b=Pt
     ·subst hbP;exact ⟨_,ht⟩
     ·exact ⟨o,old b o hbP e⟩
 cases hk:K.lookup a with
 | some o=>
  have e:=KX a o hk
  rw [ha]at e
  cases e
  refine core (fun b=>if b=Pt then some (.tbl #[])else none) (if_pos rfl) (.inr ⟨_,vs.toArray,_,hk,rfl,rfl,rfl,by rw [List.size_toArray,lenV];exact hl,by simpa using rv⟩) (fun b u z=>?_) (fun b z=>?_) (fun z=>absurd (if_neg haP) z) fun u z=>?_
  ·by_cases hb:b=Pt
   ·have z':=(if_pos hb).symm.trans z
    cases z'
    subst hb
    exact hP
   ·have z':=(if_neg hb).symm.trans z
    cases z'
  ·by_cases hb:b=Pt
   ·exact .inr hb
   ·exact absurd (if_neg hb) z
  ·have z':=(if_neg haP).symm.trans z
   cases z'
 | none=>
  have hPa: ¬ Pt=a:=fun z=>haP z.symm
  refine core (fun b=>if b=a then some (.frz {cls:=.type "list",data:=.seq vs.toArray} (.lst (ns.map V.int)))else if b=Pt then some (.tbl #[])else none) (by rw [if_neg hPa,if_pos rfl]) (.inl (.inr ⟨{cls:=.type "list",data:=.seq vs.toArray},if_pos rfl⟩)) (fun b u z=>?_) (fun b z=>?_) (fun _=>hk) fun u z=>?_
  ·by_cases hb:b=a
   ·have z':=(if_pos hb).symm.trans z
    cases z'
    subst hb
    exact ⟨ha,by rw [List.length_map];exact hl,vs,_,rv,ha⟩
   ·have z':=(if_neg hb).symm.trans z
    by_cases hb2:b=Pt
    ·have z2:=(if_pos hb2).symm.trans z'
     cases z2
     subst hb2
     exact hP
    ·have z2:=(if_neg hb2).symm.trans z'
     cases z2
  ·by_cases hb:b=a
   ·exact .inl hb
   ·by_cases hb2:b=Pt
    ·exact .inr hb2
    ·exact absurd (by rw [if_neg hb,if_neg hb2]) z
  ·have z':=(if_pos rfl).symm.trans z
   cases z'
   exact ⟨_,rfl⟩
theorem walk_ofT {l:PySem.W.OpenLaw} {n k:Nat} {q:Program} {loose:List Str} {XP:(Str->Option Value)->Heap->Prop} {YP:World->Heap->Prop} {d:DefRec} {K:Params->PySem.W.Frag} {sp:World->Addr->Sp} {x nm:Str}
  (hn:l.most=some n) (hn2:n<=sizeLine) (hdf:d.params.defaults=[]) (hr:Room k callerA) (hY: ∀ (w:World) (h:Heap),YP w h->(K w.params).In h) (hrec: ∃ e∈recsOf q,e.name=nm) (hKt: ∀ w:World,PySem.W.noTabs (K w.params)=true)
  (F: ∀ (w:World) (mg:Str->Option Value) (fa c Pt:Addr) (h:Heap),(K w.params).In h->h.Ns mainGlobals mg->mg d.name=some (.ref fa)->uk h mg nm c Pt->
   ∃ fd:FuncData,(∀ (s:Shared) (u:Value),BindsTo s fd ⟨[u],[]⟩ [(x,u)])/\ ∀ base:Heap,(K w.params).In base->base.Ns mainGlobals mg->PySem.W.CodeHd base c Pt->base.BuiltinsAt mg Pt->ar l.prog w (K w.params) mg base CX0 k fa fd [x] (sp w Pt))
  (hsp: ∀ (w:World) (Pt:Addr) (H:Hp) (a:Addr) (ns:List Int),ns.length<=n->H Pt=some (.tbl #[])->SqL (K w.params) H a (ns.map V.int)->sp w Pt [.ref a] H (fun v _=>v=.bl true) E0):
  PySem.W.WalkO q loose XP YP l.row.toRowW d [] (fun f vs=>PySem.call f vs):=by
 refine Att.attach_call hn hdf fun w s₀ s₁ mg mb fa o pm cd doc a vs ns G Y ho hd hcd hmg hobj hints hlen hg=>?_
 have KX:=hY w _ Y
 obtain ⟨e,he,rfl⟩:=hrec
 obtain ⟨a1,o1,fd1,c,Pt,t1,t2,t3,t4,t5,t6⟩:=G.T.tab e he
 have hC:=PySem.W.CodeHd.of t5 t6
 obtain ⟨fd,hb,hF⟩:=F w mg fa c Pt _ KX G.T.g hmg ⟨⟨a1,o1,fd1,t1,t2,t3,t4⟩,hC⟩
 obtain ⟨bm,ob,b1,b2,b3,b4,b5,b6⟩:=G.T.bmain
 have hP:s₁.heap.get? Pt=some (PySem.W.tabObj #[]):=t6.2
 have n1:bm≠mainGlobals:=fun z=>by
  obtain ⟨og,es,ep,e1,e2,_⟩:=G.T.g
  rw [z,e1]at b3
  cases b3
  rw [e2]at b6
  cases b6
 have n2:bm≠Pt:=fun z=>by
  rw [z,hP]at b3
  cases b3
  cases b4
 have hB:s₁.heap.BuiltinsAt mg Pt:=⟨bm,ob,b1,b2,n1,n2,b3,b4,b5,b6⟩
 have hKn:(K w.params).lookup Pt=none:=by
  cases q':(K w.params).lookup Pt with
  | none=>rfl
  | some ok=>
   have e1:=KX _ _ q'
   rw [hP]at e1
   have e2:=Option.some.inj e1
   have h2:=List.all_eq_true.mp (hKt w) (Pt,ok) (PySem.W.mem_of_lookupK q')
   subst e2
   exact absurd (show false=true from h2) Bool.false_ne_true
 exact qP (nm:=e.name) KX G.T.g G.T.b G.T.builtins G.T.nolimit hg hobj hints (Nat.le_trans hlen hn2) hr hC hP hB hKn hF hb fun H h1 h2=>hsp w Pt H a ns hlen h1 h2
theorem Fun.okC {P:Program} {w:World} {K:PySem.W.Frag} {mg:Str->Option Value} {base:Heap} {x qual:Str} {st:Stmt} {f:Addr} {fd:FuncData} {N ps:List Str} {k:Nat} {sp:Sp} (F:Fun K x qual st f fd) (S:ay N ps (ak st)) (len: ∀ vs H Q E,sp vs H Q E->vs.length=ps.length)
  (hbody: ∀ (A:Around) (outer:List Env) (s:Shared) (H:Hp) (vs:List V) (Q:VK) (E:XK),Room k (A.deeper (envOfC qual (ak st) s.heap.objs.size f fd.code))->sp vs H Q E->
   ∃ t,PSs (eU CX0 P w K mg base N qual (ak st) f fd.code A outer s H E).nox (cp st) t/\t {nx:=fun _ H'=>Q .non H',rt:=Q} (start N vs) H):ar P w K mg base CX0 (k+1) f fd ps sp:=by
 obtain ⟨oc,od,kV,doc,pm,an,cdv,ct,osl,rfl,lk,hcd⟩:=F.ex
 refine vI lk hcd S len fun A outer s H vs Q E hr hsp=>?_
 obtain ⟨t,h,q⟩:=hbody A outer s H vs Q E hr hsp
 exact ⟨t,h.nox,q⟩
end L2
namespace My
open PySem L2
noncomputable def dM:Fm->List Fm
 | .bin _ a b=>[a,b]
 | .whn a b c=>[a,b,c]
 | _=>[]
noncomputable def hdW:Fm->Str
 | .num _=>"num"
 | .own _=>"own"
 | .part _ _=>"part"
 | .bin op _ _=>op
 | .whn _ _ _=>"when"
noncomputable def szK:List Fm->Nat
 | []=>0
 | f::r=>f.size+szK r
theorem iD: ∀ a b:List Fm,szK (a++b)=szK a+szK b
 | [],b=>(Nat.zero_add _).symm
 | f::r,b=>by
  show f.size+szK (r++b)=f.size+szK r+szK b
  rw [iD r b,Nat.add_assoc]
theorem j9: ∀ l:List Fm,l.length<=szK l
 | []=>Nat.le_refl _
 | f::r=>by
  have:=j9 r
  have:=f.size_pos
  show r.length+1<=f.size+szK r
  lia
theorem jE: ∀ f:Fm,f.size=szK (dM f) +1
 | .num _=>rfl
 | .own _=>rfl
 | .part _ _=>rfl
 | .bin _ a b=>by show a.size+b.size+1=a.size+ (b.size+0) +1;lia
 | .whn a b c=>by show a.size+b.size+c.size+1=a.size+ (b.size+ (c.size+0)) +1;lia
theorem vj: ∀ f:Fm,f.wf-> ∀ g∈dM f,g.wf
 | .num _,_,g,h=>by cases h
 | .own _,_,g,h=>by cases h
 | .part _ _,_,g,h=>by cases h
 | .bin op a b,hw,g,h=>by
  obtain ⟨_,h1,h2⟩:op∈ops/\a.wf/\b.wf:=hw
  rcases List.mem_cons.mp h with rfl | h
  ·exact h1
  rcases List.mem_cons.mp h with rfl | h
  ·exact h2
  ·cases h
 | .whn a b c,hw,g,h=>by
  obtain ⟨h1,h2,h3⟩:a.wf/\b.wf/\c.wf:=hw
  rcases List.mem_cons.mp h with rfl | h
  ·exact h1
  rcases List.mem_cons.mp h with rfl | h
  ·exact h2
  rcases List.mem_cons.mp h with rfl | h
  ·exact h3
  ·cases h
noncomputable def nxF:List Fm->List Fm
 | []=>[]
 | g::r=>dM g++r
noncomputable def stF (fs:List Fm):Nat->List Fm
 | 0=>fs
 | i+1=>nxF (stF fs i)
theorem ny (fs:List Fm): ∀ i,stF fs (i+1)=stF (nxF fs) i
 | 0=>rfl
 | i+1=>by
  show nxF (stF fs (i+1))=nxF (stF (nxF fs) i)
  rw [ny fs i]
theorem lY {H:Hp} {f:Fm} {v:V} (h:Rep H f v) (wf:f.wf): ∃ a r,v=.ref a/\H a=some (.tup (.str (hdW f)::r))/\r.length<=3/\(hdW f).length<=1000/\Paired (Rep H) (dM f) (bf (.str (hdW f)::r)):=by
 cases f with
 | num n=>
  obtain ⟨a,e,h⟩:=h
  refine ⟨a,_,e,h,by simp,by show ("num":Str).length<=1000;decide +kernel,?_⟩
  show Paired (Rep H) [] (if (cr "num").isSome=true then [.int n]else [])
  rw [fh]
  exact .nil
 | own x=>
  obtain ⟨a,e,h⟩:=h
  refine ⟨a,_,e,h,by simp,by show ("own":Str).length<=1000;decide +kernel,?_⟩
  show Paired (Rep H) [] (if (cr "own").isSome=true then [.str x]else [])
  rw [dN]
  exact .nil
 | part k x=>
  obtain ⟨a,e,h⟩:=h
  refine ⟨a,_,e,h,by simp,by show ("part":Str).length<=1000;decide +kernel,?_⟩
  show Paired (Rep H) [] (if (cr "part").isSome=true then [.int k,.str x]else [])
  rw [du]
  exact .nil
 | bin op A B=>
  obtain ⟨a,u,w,e,h,rA,rB⟩:=h
  refine ⟨a,_,e,h,by simp,fe wf.1,?_⟩
  show Paired (Rep H) [A,B] (if (cr op).isSome=true then _ else [])
  rw [if_pos (show (cr op).isSome=true by rw [gN wf.1];rfl)]
  exact .cons rA (.cons rB .nil)
 | whn A B C=>
  obtain ⟨a,u,w,z,e,h,rA,rB,rC⟩:=h
  refine ⟨a,_,e,h,by simp,by show ("when":Str).length<=1000;decide +kernel,?_⟩
  show Paired (Rep H) [A,B,C] (if (cr "when").isSome=true then _ else [])
  rw [if_pos (show (cr "when").isSome=true by decide +kernel)]
  exact .cons rA (.cons rB (.cons rC .nil))
theorem iR {α β:Type} {F:α->β->Prop}: ∀ {a c:List α} {b d:List β},Paired F a b->Paired F c d->Paired F (a++c) (b++d)
 | _,_,_,_,.nil,h=>h
 | _,_,_,_,.cons h t,h2=>.cons h (iR t h2)
theorem wY {H:Hp}: ∀ (n:Nat) {fs:List Fm} {ws:List V},szK fs=n->(∀ f∈fs,f.wf)->Paired (Rep H) fs ws->
  ∃ out,Ts H ws out/\out.length=n/\stF fs n=[]/\ ∀ i v,out[i]? =some v-> ∃ g r,stF fs i=g::r/\Rep H g v/\g.wf/\g.size+szK r+i=n:=by
 intro n
 induction n with
 | zero=>
  intro fs ws h hw hP
  cases hP with
  | nil=>exact ⟨[],.nil,rfl,rfl,fun i v e=>by cases i <;> cases e⟩
  | @cons f v fs ws _ _=>
   have h:f.size+szK fs=0:=h
   have:=f.size_pos
   lia
 | succ n ih=>
  intro fs ws h hw hP
  cases hP with
  | nil=>cases h
  | @cons f v fs ws hR hP=>
   have h:f.size+szK fs=n+1:=h
   have wf:=hw f List.mem_cons_self
   have hk:=jE f
   obtain ⟨a,r,rfl,ha,hr,hl,hK⟩:=lY hR wf
   obtain ⟨out,h1,h2,h3,h4⟩:=ih (fs:=dM f++fs) (by rw [iD];lia) (fun g hg=>by
    rcases List.mem_append.mp hg with hg | hg
    ·exact vj f wf g hg
    ·exact hw g (List.mem_cons_of_mem _ hg)) (iR hK hP)
   refine ⟨.ref a::out,.cons ha hl hr h1,by rw [List.length_cons,h2],by rw [ny];exact h3,fun i v e=>?_⟩
   cases i with
   | zero=>
    cases e
    exact ⟨f,fs,rfl,hR,wf,by lia⟩
   | succ i=>
    obtain ⟨g,r',e1,e2,e3,e4⟩:=h4 i v e
    exact ⟨g,r',by rw [ny];exact e1,e2,e3,by lia⟩
theorem oO {C:Fm->Prop} (hC: ∀ g,C g-> ∀ k∈dM g,C k) {fs:List Fm} (h: ∀ f∈fs,C f): ∀ i,∀ f∈stF fs i,C f
 | 0=>h
 | i+1=>fun f hf=>by
  have ih:=oO hC h i
  have hf:f∈nxF (stF fs i):=hf
  cases e:stF fs i with
  | nil=>rw [e]at hf;cases hf
  | cons g r=>
   rw [e]at hf ih
   rcases List.mem_append.mp (show f∈dM g++r from hf)with z | z
   ·exact hC g (ih g List.mem_cons_self) f z
   ·exact ih f (List.mem_cons_of_mem _ z)
noncomputable abbrev vL:List Str:=["formula","tell","pile","one","inner"]
theorem scFold:ay vL ["formula","tell"] (ak ig):=fsc
noncomputable def jC:Sp:=fun vs H Q _=> ∃ bv bk,vs=[bv]/\RepB H bk bv/\ ∀ fa fv,H fa=some (.tup fv)->RepFs H bk.forms fv->Q (.ref fa) H
theorem qe:ay ["book"] ["book"] (ak iQ):=fsc
theorem oh (F:Fun K "forms_of" "forms_of" iQ f fd):ar P w K mg base CX0 1 f fd ["book"] jC:=by
 refine F.ok qe (fun vs H Q E h=>?_) (fun cdv A outer s H vs Q E hr h=>?_)
 ·obtain ⟨bv,bk,rfl,_⟩:=h
  rfl
 obtain ⟨bv,bk,rfl,⟨a,sa,fa,fv,rfl,ha,_,hfa,hF⟩,q⟩:=h
 refine ⟨_,aj (aB (aF aW (pv 0) ai (fun _ _=>rfl))),?_⟩
 exact ⟨_,rfl,a,_,2,_,rfl,rfl,SqT.of ha,a8 (j:=2) rfl,q fa fv hfa hF⟩
noncomputable def jA:Sp:=fun vs H Q _=> ∃ bv bk,vs=[bv]/\RepB H bk bv/\ ∀ sa sv,H sa=some (.tup sv)->RepSs H bk.sorts sv->Q (.ref sa) H
noncomputable def gD:Sp:=fun vs H Q _=> ∃ v fr,vs=[v]/\RepF H fr v/\ ∀ ra rv,H ra=some (.tup rv)->RepRs H fr.rules rv->Q (.ref ra) H
noncomputable def aE (r:Rul):List Key:=[.inl r.pl,.inr r.word]
theorem qc:ay ["book"] ["book"] (ak iK):=fsc
theorem nX (F:Fun K "sorts_of" "sorts_of" iK f fd):ar P w K mg base CX0 1 f fd ["book"] jA:=by
 refine F.ok qc (fun vs H Q E h=>?_) (fun cdv A outer s H vs Q E hr h=>?_)
 ·obtain ⟨bv,bk,rfl,_⟩:=h
  rfl
 obtain ⟨bv,bk,rfl,⟨a,sa,fa,fv,rfl,ha,⟨sx,hsa,hS⟩,_⟩,q⟩:=h
 refine ⟨_,aj (aB (aF aW (pv 0) ai (fun _ _=>rfl))),?_⟩
 exact ⟨_,rfl,a,_,1,_,rfl,rfl,SqT.of ha,a8 (j:=1) rfl,q sa sx hsa hS⟩
theorem qd:ay ["form"] ["form"] (ak iM):=fsc
theorem nY (F:Fun K "rules_of" "rules_of" iM f fd):ar P w K mg base CX0 1 f fd ["form"] gD:=by
 refine F.ok qd (fun vs H Q E h=>?_) (fun cdv A outer s H vs Q E hr h=>?_)
 ·obtain ⟨v,fr,rfl,_⟩:=h
  rfl
 obtain ⟨v,fr,rfl,⟨a,pa,ra,rv,rfl,ha,hpa,hra,hR⟩,q⟩:=h
 refine ⟨_,aj (aB (aF aW (pv 0) ai (fun _ _=>rfl))),?_⟩
 exact ⟨_,rfl,a,_,3,_,rfl,rfl,SqT.of ha,a8 (j:=3) rfl,q ra rv hra hR⟩
noncomputable abbrev wX:List Str:=["form","found","at","word","formula"]
theorem scByKey:ay wX ["form"] (ak nI):=fsc
end My
namespace L2
open PySem PySem.Spec PyProof.Rows
noncomputable def q8 (d:Addr) (o:Obj):It:=
 ⟨fun i H=> ∃ kvs kv,H d=some (.frz o (.dT kvs))/\kvs[i]? =some kv,
  fun i H x H'=>H'=H/\ ∃ b k,x=.ref b/\H b=some (.tup (List.map kV k))/\ ∀ kvs,H d=some (.frz o (.dT kvs))->(kvs.map (·.1))[i]? =some k,
  fun i H=> ∃ kvs,H d=some (.frz o (.dT kvs))/\kvs.length=i⟩
theorem gn {h:Heap} {d:Addr} {xs:List (List Key×Addr×Value)} {ep:Nat} (m:HT.IEs h d (xs.map fun q=>(Value.ref q.2.1,q.2.2)) ep):HT.DEs h d (xs.map fun q=>Value.ref q.2.1) ep:=by
 obtain ⟨o,es,h1,h2,h3,h4⟩:=m
 refine ⟨o,es,h1,h2,h3,?_⟩
 have:=congrArg (List.map Prod.fst) h4
 rw [List.map_map,List.map_map]at this
 exact this
theorem nn {P:Program} {w:World} {K:PySem.W.Frag} {tg:Expr} (it d:Addr) (o:Obj):jq P w K tg (q8 d o) [it] it (fun i h=>h.IsKeyIter it d i (nO o) (epO o)) where
 mem:=by simp
 obj:=fun i h st b hb=>by
  have e:b=it:=by simpa using hb
  subst e
  obtain ⟨o,e,c,d⟩:=st
  exact ⟨o,e,fun v z=>by rw [d]at z;cases z⟩
 keep:=fun i h h' st k=>st.at fun o e=>k it (by simp) o e
 item:=by
  intro X hP hw hK hc i pins s σ H E I hf st hg
  subst hP hw hK
  obtain ⟨kvs,kv,hd,hx⟩:=hg
  obtain ⟨xs,kt,lo,hn,m,_,_⟩:=cX I hd
  obtain ⟨q,hq,hc',rv⟩:=tN kt hx
  obtain ⟨f0,f1,f2,f3,f4,f5⟩:=hf it (by simp)
  rw [hn,<- List.length_map (f:=fun q:List Key×Addr×Value=>Value.ref q.2.1)]at st
  refine HT.next_des st (gn m) (by rw [List.getElem?_map,hq];rfl) fun h' st' sb=>?_
  have I1:Inv X pins σ H {s with heap:=h'}:=I.turned (t':=s.toks) (fun b o hb e=>sb.extBut b o hb e) f0 f1 f3 f4 f5
  obtain ⟨o',e,c,d'⟩:=id st'
  rw [List.length_map,<- hn]at st'
  exact ⟨.ref q.2.1,rfl,jQ (s:={s with heap:=h'}) e c d' (by decide) ⟨.ref q.2.1,H,I1,rfl,⟨rfl,_,kv.1,rfl,hc',fun ys hy=>by rw [hd]at hy;cases hy;rw [List.getElem?_map,hx];rfl⟩,st',fun b hb=>(hf b hb).1⟩⟩
 done:=by
  intro X hP hw hK hc i pins s σ H E I hf st hg
  subst hP hw hK
  obtain ⟨kvs,hd,hl⟩:=hg
  obtain ⟨xs,kt,lo,hn,m,_,_⟩:=cX I hd
  have hle:xs.length=kvs.length:=(Paired.length kt).symm
  obtain ⟨f0,f1,f2,f3,f4,f5⟩:=hf it (by simp)
  rw [hn,<- List.length_map (f:=fun q:List Key×Addr×Value=>Value.ref q.2.1)]at st
  exact HT.end_des (I.ok.hd hc) st (gn m) (by rw [List.length_map];lia) fun h' eb=>⟨rfl,I.turned (t':=s.toks) (fun b o hb e=>eb b o hb e) f0 f1 f3 f4 f5⟩
 self:=fun _ _ _ _ _ st h=>wpAny_pyIter_keyiter st h
theorem iS {X:Cx} {tg:Expr} {o:Expr} {to:TE} (ho:PE X o to):PI X tg o (xH q8 to):=by
 intro pins s σ H R I h
 refine thn (ho pins s σ H _ I h) fun v s1 ⟨x,H1,I1,r1,d,kvs,ex,q1⟩=>?_
 subst ex
 cases r1
 obtain ⟨ob,H2,I2,hd,q⟩:=tV I1 q1
 obtain ⟨xs,kt,lo,hn,m,_,hob⟩:=cX I2 hd
 refine HT.iter_des lo (gn m) ?_
 refine ⟨_,[_],_,_,H2,rfl,I2.kept (t':=s1.toks) fun b o e=>Heap.get?_push_of_some _ e,nn _ d ob,?_,fun b hb=>?_,q⟩
 ·rw [List.length_map,<- hn]
  exact ⟨_,Heap.get?_push_size _ rfl,rfl,rfl⟩
 ·have e:b=s1.heap.objs.size:=by simpa using hb
  have hb':s1.heap.objs.size<=b:=Nat.le_of_eq e.symm
  exact I2.fpOk hb' (I2.hok.fresh hb')
theorem jR {d:Addr} {o:Obj} {kvs:List (List Key×V)} {g:TG} {tb:TS} {D:eV} {σ:St} {H:Hp} (Pv:Nat->St->Hp->Prop) (h0:Pv 0 σ H) (hl: ∀ i σ H,i<=kvs.length->Pv i σ H->H d=some (.frz o (.dT kvs)))
  (step: ∀ i k b σ H,(kvs.map (·.1))[i]? =some k->H b=some (.tup (List.map kV k))->Pv i σ H->g (.ref b) σ H fun σ2 H2=>tb {D with nx:=Pv (i+1),ct:=Pv (i+1),bk:=D.nx} σ2 H2) (fin: ∀ σ H,Pv kvs.length σ H->D.nx σ H):
  ∃ W:Nat->Nat->St->Hp->Prop,(∃ m,W 0 m σ H)/\ ∀ i m σ H,W i m σ H->
   ((q8 d o).stop i H/\D.nx σ H)\/((q8 d o).go i H/\ ∃ N:St->Hp->Prop,(∀ σ' H',N σ' H'-> ∃ m',m'<m/\W (i+1) m' σ' H')/\ ∀ x H',(q8 d o).yld i H x H'->g x σ H' fun σ2 H2=>tb {D with nx:=N,ct:=N,bk:=D.nx} σ2 H2):=by
 refine ⟨fun i m σ H=>m=kvs.length-i/\i<=kvs.length/\Pv i σ H,⟨kvs.length,by simp,Nat.zero_le _,h0⟩,?_⟩
 rintro i m σ H ⟨rfl,hi,p⟩
 have q:=hl i σ H hi p
 by_cases hlt:i<kvs.length
 ·refine .inr ⟨⟨kvs,kvs[i],q,List.getElem?_eq_getElem hlt⟩,Pv (i+1),fun σ' H' p'=>⟨kvs.length- (i+1),by lia,rfl,hlt,p'⟩,fun x H' y=>?_⟩
  obtain ⟨rfl,b,k,rfl,h1,hk⟩:=y
  exact step i k b σ _ (hk kvs q) h1 p
 ·have e:i=kvs.length:=by lia
  subst e
  exact .inl ⟨⟨kvs,q,rfl⟩,fin σ H p⟩
end L2
namespace My
open PySem L2
noncomputable abbrev KK:=List Key
noncomputable abbrev Rds:=List (KK×List KK)
noncomputable def cV (rd:Rds) (k:KK):List KK:=match rd.find? (fun e=>decide (e.1=k))with
 | some e=>e.2
 | none=>[]
noncomputable def rks (rd:Rds):List KK:=rd.map (·.1)
structure RdOk (rd:Rds):Prop where
 nd:(rks rd).Nodup
 rn: ∀ e∈rd,e.2.Nodup
 cl: ∀ e∈rd,∀ o∈e.2,o∈rks rd
theorem eO {rd:Rds} (h:RdOk rd) {e:KK×List KK} (he:e∈rd):cV rd e.1=e.2:=by
 unfold cV
 cases hf:rd.find? (fun x=>decide (x.1=e.1))with
 | none=>exact absurd (decide_eq_true rfl) (List.find?_eq_none.mp hf e he)
 | some e'=>
  have h1:=List.mem_of_find?_eq_some hf
  have h2:e'.1=e.1:=by simpa using List.find?_some hf
  obtain ⟨i,hi⟩:=List.getElem?_of_mem h1
  obtain ⟨j,hj⟩:=List.getElem?_of_mem he
  have q1:(rks rd)[i]? =some e.1:=by unfold rks;rw [List.getElem?_map,hi,<- h2];rfl
  have q2:(rks rd)[j]? =some e.1:=by unfold rks;rw [List.getElem?_map,hj];rfl
  have:=(List.getElem?_inj (List.getElem?_eq_some_iff.mp q1).1 h.nd).mp (q1.trans q2.symm)
  subst this
  rw [hi]at hj
  rw [Option.some.inj hj]
theorem kJ {rd:Rds} {k:KK} (h:k∈rks rd): ∃ e∈rd,e.1=k:=List.mem_map.mp h
theorem RdOk.rnd {rd:Rds} (h:RdOk rd) {k:KK} (hk:k∈rks rd):(cV rd k).Nodup:=by
 obtain ⟨e,he,rfl⟩:=kJ hk
 rw [eO h he]
 exact h.rn e he
noncomputable def cf (rd:Rds) (k:KK):List KK:=(rd.filter fun e=>decide (k∈e.2)).map (·.1)
theorem lZ {rd:Rds} (h:RdOk rd) {k r:KK}:r∈cf rd k↔r∈rks rd/\k∈cV rd r:=by
 unfold cf
 constructor
 ·intro hr
  obtain ⟨e,he,rfl⟩:=List.mem_map.mp hr
  obtain ⟨h1,h2⟩:=List.mem_filter.mp he
  refine ⟨List.mem_map.mpr ⟨e,h1,rfl⟩,?_⟩
  rw [eO h h1]
  exact of_decide_eq_true h2
 ·rintro ⟨h1,h2⟩
  obtain ⟨e,he,rfl⟩:=kJ h1
  rw [eO h he]at h2
  exact List.mem_map.mpr ⟨e,List.mem_filter.mpr ⟨he,decide_eq_true h2⟩,rfl⟩
theorem uL {rd:Rds} (h:RdOk rd) (k:KK):(cf rd k).Nodup:=by
 unfold cf
 exact h.nd.sublist (List.Sublist.map _ List.filter_sublist)
noncomputable def dq (rd:Rds) (dn:List KK) (k:KK):List KK:=(cV rd k).filter fun o=> !decide (o∈dn)
theorem left_nil {rd:Rds} {dn:List KK} {k:KK}:dq rd dn k=[]↔ ∀ o∈cV rd k,o∈dn:=by
 unfold dq
 rw [List.filter_eq_nil_iff]
 exact ⟨fun h o ho=>by have:=h o ho;simpa using this,fun h o ho=>by simpa using h o ho⟩
theorem jo {rd:Rds} {dn:List KK} {k x:KK} (h:x∉cV rd k):dq rd (dn++[x]) k=dq rd dn k:=by
 unfold dq
 refine List.filter_congr fun o ho=>?_
 have:o≠x:=fun e=>h (by rw [<- e];exact ho)
 have e:(o∈dn++[x])↔o∈dn:=by rw [List.mem_append,List.mem_singleton];exact ⟨fun z=>z.elim id (fun z=>absurd z this),.inl⟩
 rw [decide_eq_decide.mpr e]
theorem ot {l:List KK} (nd:l.Nodup) {x:KK} (hx:x∈l) (p q:KK->Bool) (hp:p x=true) (hq:q x=false) (he: ∀ o,o≠x->p o=q o):(l.filter q).length+1=(l.filter p).length:=by
 induction l with
 | nil=>cases hx
 | cons y r ih=>
  obtain ⟨n1,n2⟩:=List.nodup_cons.mp nd
  by_cases c:y=x
  ·subst c
   rw [List.filter_cons_of_pos hp,List.filter_cons_of_neg (by rw [hq];exact Bool.false_ne_true),List.length_cons]
   have:r.filter q=r.filter p:=List.filter_congr fun o ho=>(he o fun e=>n1 (by rw [<- e];exact ho)).symm
   rw [this]
  ·have hx:x∈r:=(List.mem_cons.mp hx).resolve_left (fun e=>c e.symm)
   have ih:=ih n2 hx
   have e:=he y c
   cases hpy:p y with
   | true=>
    rw [List.filter_cons_of_pos hpy,List.filter_cons_of_pos (by rw [<- e];exact hpy),List.length_cons,List.length_cons,ih]
   | false=>
    have hqy:q y=false:=by rw [<- e];exact hpy
    rw [List.filter_cons_of_neg (p:=p) (by rw [hpy];exact Bool.false_ne_true),List.filter_cons_of_neg (p:=q) (by rw [hqy];exact Bool.false_ne_true),ih]
theorem qN {rd:Rds} (hk:RdOk rd) {dn:List KK} {k x:KK} (hr:k∈rks rd) (h:x∈cV rd k) (hn:x∉dn):(dq rd (dn++[x]) k).length+1=(dq rd dn k).length:=by
 unfold dq
 refine ot (hk.rnd hr) h _ _ (by simpa using hn) (by simp) fun o ho=>?_
 have e:(o∈dn++[x])↔o∈dn:=by rw [List.mem_append,List.mem_singleton];exact ⟨fun z=>z.elim id (fun z=>absurd z ho),.inl⟩
 rw [decide_eq_decide.mpr e]
structure OInv (rd:Rds) (c:KK->Int) (ord:List KK) (dn:Nat):Prop where
 le:dn<=ord.length
 nd:ord.Nodup
 sub: ∀ k∈ord,k∈rks rd
 cnt: ∀ k∈rks rd,c k=((dq rd (ord.take dn) k).length:Int)
 mem: ∀ k∈rks rd,(k∈ord↔dq rd (ord.take dn) k=[])
 top: ∀ i k,ord[i]? =some k-> ∀ o∈cV rd k,o∈ord.take i
structure OMid (rd:Rds) (c:KK->Int) (ord:List KK) (dn:Nat) (x:KK) (j:Nat):Prop where
 at_:ord[dn]? =some x
 nd:ord.Nodup
 sub: ∀ k∈ord,k∈rks rd
 cnt: ∀ k∈rks rd,c k=if k∈(cf rd x).take j then ((dq rd (ord.take (dn+1)) k).length:Int)else ((dq rd (ord.take dn) k).length:Int)
 mem: ∀ k∈rks rd,(k∈ord↔(dq rd (ord.take dn) k=[]\/(k∈(cf rd x).take j/\dq rd (ord.take (dn+1)) k=[])))
 top: ∀ i k,ord[i]? =some k-> ∀ o∈cV rd k,o∈ord.take i
noncomputable def upC (c:KK->Int) (k:KK) (n:Int):KK->Int:=fun j=>if j=k then n else c j
theorem aY {α:Type} {l:List α} {n:Nat} {x:α} (h:l[n]? =some x):l.take (n+1)=l.take n++[x]:=by rw [List.take_add_one,h];rfl
theorem OInv.start {rd:Rds} {c:KK->Int} {ord:List KK} {dn:Nat} (h:OInv rd c ord dn) {x:KK} (hx:ord[dn]? =some x):OMid rd c ord dn x 0:=
 ⟨hx,h.nd,h.sub,fun k hk=>by rw [List.take_zero,if_neg (by simp)];exact h.cnt k hk,fun k hk=>by rw [List.take_zero,h.mem k hk];simp,h.top⟩
theorem OMid.not {rd:Rds} {c:KK->Int} {ord:List KK} {dn:Nat} {x:KK} {j:Nat} (h:OMid rd c ord dn x j):x∉ord.take dn:=fun hm=>by
 obtain ⟨i,hi⟩:=List.getElem?_of_mem hm
 have hlt:i<dn:=by
  have:=(List.getElem?_eq_some_iff.mp hi).1
  rw [List.length_take]at this
  lia
 rw [List.getElem?_take,if_pos hlt]at hi
 have:=(List.getElem?_inj (List.getElem?_eq_some_iff.mp hi).1 h.nd).mp (hi.trans h.at_.symm)
 lia
theorem OMid.step {rd:Rds} (hk:RdOk rd) {c:KK->Int} {ord:List KK} {dn:Nat} {x:KK} {j:Nat} (h:OMid rd c ord dn x j) {r:KK} (hr:(cf rd x)[j]? =some r):
  (c r-1=0->OMid rd (upC c r (c r-1)) (ord++[r]) dn x (j+1))/\(c r-1≠0->OMid rd (upC c r (c r-1)) ord dn x (j+1))/\r∈rks rd:=by
 have hrm:=List.mem_of_getElem? hr
 obtain ⟨hrk,hxr⟩:=(lZ hk).mp hrm
 have hnx:=h.not
 have hts:ord.take (dn+1)=ord.take dn++[x]:=aY h.at_
 have hrj:r∉(cf rd x).take j:=fun hm=>by
  obtain ⟨i,hi⟩:=List.getElem?_of_mem hm
  have hlt:i<j:=by
   have:=(List.getElem?_eq_some_iff.mp hi).1
   rw [List.length_take]at this
   lia
  rw [List.getElem?_take,if_pos hlt]at hi
  have:=(List.getElem?_inj (List.getElem?_eq_some_iff.mp hi).1 (uL hk x)).mp (hi.trans hr.symm)
  lia
 have hl:=qN hk hrk hxr hnx
 rw [<- hts]at hl
 have hc:c r-1=((dq rd (ord.take (dn+1)) r).length:Int):=by
  have:=h.cnt r hrk
  rw [if_neg hrj]at this
  lia
 have hjt:(cf rd x).take (j+1)=(cf rd x).take j++[r]:=aY hr
 have hdn:dn+1<=ord.length:=(List.getElem?_eq_some_iff.mp h.at_).1
 have cnt': ∀ (ord':List KK),ord'.take dn=ord.take dn->ord'.take (dn+1)=ord.take (dn+1)-> ∀ k∈rks rd,upC c r (c r-1) k=if k∈(cf rd x).take (j+1)then ((dq rd (ord'.take (dn+1)) k).length:Int)else ((dq rd (ord'.take dn) k).length:Int):=by
  intro ord' e1 e2 k hkk
  rw [e1,e2,hjt]
  unfold upC
  by_cases ck:k=r
  ·subst ck
   rw [if_pos rfl,if_pos (by simp),hc]
  ·rw [if_neg ck,h.cnt k hkk]
   have:(k∈(cf rd x).take j++[r])↔k∈(cf rd x).take j:=by rw [List.mem_append,List.mem_singleton];exact ⟨fun z=>z.elim id (fun z=>absurd z ck),.inl⟩
   by_cases cm:k∈(cf rd x).take j
   ·rw [if_pos cm,if_pos (this.mpr cm)]
   ·rw [if_neg cm,if_neg (fun z=>cm (this.mp z))]
 have hlr:dq rd (ord.take dn) r≠[]:=fun e=>by
  have:=left_nil.mp e x hxr
  exact hnx this
 have hno:r∉ord:=fun hm=>by
  rcases (h.mem r hrk).mp hm with e | ⟨e,_⟩
  ·exact hlr e
  ·exact hrj e
 refine ⟨fun h0=>?_,fun h0=>?_,hrk⟩
 ·have e1:(ord++[r]).take dn=ord.take dn:=List.take_append_of_le_length (by lia)
  have e2:(ord++[r]).take (dn+1)=ord.take (dn+1):=List.take_append_of_le_length (by lia)
  have hz:dq rd (ord.take (dn+1)) r=[]:=List.eq_nil_of_length_eq_zero (by lia)
  refine ⟨by rw [List.getElem?_append_left (by lia)];exact h.at_,?_,?_,cnt' _ e1 e2,?_,?_⟩
  ·rw [List.nodup_append]
   exact ⟨h.nd,List.pairwise_singleton _ _,fun a ha b hb e=>hno (by rw [List.mem_singleton]at hb;rw [<- hb,<- e];exact ha)⟩
  ·intro k hkm
   rcases List.mem_append.mp hkm with z | z
   ·exact h.sub k z
   ·rw [List.mem_singleton.mp z];exact hrk
  ·intro k hkk
   rw [e1,e2,hjt,List.mem_append,List.mem_append,List.mem_singleton,h.mem k hkk]
   constructor
   ·rintro ((z | ⟨z1,z2⟩) | z)
    ·exact .inl z
    ·exact .inr ⟨.inl z1,z2⟩
    ·rw [z];exact .inr ⟨.inr rfl,hz⟩
   ·rintro (z | ⟨z1 | z1,z2⟩)
    ·exact .inl (.inl z)
    ·exact .inl (.inr ⟨z1,z2⟩)
    ·exact .inr z1
  ·intro i k hi o ho
   by_cases ci:i<ord.length
   ·rw [List.getElem?_append_left ci]at hi
    rw [List.take_append_of_le_length (by lia)]
    exact h.top i k hi o ho
   ·have hil:i< (ord++[r]).length:=(List.getElem?_eq_some_iff.mp hi).1
    rw [List.length_append]at hil
    have hil:i<ord.length+1:=hil
    have ei:i=ord.length:=by lia
    subst ei
    rw [List.getElem?_append_right (Nat.le_refl _),Nat.sub_self]at hi
    cases hi
    rw [List.take_append_of_le_length (Nat.le_refl _),List.take_length]
    exact List.mem_of_mem_take (left_nil.mp hz o ho)
 ·refine ⟨h.at_,h.nd,h.sub,cnt' _ rfl rfl,fun k hkk=>?_,h.top⟩
  rw [h.mem k hkk,hjt,List.mem_append,List.mem_singleton]
  constructor
  ·rintro (z | ⟨z1,z2⟩)
   ·exact .inl z
   ·exact .inr ⟨.inl z1,z2⟩
  ·rintro (z | ⟨z1 | z1,z2⟩)
   ·exact .inl z
   ·exact .inr ⟨z1,z2⟩
   ·subst z1
    rw [z2]at hc
    exact absurd hc h0
theorem OMid.fin {rd:Rds} (hk:RdOk rd) {c:KK->Int} {ord:List KK} {dn:Nat} {x:KK} {j:Nat} (h:OMid rd c ord dn x j) (hj:j=(cf rd x).length):OInv rd c ord (dn+1):=by
 have hdn:dn+1<=ord.length:=(List.getElem?_eq_some_iff.mp h.at_).1
 have hts:ord.take (dn+1)=ord.take dn++[x]:=aY h.at_
 have hlf: ∀ k∈rks rd,k∉cf rd x->dq rd (ord.take (dn+1)) k=dq rd (ord.take dn) k:=fun k hkk hn=>by
  rw [hts]
  exact jo fun z=>hn ((lZ hk).mpr ⟨hkk,z⟩)
 refine ⟨hdn,h.nd,h.sub,fun k hkk=>?_,fun k hkk=>?_,h.top⟩
 ·have:=h.cnt k hkk
  rw [hj,List.take_length]at this
  by_cases cm:k∈cf rd x
  ·rw [if_pos cm]at this;exact this
  ·rw [if_neg cm]at this
   rw [hlf k hkk cm];exact this
 ·rw [h.mem k hkk,hj,List.take_length]
  by_cases cm:k∈cf rd x
  ·constructor
   ·rintro (z | ⟨_,z⟩)
    ·exact left_nil.mpr fun o ho=>by rw [hts];exact List.mem_append_left _ (left_nil.mp z o ho)
    ·exact z
   ·exact fun z=>.inr ⟨cm,z⟩
  ·rw [hlf k hkk cm]
   exact ⟨fun z=>z.elim id (fun z=>absurd z.1 cm),.inl⟩
theorem de {α:Type} [DecidableEq α]: ∀ {a b:List α},a.Nodup->(∀ x∈a,x∈b)->a.length<=b.length
 | [],_,_,_=>Nat.zero_le _
 | x::r,b,nd,h=>by
  obtain ⟨n1,n2⟩:=List.nodup_cons.mp nd
  have hx:=h x List.mem_cons_self
  have:=de (a:=r) (b:=b.erase x) n2 fun y hy=>(List.mem_erase_of_ne (fun e=>n1 (by rw [<- e];exact hy))).mpr (h y (List.mem_cons_of_mem _ hy))
  rw [List.length_erase_of_mem hx]at this
  have hp:=List.length_pos_of_mem hx
  rw [List.length_cons]
  lia
theorem OInv.len {rd:Rds} {c:KK->Int} {ord:List KK} {dn:Nat} (h:OInv rd c ord dn):ord.length<=rd.length:=by
 have hs: ∀ k∈ord,k∈rks rd:=h.sub
 have:=de h.nd hs
 unfold rks at this
 rw [List.length_map]at this
 exact this
theorem OInv.all {rd:Rds} {c:KK->Int} {ord:List KK} (h:OInv rd c ord ord.length) {L:List KK} (hL: ∀ k∈rks rd,k∈L) (hs: ∀ k∈L,k∈rks rd) (ht: ∀ i k,L[i]? =some k-> ∀ o∈cV rd k,o∈L.take i): ∀ k∈rks rd,k∈ord:=by
 have go: ∀ (n i:Nat) (k:KK),i<n->L[i]? =some k->k∈ord:=by
  intro n
  induction n with
  | zero=>intro i k hi;lia
  | succ n ih=>
   intro i k hi hk
   refine (h.mem k (hs k (List.mem_of_getElem? hk))).mpr (left_nil.mpr fun o ho=>?_)
   rw [List.take_length]
   obtain ⟨j,hj⟩:=List.getElem?_of_mem (ht i k hk o ho)
   have hlt:j<i:=by
    have:=(List.getElem?_eq_some_iff.mp hj).1
    rw [List.length_take]at this
    lia
   rw [List.getElem?_take,if_pos hlt]at hj
   exact ih j o (by lia) hj
 intro k hk
 obtain ⟨i,hi⟩:=List.getElem?_of_mem (hL k hk)
 exact go (i+1) i k (by lia) hi
theorem eW {κ:Type} [DecidableEq κ]: ∀ {kvs:List (κ×V)} {i:Nat} {k:κ} {v:V},(kvs.map (·.1)).Nodup->kvs[i]? =some (k,v)->aU kvs k=some v
 | [],i,_,_,_,h=>by cases i <;> cases h
 | (k0,v0)::r,0,k,v,_,h=>by
  cases h
  unfold aU
  rw [List.find?_cons_of_pos (by simp)]
  rfl
 | (k0,v0)::r,i+1,k,v,nd,h=>by
  have h:r[i]? =some (k,v):=h
  have nd:(k0::r.map (·.1)).Nodup:=nd
  obtain ⟨n1,n2⟩:=List.nodup_cons.mp nd
  have hne:k0≠k:=fun e=>n1 (by rw [e];exact List.mem_map.mpr ⟨(k,v),List.mem_of_getElem? h,rfl⟩)
  have ih:=eW n2 h
  unfold aU at ih ⊢
  rw [List.find?_cons_of_neg (by simpa using hne)]
  exact ih
noncomputable def RdE (H:Hp) (e:KK×List KK) (kv:KK×V):Prop:=kv.1=e.1/\ ∃ l ys,kv.2=.ref l/\H l=some (.lst ys)/\KsOf H ys e.2
noncomputable def RdsAt (H:Hp) (rd:Rds) (kvs:List (KK×V)):Prop:=Paired (RdE H) rd kvs
theorem RdsAt.keys {H:Hp}: ∀ {rd:Rds} {kvs:List (KK×V)},RdsAt H rd kvs->kvs.map (·.1)=rks rd
 | _,_,.nil=>rfl
 | e::rd,kv::kvs,.cons h t=>by
  show kv.1::kvs.map (·.1)=e.1::rks rd
  rw [h.1,RdsAt.keys t]
noncomputable def zpA (ks:List KK) (as:List Addr):List (KK×V):=List.zipWith (fun k a=>(k,V.ref a)) ks as
noncomputable def qY (H:Hp) (ks:List KK) (as:List Addr) (f:KK->List KK):Prop:= ∀ (j:Nat) k a,ks[j]? =some k->as[j]? =some a-> ∃ ys,H a=some (.lst ys)/\KsOf H ys (f k)
theorem re {ks:List KK} {as:List Addr} {j:Nat} {k:KK} {a:Addr} (h1:ks[j]? =some k) (h2:as[j]? =some a):(zpA ks as)[j]? =some (k,.ref a):=by
 unfold zpA
 rw [List.getElem?_zipWith,h1,h2]
theorem eE: ∀ {ks:List KK} {as:List Addr},ks.length=as.length->(zpA ks as).map (·.1)=ks
 | [],_,_=>by unfold zpA;rfl
 | _::_,[],h=>by cases h
 | k::ks,a::as,h=>by
  have:=eE (ks:=ks) (as:=as) (by simpa using h)
  unfold zpA at this ⊢
  rw [List.zipWith_cons_cons,List.map_cons,this]
theorem q9 {ks:List KK} {as:List Addr} (h:ks.length=as.length) (k:KK) (a:Addr):zpA (ks++[k]) (as++[a])=zpA ks as++[(k,.ref a)]:=by
 unfold zpA
 rw [List.zipWith_append h]
 rfl
theorem db {κ:Type} [DecidableEq κ] {kvs:List (κ×V)} {k:κ} {v:V} (h:k∉kvs.map (·.1)):bp kvs k v=kvs++[(k,v)]:=by
 unfold bp
 rw [if_neg fun z=>by
  obtain ⟨kv,h1,h2⟩:=List.any_eq_true.mp z
  exact h (List.mem_map.mpr ⟨kv,h1,of_decide_eq_true h2⟩)]
theorem lm {α:Type} {l:List α} (nd:l.Nodup) {i j:Nat} {a:α} (h1:l[i]? =some a) (h2:l[j]? =some a):i=j:=
 (List.getElem?_inj (List.getElem?_eq_some_iff.mp h1).1 nd).mp (h1.trans h2.symm)
theorem dB {α:Type} {l:List α} (nd:l.Nodup) {i:Nat} {a:α} (h:l[i]? =some a):a∉l.take i:=fun hm=>by
 obtain ⟨j,hj⟩:=List.getElem?_of_mem hm
 have hlt:j<i:=by
  have:=(List.getElem?_eq_some_iff.mp hj).1
  rw [List.length_take]at this
  lia
 rw [List.getElem?_take,if_pos hlt]at hj
 have:=lm nd hj h
 lia
noncomputable def jB:Sp:=fun vs H Q _=> ∃ (d:Addr) (kvs:List (KK×V)) (rd:Rds),vs=[.ref d]/\H d=some (.dT kvs)/\RdsAt H rd kvs/\RdOk rd/\rd.length<=900/\
 ∀ o p as H',Same (upd H d (.frz o (.dT kvs))) H'->H p=none->H' p=some (.dT (zpA (rks rd) as))->as.length=rd.length->qY H' (rks rd) as (cf rd)->Q (.ref p) H'
theorem qj {rd:Rds} {i:Nat} {e:KK×List KK} (h:rd[i]? =some e) (k:KK):cf (rd.take (i+1)) k=cf (rd.take i) k++(if k∈e.2 then [e.1]else []):=by
 unfold cf
 rw [aY h,List.filter_append,List.map_append]
 congr 1
 by_cases c:k∈e.2
 ·rw [if_pos c,List.filter_cons_of_pos (by simpa using c)];rfl
 ·rw [if_neg c,List.filter_cons_of_neg (by simpa using c)];rfl
noncomputable abbrev NRs:List Str:=["reads","readers","one","read","other"]
theorem scReaders:ay NRs ["reads"] (ak iN):=fsc
theorem nZ (F:Fun K "readers_of" "readers_of" iN f fd):ar P w K mg base CX0 1 f fd ["reads"] jB:=by
 refine F.ok scReaders (fun vs H Q E h=>?_) (fun cdv A outer s H vs Q E hr h=>?_)
 ·obtain ⟨d,kvs,rd,rfl,_⟩:=h
  rfl
 obtain ⟨d,kvs,rd,rfl,gd,hR,hok,hlen,q⟩:=h
 have hu:=cW hr
 refine ⟨_,ae (am (i:=1) scReaders.nd rfl (Or.inl rfl) cx)
  (ae (bd PassesOwn.never rfl (iS (pv 0)) (av (i:=2) scReaders.nd rfl (Or.inl rfl)) (aj (cC hu (pv 1) (pv 2) (bc ad) rfl)))
  (ae (bd PassesOwn.never rfl (iT (pv 0)) (cP rfl (aG (av (i:=2) scReaders.nd rfl (Or.inl rfl)) (aG (av (i:=3) scReaders.nd rfl (Or.inl rfl)) ce)))
   (aj (bd PassesOwn.never rfl (cO (pv 3)) (av (i:=4) scReaders.nd rfl (Or.inl rfl))
    (aj (bH (dj PySem.F.plainAttrs_list PySem.F.slot_list_append PySem.F.type_list_append bi (bV hu (pv 1) (pv 4) (fun _ _=>rfl)) (aa (pv 2) ad)))))))
  (aj (aB (pv 1))))),?_⟩
 have hkeys:=hR.keys
 have lkv:kvs.length=rd.length:=(Paired.length hR).symm
 have lrk:(rks rd).length=rd.length:=List.length_map _
 refine fun p hp=>?_
 have npd:d≠p:=af gd hp
 have s0:=ag hp (.dT [])
 have g0:(upd H p (.dT [])) p=some (.dT []):=ab
 have gd0:=s0 _ _ gd
 generalize upd H p (.dT [])=H0 at s0 g0 gd0 ⊢
 refine ⟨_,rfl,d,kvs,rfl,.inl ⟨gd0,fun o=>?_⟩⟩
 have gF:(upd H0 d (.frz o (.dT kvs))) d=some (.frz o (.dT kvs)):=ab
 have gpF:(upd H0 d (.frz o (.dT kvs))) p=some (.dT []):=by rw [ah (Ne.symm npd)];exact g0
 have sF:Same (upd H d (.frz o (.dT kvs))) (upd H0 d (.frz o (.dT kvs))):=fun b u h=>by
  by_cases c:b=d
  ·subst c;rw [ab]at h ⊢;exact h
  ·rw [ah c]at h ⊢;exact s0 _ _ h
 have hpF:(upd H d (.frz o (.dT kvs))) p=none:=by rw [ah (Ne.symm npd)];exact hp
 have gFF:(upd H d (.frz o (.dT kvs))) d=some (.frz o (.dT kvs)):=ab
 have hRF:RdsAt (upd H d (.frz o (.dT kvs))) rd kvs:=by
  have tkF:TK H (upd H d (.frz o (.dT kvs))):=fun b xs h=>by rw [ah (fun z=>by rw [z,gd]at h;cases h)];exact h
  exact Paired.mapP hR fun e kv h=>by
   obtain ⟨h1,l,ys,h2,h3,h4⟩:=h
   exact ⟨h1,l,ys,h2,by rw [ah (fun z=>by rw [z,gd]at h3;cases h3)];exact h3,h4.mono fun b xs hb=>tkF _ _ hb⟩
 have q:=q o
 generalize upd H0 d (.frz o (.dT kvs))=H1 at gF gpF sF ⊢
 generalize upd H d (.frz o (.dT kvs))=HF at sF hpF gFF hRF q ⊢
 refine jR (kvs:=kvs) (fun i σ H'=>i<=kvs.length/\ ∃ o2 as,σ=[some (.ref d),some (.ref p),o2,none,none]/\Same HF H'/\H' p=some (.dT (zpA ((rks rd).take i) as))/\as.length=i/\as.Nodup/\(∀ a∈as,HF a=none/\a≠p)/\qY H' ((rks rd).take i) as (fun _=>[]))
  ⟨Nat.zero_le _,none,[],rfl,sF,gpF,rfl,List.nodup_nil,fun a h=>(by cases h),fun j k a h _=>(by cases j <;> cases h)⟩ (fun i σ H' _ h=>by obtain ⟨_,_,_,_,s',_⟩:=h;exact s' _ _ gFF) ?_ ?_
 ·rintro i k b σ H2 hk hb ⟨hi,o2,as,rfl,S2,gp2,las,nda,hfr,hLs⟩
  rw [hkeys]at hk
  have hil:i<kvs.length:=by rw [lkv,<- lrk];exact (List.getElem?_eq_some_iff.mp hk).1
  refine ⟨(by show 0<=sizeLine;decide),fun a ha=>?_⟩
  have haF:HF a=none:=S2.free ha
  have nap:a≠p:=fun z=>by rw [z,gp2]at ha;cases ha
  have naa:a∉as:=fun z=>by
   obtain ⟨j,hj⟩:=List.getElem?_of_mem z
   have hjl:=(List.getElem?_eq_some_iff.mp hj).1
   obtain ⟨k',hk'⟩: ∃ k',((rks rd).take i)[j]? =some k':=⟨((rks rd).take i)[j]'(by rw [List.length_take];lia),List.getElem?_eq_getElem _⟩
   obtain ⟨ys,h1,_⟩:=hLs j k' a hk' hj
   rw [ha]at h1;cases h1
  have s3:=ag ha (.lst [])
  have g3:(upd H2 a (.lst [])) a=some (.lst []):=ab
  have gp3:=s3 _ _ gp2
  have hb3:=s3 _ _ hb
  have hLs3:qY (upd H2 a (.lst [])) ((rks rd).take i) as (fun _=>[]):=fun j k a h1 h2=>by
   obtain ⟨ys,h3,h4⟩:=hLs j k a h1 h2
   exact ⟨ys,s3 _ _ h3,h4.mono fun b xs hb=>s3 _ _ hb⟩
  generalize upd H2 a (.lst [])=H3 at s3 g3 gp3 hb3 hLs3 ⊢
  have lz:((rks rd).take i).length=as.length:=by rw [List.length_take];lia
  refine ⟨_,rfl,_,rfl,p,_,rfl,DPut.t (k:=k) gp3 hb3 (ao (by have:=congrArg List.length (eE lz);rw [List.length_map]at this;rw [this,lz];lia)),?_⟩
  have hn:k∉(zpA ((rks rd).take i) as).map (·.1):=by rw [eE lz];exact dB hok.nd hk
  rw [db hn,<- q9 lz,<- aY hk]
  have keep: ∀ b u,H3 b=some u->b≠p->(upd H3 p (.dT (zpA ((rks rd).take (i+1)) (as++[a])))) b=some u:=fun b u h hne=>by rw [ah hne];exact h
  refine ⟨hil,_,as++[a],rfl,fun b u h=>?_,ab,by rw [List.length_append,las];rfl,?_,?_,?_⟩
  ·exact keep b u (s3 _ _ (S2 _ _ h)) (af h hpF)
  ·rw [List.nodup_append]
   exact ⟨nda,List.pairwise_singleton _ _,fun x hx y hy e=>naa (by rw [List.mem_singleton]at hy;rw [<- hy,<- e];exact hx)⟩
  ·intro x hx
   rcases List.mem_append.mp hx with h | h
   ·exact hfr x h
   ·rw [List.mem_singleton.mp h];exact ⟨haF,nap⟩
  ·intro j k' a' h1 h2
   by_cases cj:j<as.length
   ·rw [List.getElem?_append_left cj]at h2
    rw [aY hk,List.getElem?_append_left (by rw [lz];exact cj)]at h1
    obtain ⟨ys,h3,h4⟩:=hLs3 j k' a' h1 h2
    exact ⟨ys,keep _ _ h3 (hfr a' (List.mem_of_getElem? h2)).2,h4.mono fun b xs hb=>keep _ _ hb (fun z=>by rw [z,gp3]at hb;cases hb)⟩
   ·have hjl:=(List.getElem?_eq_some_iff.mp h2).1
    rw [List.length_append]at hjl
    have hjl:j<as.length+1:=hjl
    have ej:j=as.length:=by lia
    subst ej
    rw [List.getElem?_append_right (Nat.le_refl _),Nat.sub_self]at h2
    cases h2
    exact ⟨[],keep _ _ g3 nap,.nil⟩
 rintro σ H2 ⟨_,o2,as,rfl,S2,gp2,las,nda,hfr,hLs⟩
 rw [lkv]at las
 rw [List.take_of_length_le (by lia)]at gp2 hLs
 refine ⟨_,rfl,d,kvs,rfl,.inr ⟨o,S2 _ _ gFF,?_⟩⟩
 have zk:(zpA (rks rd) as).map (·.1)=rks rd:=eE (by lia)
 refine gO (kvs:=kvs) (fun i σ H'=>i<=kvs.length/\ ∃ o2 o3 o4,σ=[some (.ref d),some (.ref p),o2,o3,o4]/\Same HF H'/\H' p=some (.dT (zpA (rks rd) as))/\qY H' (rks rd) as (fun k=>cf (rd.take i) k))
  ⟨Nat.zero_le _,o2,none,none,rfl,S2,gp2,hLs⟩ (fun i σ H' _ h=>by obtain ⟨_,_,_,_,_,s',_⟩:=h;exact s' _ _ gFF) ?_ ?_
 ·rintro i ks v T c σ H3 hkv hT hc ⟨hi,o2,o3,o4,rfl,S3,gp3,hL3⟩
  have hil:i<kvs.length:=(List.getElem?_eq_some_iff.mp hkv).1
  obtain ⟨e,he,e1,l,ys,e2,hl,hys⟩:=aH hRF hkv
  have e1:ks=e.1:=e1
  have e2:v=.ref l:=e2
  subst e1 e2
  have hem:=List.mem_of_getElem? he
  have s4:=ag hT (.tup [.ref c,.ref l])
  have g4:(upd H3 T (.tup [.ref c,.ref l])) T=some (.tup [.ref c,.ref l]):=ab
  have gp4:=s4 _ _ gp3
  have hc4:=s4 _ _ hc
  have hL4:qY (upd H3 T (.tup [.ref c,.ref l])) (rks rd) as (fun k=>cf (rd.take i) k):=fun j k a h1 h2=>by
   obtain ⟨ys,h3,h4⟩:=hL3 j k a h1 h2
   exact ⟨ys,s4 _ _ h3,h4.mono fun b xs hb=>s4 _ _ hb⟩
  have S4:=S3.trans s4
  generalize upd H3 T (.tup [.ref c,.ref l])=H4 at s4 g4 gp4 hc4 hL4 S4 ⊢
  refine ⟨T,_,rfl,SqT.of g4,rfl,_,_,rfl,_,_,rfl,rfl,?_⟩
  refine ⟨_,rfl,l,rfl,⟨_,SqL.of (S4 _ _ hl)⟩,?_⟩
  have lys:ys.length=e.2.length:=Paired.length hys
  refine cY (xs:=ys) (fun m σ H'=>m<=ys.length/\ ∃ o4,σ=[some (.ref d),some (.ref p),some (.ref c),some (.ref l),o4]/\Same HF H'/\H' c=some (.tup (List.map kV e.1))/\H' p=some (.dT (zpA (rks rd) as))/\qY H' (rks rd) as (fun k=>cf (rd.take i) k++(if k∈e.2.take m then [e.1]else [])))
   ⟨Nat.zero_le _,o4,rfl,S4,hc4,gp4,fun j k a h1 h2=>by
    obtain ⟨ws,g1,g2⟩:=hL4 j k a h1 h2
    refine ⟨ws,g1,?_⟩
    show KsOf H4 ws (cf (rd.take i) k++(if k∈e.2.take 0 then [e.1]else []))
    rw [List.take_zero,if_neg (by simp),List.append_nil]
    exact g2⟩ (fun m σ H' _ h=>by obtain ⟨_,_,_,s',_⟩:=h;exact SqL.of (s' _ _ hl)) ?_ ?_
  ·rintro m x σ H5 hx ⟨hm,o4,rfl,S5,hc5,gp5,hL5⟩
   have hml:m<ys.length:=(List.getElem?_eq_some_iff.mp hx).1
   obtain ⟨x',ex⟩: ∃ x',e.2[m]? =some x':=⟨e.2[m]'(by lia),List.getElem?_eq_getElem (by lia)⟩
   obtain ⟨k,hk,b,eb,hb⟩: ∃ k,e.2[m]? =some k/\ ∃ b,x=.ref b/\HF b=some (.tup (List.map kV k)):=by
    obtain ⟨k,hk,b,h1,h2⟩:=bQ hys hx
    exact ⟨k,hk,b,h1,h2⟩
   subst eb
   have hkr:k∈rks rd:=hok.cl e hem k (List.mem_of_getElem? hk)
   obtain ⟨j,hj⟩:=List.getElem?_of_mem hkr
   have hjl:j<as.length:=by rw [las,<- lrk];exact (List.getElem?_eq_some_iff.mp hj).1
   have ha:as[j]? =some as[j]:=List.getElem?_eq_getElem hjl
   obtain ⟨zs,gz,hzs⟩:=hL5 j k as[j] hj ha
   have hval:aU (zpA (rks rd) as) k=some (.ref as[j]):=eW (by rw [zk];exact hok.nd) (re hj ha)
   have hnot:k∉e.2.take m:=dB (hok.rn e hem) hk
   have hzs:KsOf H5 zs (cf (rd.take i) k++(if k∈e.2.take m then [e.1]else [])):=hzs
   rw [if_neg hnot,List.append_nil]at hzs
   have lzs:zs.length<=900:=by
    have h1:zs.length=(cf (rd.take i) k).length:=Paired.length hzs
    have h2:(cf (rd.take i) k).length<=rd.length:=by
     unfold cf
     rw [List.length_map]
     exact Nat.le_trans (List.length_filter_le _ _) (by rw [List.length_take];lia)
    lia
   refine ⟨_,rfl,_,rfl,p,.ref as[j],rfl,(by rw [<- hval];exact DGet.t (k:=k) gp5 (S5 _ _ hb)),.inl ⟨rfl,_,SqL.of gz⟩,_,rfl,as[j],zs,.ref c,rfl,rfl,gz,ao (by lia),?_⟩
   obtain ⟨haF,hap⟩:=hfr as[j] (List.mem_of_getElem? ha)
   have tk:TK H5 (upd H5 as[j] (.lst (zs++[.ref c]))):=TK.lst gz
   refine ⟨hml,_,rfl,fun b u h=>?_,tk _ _ hc5,?_,?_⟩
   ·rw [ah (af h haF)];exact S5 _ _ h
   ·rw [ah (Ne.symm hap)];exact gp5
   ·intro j' k' a' h1 h2
    by_cases cj:j'=j
    ·subst cj
     rw [hj]at h1
     cases h1
     rw [ha]at h2
     cases h2
     refine ⟨zs++[.ref c],ab,?_⟩
     show KsOf _ _ (cf (rd.take i) k++(if k∈e.2.take (m+1)then [e.1]else []))
     rw [aY hk,if_pos (by simp)]
     exact Paired.snoc (hzs.mono fun b xs hb=>tk _ _ hb) ⟨c,rfl,tk _ _ hc5⟩
    ·obtain ⟨ws,h3,h4⟩:=hL5 j' k' a' h1 h2
     have hne:a'≠as[j]:=fun z=>cj (lm nda (by rw [<- z];exact h2) ha)
     have hkk:k'≠k:=fun z=>cj (lm hok.nd (by rw [<- z];exact h1) hj)
     refine ⟨ws,by rw [ah hne];exact h3,?_⟩
     have:(k'∈e.2.take m++[k])↔k'∈e.2.take m:=by rw [List.mem_append,List.mem_singleton];exact ⟨fun z=>z.elim id (fun z=>absurd z hkk),.inl⟩
     show KsOf _ _ (cf (rd.take i) k'++(if k'∈e.2.take (m+1)then [e.1]else []))
     rw [aY hk]
     have e5:(if k'∈e.2.take m++[k]then [e.1]else [])=(if k'∈e.2.take m then [e.1]else []):=by
      by_cases cm:k'∈e.2.take m
      ·rw [if_pos cm,if_pos (this.mpr cm)]
      ·rw [if_neg cm,if_neg (fun z=>cm (this.mp z))]
     rw [e5]
     exact h4.mono fun b xs hb=>tk _ _ hb
  ·rintro σ H5 ⟨_,o4,rfl,S5,hc5,gp5,hL5⟩
   rw [lys,List.take_length]at hL5
   refine ⟨hil,_,_,_,rfl,S5,gp5,fun j k a h1 h2=>?_⟩
   obtain ⟨ws,h3,h4⟩:=hL5 j k a h1 h2
   exact ⟨ws,h3,by show KsOf _ ws (cf (rd.take (i+1)) k);rw [qj he];exact h4⟩
 ·rintro σ H3 ⟨_,o2,o3,o4,rfl,S3,gp3,hL3⟩
  rw [lkv,List.take_length]at hL3
  exact ⟨_,rfl,q p as H3 S3 hp gp3 las hL3⟩
theorem mH {d:Addr} {o:Obj} {kvs:List (KK×V)} {fr:List Nat} {tc:TT} {te:TE} {σ:St} {H1:Hp} {Q:VK} (hn:kvs.length<=1000) (hd:H1 d=some (.frz o (.dT kvs))) (c:KK->Bool)
  (htc: ∀ k b H (kk:Bool->Hp->Prop),k∈kvs.map (·.1)->H b=some (.tup (List.map kV k))->Same H1 H->kk (c k) H->tc (some (.ref b)::bJ fr σ) H kk)
  (hte: ∀ k b H (kk:VK),k∈kvs.map (·.1)->H b=some (.tup (List.map kV k))->Same H1 H->kk (.ref b) H->te (some (.ref b)::bJ fr σ) H kk)
  (hQ: ∀ p ys H',H1 p=none->Same H1 H'->H' p=some (.lst ys)->KsOf H' ys ((kvs.map (·.1)).filter c)->Q (.ref p) H'):j8 fr tc te σ (q8 d o) H1 Q:=by
 intro p hp
 refine ⟨fun i m zs H=>i<=kvs.length/\m=kvs.length-i/\Same H1 H/\H p=some (.lst zs)/\zs.length<=i/\KsOf H zs (((kvs.map (·.1)).take i).filter c),⟨_,Nat.zero_le _,rfl,ag hp _,ab,Nat.le_refl _,.nil⟩,?_⟩
 rintro i m zs H ⟨hi,hm,sm,gp,hz,hT⟩
 refine ⟨gp,?_⟩
 by_cases e:i=kvs.length
 ·subst e
  rw [List.take_of_length_le (by rw [List.length_map];exact Nat.le_refl _)]at hT
  exact .inl ⟨⟨kvs,sm _ _ hd,rfl⟩,hQ p zs H hp sm gp hT⟩
 ·have hlt:i<kvs.length:=by lia
  refine .inr ⟨⟨kvs,kvs[i],sm _ _ hd,List.getElem?_eq_getElem hlt⟩,ao (by lia),fun v H' hv=>?_⟩
  obtain ⟨rfl,b,k,rfl,hb,hk⟩:=hv
  have hk:=hk kvs (sm _ _ hd)
  have hkm:=List.mem_of_getElem? hk
  have etk:((kvs.map (·.1)).take (i+1)).filter c=((kvs.map (·.1)).take i).filter c++(if c k then [k]else []):=by
   rw [aY hk,List.filter_append]
   congr 1
   by_cases hc:c k=true
   ·rw [if_pos hc,List.filter_cons_of_pos hc];rfl
   ·rw [if_neg hc,List.filter_cons_of_neg hc];rfl
  refine htc k b _ _ hkm hb sm ?_
  by_cases hc:c k=true
  ·rw [if_pos hc]at etk
   rw [if_pos hc]
   refine hte k b _ _ hkm hb sm ?_
   have tk:TK H' (upd H' p (.lst (zs++[.ref b]))):=TK.lst gp
   refine ⟨gp,kvs.length- (i+1),by lia,by lia,rfl,?_,ab,by rw [List.length_append];show zs.length+1<=i+1;lia,?_⟩
   ·intro x u hx
    rw [ah (af hx hp)]
    exact sm _ _ hx
   ·rw [etk]
    exact Paired.snoc (hT.mono fun b xs hb=>tk _ _ hb) ⟨b,rfl,tk _ _ hb⟩
  ·rw [if_neg hc,List.append_nil]at etk
   rw [if_neg hc]
   exact ⟨kvs.length- (i+1),by lia,by lia,rfl,sm,gp,by lia,by rw [etk];exact hT⟩
noncomputable def jp (rd:Rds):List (KK×V):=rd.map fun e=>(e.1,V.int (e.2.length:Int))
theorem jW (rd:Rds):(jp rd).map (·.1)=rks rd:=by
 unfold jp rks
 rw [List.map_map]
 rfl
theorem hX {κ:Type} [DecidableEq κ] {kvs:List (κ×V)} {k:κ} {v u:V} (h:aU kvs k=some u):(bp kvs k v).length=kvs.length:=by
 have hm:=j6 h
 unfold bp
 rw [if_pos (by
  obtain ⟨p,hp,e⟩:=List.mem_map.mp hm
  exact List.any_eq_true.mpr ⟨p,hp,decide_eq_true e⟩),List.length_map]
noncomputable def oR:Sp:=fun vs H Q _=> ∃ (d:Addr) (kvs:List (KK×V)) (rd:Rds),vs=[.ref d]/\H d=some (.dT kvs)/\RdsAt H rd kvs/\RdOk rd/\rd.length<=900/\
 ∀ o p ys ord c H',Same (upd H d (.frz o (.dT kvs))) H'->H p=none->H' p=some (.lst ys)->KsOf H' ys ord->OInv rd c ord ord.length->Q (.ref p) H'
theorem OInv.begin {rd:Rds} (hk:RdOk rd) {c:KK->Int} (hc: ∀ k∈rks rd,c k=((cV rd k).length:Int)):OInv rd c ((rks rd).filter fun k=>decide ((cV rd k).length=0)) 0:=by
 have hl: ∀ k,dq rd [] k=cV rd k:=fun k=>by
  unfold dq
  exact List.filter_eq_self.mpr fun o _=>by simp
 refine ⟨Nat.zero_le _,hk.nd.sublist List.filter_sublist,fun k h=>(List.mem_filter.mp h).1,fun k h=>?_,fun k h=>?_,fun i k hi o ho=>?_⟩
 ·rw [List.take_zero,hl];exact hc k h
 ·rw [List.take_zero,hl]
  constructor
  ·intro z
   exact List.eq_nil_of_length_eq_zero (of_decide_eq_true (List.mem_filter.mp z).2)
  ·intro z
   exact List.mem_filter.mpr ⟨h,decide_eq_true (by rw [z];rfl)⟩
 ·have:=of_decide_eq_true (List.mem_filter.mp (List.mem_of_getElem? hi)).2
  rw [List.eq_nil_of_length_eq_zero this]at ho
  cases ho
noncomputable abbrev NOo:List Str:=["reads","readers","still_to_come","one","read","order","done","reader"]
theorem scOrderOf:ay NOo ["reads"] (ak fX):=fsc
theorem n0 (F:Fun K "order_of" "order_of" fX f fd) (G:Gb mg)
  (GR:ar P w K mg base CX0 1 f2 fd2 ["reads"] jB) (bR:Binds K fd2 ["reads"] []) (kR:PySem.W.keepIn K (.ref f2)=true) (mR:mg "readers_of"=some (.ref f2)):
  ar P w K mg base CX0 2 f fd ["reads"] oR:=by
 refine F.ok scOrderOf (fun vs H Q E h=>?_) (fun cdv A outer s H vs Q E hr h=>?_)
 ·obtain ⟨d,kvs,rd,rfl,_⟩:=h
  rfl
 obtain ⟨d,kvs,rd,rfl,gd,hR,hok,hlen,q⟩:=h
 have hu:=cW hr
 refine ⟨_,ae (am (i:=1) scOrderOf.nd rfl (Or.inl rfl) (al GR hr rfl mR kR bR .nil aq (aa (pv 0) ad)))
  (ae (am (i:=2) scOrderOf.nd rfl (Or.inr rfl) cx)
  (ae (bd PassesOwn.never rfl (iT (pv 0)) (cP rfl (aG (av (i:=3) scOrderOf.nd rfl (Or.inl rfl)) (aG (av (i:=4) scOrderOf.nd rfl (Or.inl rfl)) ce)))
   (aj (cC hu (pv 2) (pv 3) (aw aA rfl G.len PySem.boot_len (aa (pv 4) ad)) rfl)))
  (ae (l8 (i:=5) (sc0:=ak fX) (N0:=NOo) (ys:=["still_to_come"]) (fr:=[2]) rfl scOrderOf.nd rfl (Or.inl rfl) (iS (pv 0)) rfl rfl
    cok
    (fun C s H ex=>aC cq (bV hu (pv 1) (pv 0) (fun _ _=>rfl)) ai (aJ _)) (fun C s H ex=>pv 0))
  (ae (am (i:=6) scOrderOf.nd rfl (Or.inl rfl) ai)
  (ae (fZ PassesOwn.never (aC ft (pv 6) (aw aA rfl G.len PySem.boot_len (aa (pv 5) ad)) (aJ _))
   (ae (am (i:=3) scOrderOf.nd rfl (Or.inl rfl) (aF aX (pv 5) (pv 6) (fun _ _=>rfl)))
   (ae (sG (i:=6) scOrderOf.nd rfl (Or.inl rfl) ai tR)
   (aj (bd PassesOwn.never rfl (cO (bV hu (pv 1) (pv 3) (fun _ _=>rfl))) (av (i:=7) scOrderOf.nd rfl (Or.inl rfl))
    (ae (uQ hu (pv 2) (pv 7) ai wI (by intros;rfl))
    (aj (bh (aC cq (bV hu (pv 2) (pv 7) (fun _ _=>rfl)) ai (aJ _))
     (aj (bH (dj PySem.F.plainAttrs_list PySem.F.slot_list_append PySem.F.type_list_append bi (pv 5) (aa (pv 7) ad)))) aN))))))))
  (aj (aB (pv 5)))))))),?_⟩
 have hkeys:=hR.keys
 have lkv:kvs.length=rd.length:=(Paired.length hR).symm
 have lrk:(rks rd).length=rd.length:=List.length_map _
 refine ⟨_,rfl,d,kvs,rd,rfl,gd,hR,hok,hlen,fun o pr as H1 S1 hpr gpr las hL=>?_⟩
 have q:=q o
 have gFF:(upd H d (.frz o (.dT kvs))) d=some (.frz o (.dT kvs)):=ab
 have hRF:RdsAt (upd H d (.frz o (.dT kvs))) rd kvs:=by
  have tkF:TK H (upd H d (.frz o (.dT kvs))):=fun b xs h=>by rw [ah (fun z=>by rw [z,gd]at h;cases h)];exact h
  exact Paired.mapP hR fun e kv h=>by
   obtain ⟨h1,l,ys,h2,h3,h4⟩:=h
   exact ⟨h1,l,ys,h2,by rw [ah (fun z=>by rw [z,gd]at h3;cases h3)];exact h3,h4.mono fun b xs hb=>tkF _ _ hb⟩
 have hfree: ∀ p,(upd H d (.frz o (.dT kvs))) p=none->H p=none:=fun p h=>by
  by_cases c:p=d
  ·subst c;rw [ab]at h;cases h
  ·rw [ah c]at h;exact h
 generalize upd H d (.frz o (.dT kvs))=HF at S1 gFF hRF q hfree ⊢
 refine fun sc hsc=>?_
 have hscF:HF sc=none:=S1.free hsc
 have nscp:sc≠pr:=fun z=>by rw [z,gpr]at hsc;cases hsc
 have s2:=ag hsc (.dT [])
 have g2:(upd H1 sc (.dT [])) sc=some (.dT []):=ab
 generalize upd H1 sc (.dT [])=H2 at s2 g2 ⊢
 have S2:=S1.trans s2
 refine ⟨_,rfl,d,kvs,rfl,.inr ⟨o,S2 _ _ gFF,?_⟩⟩
 refine gO (kvs:=kvs) (fun i σ H'=>i<=kvs.length/\ ∃ o3 o4,σ=[some (.ref d),some (.ref pr),some (.ref sc),o3,o4,none,none,none]/\Same H1 H'/\H' sc=some (.dT (jp (rd.take i))))
  ⟨Nat.zero_le _,none,none,rfl,s2,g2⟩ (fun i σ H' _ h=>by obtain ⟨_,_,_,_,s',_⟩:=h;exact s' _ _ (S1 _ _ gFF)) ?_ ?_
 ·rintro i ks v T c σ H3 hkv hT hc ⟨hi,o3,o4,rfl,S3,gs3⟩
  have hil:i<kvs.length:=(List.getElem?_eq_some_iff.mp hkv).1
  obtain ⟨e,he,e1,l,ys,e2,hl,hys⟩:=aH hRF hkv
  have e1:ks=e.1:=e1
  have e2:v=.ref l:=e2
  subst e1 e2
  have hem:=List.mem_of_getElem? he
  have lys:ys.length=e.2.length:=Paired.length hys
  have s4:=ag hT (.tup [.ref c,.ref l])
  have g4:(upd H3 T (.tup [.ref c,.ref l])) T=some (.tup [.ref c,.ref l]):=ab
  have gs4:=s4 _ _ gs3
  have hc4:=s4 _ _ hc
  have S4:=S3.trans s4
  generalize upd H3 T (.tup [.ref c,.ref l])=H4 at s4 g4 gs4 hc4 S4 ⊢
  refine ⟨T,_,rfl,SqT.of g4,rfl,_,_,rfl,_,_,rfl,rfl,?_⟩
  have hn:e.1∉(jp (rd.take i)).map (·.1):=by
   rw [jW]
   have hk:(rks rd)[i]? =some e.1:=by unfold rks;rw [List.getElem?_map,he];rfl
   have:=dB hok.nd hk
   unfold rks at this ⊢
   rw [List.map_take]
   exact this
  refine ⟨_,rfl,l,ys,rfl,.inl (SqL.of (S4 _ _ (S1 _ _ hl))),_,rfl,_,rfl,sc,_,rfl,DPut.t (k:=e.1) gs4 hc4 (ao (by unfold jp;rw [List.length_map,List.length_take];lia)),?_⟩
  rw [db hn,lys]
  refine ⟨hil,_,_,rfl,fun b u h=>?_,?_⟩
  ·rw [ah (af h hsc)];exact S4 _ _ h
  ·rw [ab]
   unfold jp
   rw [aY he,List.map_append]
   rfl
 rintro σ H3 ⟨_,o3,o4,rfl,S3,gs3⟩
 rw [lkv,List.take_length]at gs3
 have hval0: ∀ k∈rks rd,aU (jp rd) k=some (.int ((cV rd k).length:Int)):=fun k hk=>by
  obtain ⟨e,he,rfl⟩:=kJ hk
  rw [eO hok he]
  obtain ⟨j,hj⟩:=List.getElem?_of_mem he
  exact eW (i:=j) (by rw [jW];exact hok.nd) (by unfold jp;rw [List.getElem?_map,hj];rfl)
 have S13:=S1.trans S3
 refine ⟨_,rfl,d,kvs,rfl,.inr ⟨o,S13 _ _ gFF,?_⟩⟩
 refine mH (kvs:=kvs) (by lia) (S13 _ _ gFF) (fun k=>decide ((cV rd k).length=0)) ?_ ?_ ?_
 ·intro k b H4 kk hk hb s4 hkk
  rw [hkeys]at hk
  refine ⟨_,rfl,_,rfl,sc,.int ((cV rd k).length:Int),rfl,(by rw [<- hval0 k hk];exact DGet.t (k:=k) (s4 _ _ gs3) hb),rfl,_,rfl,?_⟩
  have e:decide (V.int ((cV rd k).length:Int)=V.int 0)=decide ((cV rd k).length=0):=decide_eq_decide.mpr ⟨fun z=>by have:=V.int.inj z;lia,fun z=>by rw [z];rfl⟩
  rw [e]
  exact hkk
 ·intro k b H4 kk hk hb s4 hkk
  exact ⟨_,rfl,hkk⟩
 intro po ys H4 hpo s4 gpo hys
 rw [hkeys]at hys
 have S4:=S13.trans s4
 have hpo1:H1 po=none:=S3.free hpo
 have hpoF:HF po=none:=S1.free hpo1
 have nps:po≠sc:=fun z=>by rw [z,gs3]at hpo;cases hpo
 have gs4:=s4 _ _ gs3
 have gpr4:=s4 _ _ (S3 _ _ gpr)
 have npr: ∀ j (h:j<as.length),as[j]≠po/\as[j]≠sc:=fun j h=>by
  have ha:as[j]? =some as[j]:=List.getElem?_eq_getElem h
  have hk:(rks rd)[j]? =some ((rks rd)[j]'(by lia)):=List.getElem?_eq_getElem _
  obtain ⟨zs,gz,_⟩:=hL j _ _ hk ha
  exact ⟨af gz hpo1,af gz hsc⟩
 have begin:=OInv.begin hok (c:=fun k=>((cV rd k).length:Int)) (fun _ _=>rfl)
 generalize (rks rd).filter (fun k=>decide ((cV rd k).length=0))=ord0 at hys begin
 refine iw (fun σ H'=> ∃ (o3 o4 o7:Option V) (dn:Nat) (ord:List KK) (c:KK->Int) (ys:List V) (kv:List (KK×V)),σ=[some (.ref d),some (.ref pr),some (.ref sc),o3,o4,some (.ref po),some (.int (dn:Int)),o7]/\Same H1 H'/\H' po=some (.lst ys)/\KsOf H' ys ord/\H' sc=some (.dT kv)/\kv.length=rd.length/\(∀ k∈rks rd,aU kv k=some (.int (c k)))/\OInv rd c ord dn)
  (fun σ H'=>match σ with | [_,_,_,_,_,_,some (.int dn),_]=>rd.length-dn.toNat | _=>0)
  ⟨_,_,none,0,ord0,_,ys,jp rd,rfl,S3.trans s4,gpo,hys,gs4,by unfold jp;rw [List.length_map],hval0,begin⟩ ?_ ?_
 ·rintro σ H5 ⟨o3,o4,o7,dn,ord,c,ys,kv,rfl,S5,gpo5,hys5,gs5,lkv5,hv5,hI⟩
  have lys:ys.length=ord.length:=Paired.length hys5
  refine ⟨_,rfl,_,rfl,po,ys,rfl,.inl (SqL.of gpo5),_,_,rfl,rfl,_,rfl,?_⟩
  refine c8 (fun cc=>?_) (fun cc=>?_)
  ·have hdl:dn<ys.length:=by have:=of_decide_eq_true cc;lia
   obtain ⟨x,hx⟩: ∃ x,ord[dn]? =some x:=⟨ord[dn]'(by lia),List.getElem?_eq_getElem (by lia)⟩
   have hM:=hI.start hx
   obtain ⟨xv,hxv,b,ex,hb⟩: ∃ xv,ys[dn]? =some xv/\ ∃ b,xv=.ref b/\H5 b=some (.tup (List.map kV x)):=by
    obtain ⟨x',h1,b,h2,h3⟩:=bQ hys5 (List.getElem?_eq_getElem (l:=ys) hdl)
    rw [hx]at h1
    cases h1
    exact ⟨_,List.getElem?_eq_getElem hdl,b,h2,h3⟩
   subst ex
   have hxk:x∈rks rd:=hI.sub x (List.mem_of_getElem? hx)
   obtain ⟨j,hj⟩:=List.getElem?_of_mem hxk
   have hjl:j<as.length:=by rw [las,<- lrk];exact (List.getElem?_eq_some_iff.mp hj).1
   have ha:as[j]? =some as[j]:=List.getElem?_eq_getElem hjl
   obtain ⟨zs,gz,hzs⟩:=hL j x as[j] hj ha
   have hvx:aU (zpA (rks rd) as) x=some (.ref as[j]):=eW (by rw [eE (by lia)];exact hok.nd) (re hj ha)
   refine ⟨_,rfl,_,rfl,po,ys,_,.ref b,rfl,rfl,SqL.of gpo5,a8 hxv,?_⟩
   refine ⟨_,rfl,_,_,rfl,rfl,?_⟩
   refine ⟨_,rfl,_,rfl,pr,.ref as[j],rfl,(by rw [<- hvx];exact DGet.t (k:=x) (S5 _ _ gpr) hb),as[j],rfl,⟨_,SqL.of (S5 _ _ gz)⟩,?_⟩
   have lzs:zs.length=(cf rd x).length:=Paired.length hzs
   refine cY (xs:=zs) (fun m σ H'=>m<=zs.length/\ ∃ (o7:Option V) (ord:List KK) (c:KK->Int) (ys:List V) (kv:List (KK×V)),σ=[some (.ref d),some (.ref pr),some (.ref sc),some (.ref b),o4,some (.ref po),some (.int ((dn:Int) +1)),o7]/\Same H1 H'/\H' po=some (.lst ys)/\KsOf H' ys ord/\H' sc=some (.dT kv)/\kv.length=rd.length/\(∀ k∈rks rd,aU kv k=some (.int (c k)))/\OMid rd c ord dn x m)
    ⟨Nat.zero_le _,o7,ord,c,ys,kv,rfl,S5,gpo5,hys5,gs5,lkv5,hv5,hM⟩ (fun m σ H' _ h=>by obtain ⟨_,_,_,_,_,_,_,s',_⟩:=h;exact SqL.of (s' _ _ gz)) ?_ ?_
   ·rintro m yv σ H6 hyv ⟨hm,o7,ord,c,ys,kv,rfl,S6,gpo6,hys6,gs6,lkv6,hv6,hM6⟩
    have hml:m<zs.length:=(List.getElem?_eq_some_iff.mp hyv).1
    obtain ⟨r,hr',br,er,hbr⟩: ∃ r,(cf rd x)[m]? =some r/\ ∃ br,yv=.ref br/\H1 br=some (.tup (List.map kV r)):=by
     obtain ⟨r,h1,b,h2,h3⟩:=bQ hzs hyv
     exact ⟨r,h1,b,h2,h3⟩
    subst er
    obtain ⟨hz0,hn0,hrk⟩:=hM6.step hok hr'
    have hbr6:=S6 _ _ hbr
    refine ⟨_,rfl,_,rfl,sc,.int (c r),rfl,(by rw [<- hv6 r hrk];exact DGet.t (k:=r) gs6 hbr6),_,_,rfl,rfl,_,DPut.t (k:=r) gs6 hbr6 (ao (by lia)),?_⟩
    have hlp:(bp kv r (V.int (c r-1))).length=rd.length:=by rw [hX (hv6 r hrk)];exact lkv6
    have hvp: ∀ k∈rks rd,aU (bp kv r (V.int (c r-1))) k=some (.int (upC c r (c r-1) k)):=fun k hk=>by
     rw [cK]
     unfold upC
     by_cases ck:k=r
     ·rw [if_pos ck,if_pos ck]
     ·rw [if_neg ck,if_neg ck];exact hv6 k hk
    have g7:(upd H6 sc (.dT (bp kv r (V.int (c r-1))))) sc=some (.dT (bp kv r (V.int (c r-1)))):=ab
    have S7:Same H1 (upd H6 sc (.dT (bp kv r (V.int (c r-1))))):=fun b u h=>by rw [ah (af h hsc)];exact S6 _ _ h
    have gpo7:(upd H6 sc (.dT (bp kv r (V.int (c r-1))))) po=some (.lst ys):=by rw [ah nps];exact gpo6
    have tk7:TK H6 (upd H6 sc (.dT (bp kv r (V.int (c r-1))))):=fun b xs h=>by rw [ah (fun z=>by rw [z,gs6]at h;cases h)];exact h
    have hys7:=hys6.mono fun b xs hb=>tk7 _ _ hb
    generalize upd H6 sc (.dT (bp kv r (V.int (c r-1))))=H7 at g7 S7 gpo7 tk7 hys7 ⊢
    have hbr7:=S7 _ _ hbr
    refine ⟨_,rfl,_,rfl,sc,.int (c r-1),rfl,(by rw [show V.int (c r-1)=V.int (upC c r (c r-1) r) by unfold upC;rw [if_pos rfl],<- hvp r hrk];exact DGet.t (k:=r) g7 hbr7),rfl,_,rfl,?_⟩
    refine c8 (fun c1=>?_) (fun c1=>?_)
    ·have e0:=V.int.inj (of_decide_eq_true c1)
     have hM7:=hz0 e0
     have lo:=(show (ord++[r]).length<=rd.length from by
      have:=de hM7.nd hM7.sub
      rw [lrk]at this
      exact this)
     rw [List.length_append]at lo
     have ly7:ys.length=ord.length:=Paired.length hys7
     have lo:ord.length+1<=rd.length:=lo
     refine ⟨_,rfl,.inl ⟨rfl,_,SqL.of gpo7⟩,_,rfl,po,ys,.ref br,rfl,rfl,gpo7,ao (by lia),?_⟩
     have tk8:TK H7 (upd H7 po (.lst (ys++[.ref br]))):=TK.lst gpo7
     refine ⟨hml,_,ord++[r],_,ys++[.ref br],_,rfl,fun b u h=>?_,ab,Paired.snoc (hys7.mono fun b xs hb=>tk8 _ _ hb) ⟨br,rfl,tk8 _ _ hbr7⟩,?_,hlp,hvp,hM7⟩
     ·rw [ah (af h hpo1)];exact S7 _ _ h
     ·rw [ah (Ne.symm nps)];exact g7
    ·have e0:c r-1≠0:=fun z=>c1 (decide_eq_true (by rw [z]))
     exact ⟨hml,_,ord,_,ys,_,rfl,S7,gpo7,hys7,g7,hlp,hvp,hn0 e0⟩
   ·rintro σ H6 ⟨_,o7,ord,c,ys,kv,rfl,S6,gpo6,hys6,gs6,lkv6,hv6,hM6⟩
    have hI6:=hM6.fin hok lzs
    refine ⟨⟨_,_,_,dn+1,ord,c,ys,kv,rfl,S6,gpo6,hys6,gs6,lkv6,hv6,hI6⟩,?_⟩
    have:=hI6.le
    have:=hI6.len
    show rd.length- ((dn:Int) +1).toNat<rd.length- ((dn:Nat):Int).toNat
    lia
  ·have hle:=hI.le
   have hdn:dn=ord.length:=by
    have: ¬ ((dn:Int) < (ys.length:Int)):=fun z=>cc (decide_eq_true z)
    lia
   subst hdn
   exact ⟨_,rfl,q po ys ord c H5 (S1.trans S5) (hfree po hpoF) gpo5 hys5 hI⟩
 ·rintro σ H5 Q1 Q2 hq ⟨y,e1,z,e2,p,ys,e3,h2,i,j,e4,e5,k,e6,h⟩
  exact ⟨y,e1,z,e2,p,ys,e3,h2,i,j,e4,e5,k,e6,hq _ _ h⟩
noncomputable def RK (ks:List Key):Prop:=(∃ x:Str,ks=[.inr "own",.inr x]/\x.length<=1000)\/ ∃ (i:Int) (x:Str),ks=[.inr "part",.inl i,.inr x]/\x.length<=1000
inductive Tw (H:Hp):List V->List V->List (List Key)->Prop where
 | nil:Tw H [] [] []
 | rd {a:Addr} {ks:List Key} {vs out:List V} {rs:List (List Key)}:H a=some (.tup (ks.map kV))->RK ks->Tw H vs out rs->Tw H (.ref a::vs) (.ref a::out) (ks::rs)
 | num {a:Addr} {r vs out:List V} {rs:List (List Key)}:H a=some (.tup (.str "num"::r))->r.length<=3->Tw H vs out rs->Tw H (.ref a::vs) (.ref a::out) rs
 | inn {a:Addr} {k:Str} {r vs out:List V} {rs:List (List Key)}:H a=some (.tup (.str k::r))->(cr k).isSome=true->k.length<=1000->r.length<=3->Tw H (r++vs) out rs->Tw H (.ref a::vs) (.ref a::out) rs
theorem Tw.mono {H H':Hp} {ws out:List V} {rs:List (List Key)} (t:TK H H') (h:Tw H ws out rs):Tw H' ws out rs:=by
 induction h with
 | nil=>exact .nil
 | rd a b _ ih=>exact .rd (t _ _ a) b ih
 | num a b _ ih=>exact .num (t _ _ a) b ih
 | inn a b c d _ ih=>exact .inn (t _ _ a) b c d ih
theorem Tw.len {H:Hp} {ws out:List V} {rs:List (List Key)} (h:Tw H ws out rs):ws.length<=out.length:=by
 induction h with
 | nil=>exact Nat.le_refl _
 | rd _ _ _ ih=>exact Nat.succ_le_succ ih
 | num _ _ _ ih=>exact Nat.succ_le_succ ih
 | inn _ _ _ _ _ ih=>
  rw [List.length_append]at ih
  rw [List.length_cons,List.length_cons]
  lia
theorem kQ {ks:List Key} (h:RK ks): ∃ (k:Str) (r:List V),ks.map kV=.str k::r/\(k="own"\/k="part")/\r.length<=3/\cr k=none:=by
 rcases h with ⟨x,rfl,_⟩ | ⟨i,x,rfl,_⟩
 ·exact ⟨"own",_,rfl,.inl rfl,by simp,dN⟩
 ·exact ⟨"part",_,rfl,.inr rfl,by simp,du⟩
theorem Tw.ts {H:Hp} {ws out:List V} {rs:List (List Key)} (h:Tw H ws out rs):Ts H ws out:=by
 induction h with
 | nil=>exact .nil
 | @rd a ks vs out rs ha hk t ih=>
  obtain ⟨k,r,e,hk2,hl,hi⟩:=kQ hk
  rw [e]at ha
  refine .cons ha ?_ hl ?_
  ·rcases hk2 with rfl | rfl <;> decide +kernel
  ·have:bf (.str k::r)=[]:=by simp only [bf,hi];rfl
   rw [this]
   exact ih
 | @num a r vs out rs ha hl t ih=>
  refine .cons ha (by decide +kernel) hl ?_
  have:bf (.str "num"::r)=[]:=by simp only [bf,fh];rfl
  rw [this]
  exact ih
 | @inn a k r vs out rs ha hi hk hl t ih=>
  refine .cons ha hk hl ?_
  have:bf (.str k::r)=r:=by simp only [bf,hi];rfl
  rw [this]
  exact ih
inductive Tr (H:Hp):List V->List (List Key)->Prop where
 | nil:Tr H [] []
 | rd {a:Addr} {ks:List Key} {out:List V} {rs:List (List Key)}:H a=some (.tup (ks.map kV))->RK ks->Tr H out rs->Tr H (.ref a::out) (ks::rs)
 | no {a:Addr} {k:Str} {r out:List V} {rs:List (List Key)}:H a=some (.tup (.str k::r))-> ¬ k="own"-> ¬ k="part"->Tr H out rs->Tr H (.ref a::out) rs
theorem Tw.tr {H:Hp} {ws out:List V} {rs:List (List Key)} (h:Tw H ws out rs):Tr H out rs:=by
 induction h with
 | nil=>exact .nil
 | rd a b _ ih=>exact .rd a b ih
 | num a _ _ ih=>exact .no a (by decide +kernel) (by decide +kernel) ih
 | @inn a k r vs out rs ha hi _ _ _ ih=>
  refine .no ha (fun e=>?_) (fun e=>?_) ih
  ·rw [e,dN]at hi;cases hi
  ·rw [e,du]at hi;cases hi
noncomputable def dd (acc:List (List Key)):List (List Key)->List (List Key)
 | []=>acc
 | k::r=>dd (if k∈acc then acc else acc++[k]) r
theorem oy {P:List Key->Prop}: ∀ {rs acc:List (List Key)},(∀ k∈acc,P k)->(∀ k∈rs,P k)-> ∀ k∈dd acc rs,P k
 | [],_,h,_=>h
 | x::r,acc,h,h2=>by
  refine oy (rs:=r) (fun k hk=>?_) fun k hk=>h2 k (List.mem_cons_of_mem _ hk)
  by_cases e:x∈acc
  ·rw [if_pos e]at hk;exact h k hk
  ·rw [if_neg e]at hk
   rcases List.mem_append.mp hk with z | z
   ·exact h k z
   ·rw [List.mem_singleton.mp z];exact h2 x List.mem_cons_self
theorem oA: ∀ {rs acc:List (List Key)},(dd acc rs).length<=acc.length+rs.length
 | [],acc=>Nat.le_refl _
 | x::r,acc=>by
  have:=oA (rs:=r) (acc:=if x∈acc then acc else acc++[x])
  show (dd (if x∈acc then acc else acc++[x]) r).length<=acc.length+ (r.length+1)
  refine Nat.le_trans this ?_
  split
  ·lia
  ·rw [List.length_append,List.length_singleton];lia
theorem mw (kvs:List (List Key×V)) (k:List Key) (v:V):(bp kvs k v).map (·.1)=if k∈kvs.map (·.1)then kvs.map (·.1)else kvs.map (·.1)++[k]:=by
 unfold bp
 by_cases h:k∈kvs.map (·.1)
 ·rw [if_pos h,if_pos,List.map_map]
  ·refine List.map_congr_left fun x _=>?_
   show (if x.1=k then (x.1,v)else x).1=x.1
   split <;> rfl
  ·obtain ⟨x,hx,e⟩:=List.mem_map.mp h
   exact List.any_eq_true.mpr ⟨x,hx,decide_eq_true e⟩
 ·rw [if_neg h,if_neg,List.map_append]
  ·rfl
  ·intro z
   obtain ⟨x,hx,e⟩:=List.any_eq_true.mp z
   exact h (List.mem_map.mpr ⟨x,hx,of_decide_eq_true e⟩)
theorem hG (k:Str):inV (.str k) [.str "own",.str "part"]=(decide (k="own")||decide (k="part")):=by
 show (("own"==k)||(("part"==k)||false))=_
 rw [Bool.or_false]
 by_cases h1:k="own"
 ·subst h1;decide +kernel
 ·by_cases h2:k="part"
  ·subst h2;decide +kernel
  ·rw [decide_eq_false h1,decide_eq_false h2]
   have e1:(("own":Str)==k)=false:=beq_eq_false_iff_ne.mpr fun e=>h1 e.symm
   have e2:(("part":Str)==k)=false:=beq_eq_false_iff_ne.mpr fun e=>h2 e.symm
   rw [e1,e2]
noncomputable def ic:Sp:=fun vs H Q _=> ∃ v out rs,vs=[v]/\Tw H [v] out rs/\out.length<=1000/\ ∀ p ys H',H p=none->Same H H'->H' p=some (.lst ys)->KsOf H' ys (dd [] rs)->Q (.ref p) H'
theorem scReads:ay ["formula","found","one"] ["formula"] (ak nC):=fsc
theorem sW (F:Fun K "readings_of" "readings_of" nC f fd) (hlist:mg "list"=none) (mR:mg "READINGS"=some (.ref aR)) (hR: ∀ H,SqT K H aR [.str "own",.str "part"])
  (GT:ar P w K mg base CX0 2 f2 fd2 ["formula"] fR) (bT:Binds K fd2 ["formula"] []) (kT:PySem.W.keepIn K (.ref f2)=true) (mT:mg "tuples_of"=some (.ref f2)):
  ar P w K mg base CX0 3 f fd ["formula"] ic:=by
 refine F.ok scReads (fun vs H Q E h=>?_) (fun cdv A outer s H vs Q E hr h=>?_)
 ·obtain ⟨v,b,_,rfl,_⟩:=h
  rfl
 obtain ⟨v,out,rs,rfl,hT,hout,q⟩:=h
 have hu:=hr.units
 refine ⟨_,ae (am (i:=1) scReads.nd rfl (Or.inl rfl) cx)
  (ae (bd PassesOwn.never rfl (cO (al GT hr rfl mT kT bT .nil aq (aa (pv 0) ad))) (av (i:=2) scReads.nd rfl (Or.inl rfl))
   (aj (bh (aC dJ (aF aW (pv 2) ai (fun _ _=>rfl)) (gb (v:=.ref aR) rfl mR rfl) (by with_unfolding_all rfl))
    (aj (cC (cW hr) (pv 1) (pv 2) gW rfl)) aN)))
  (aj (aB (aT (oE rfl) rfl hlist (by decide +kernel) (aa (pv 1) ad))))),?_⟩
 refine fun pd hd=>?_
 have s0:=ag hd (.dT [])
 have g0:(upd H pd (.dT [])) pd=some (.dT []):=ab
 generalize upd H pd (.dT [])=H0 at s0 g0 ⊢
 refine ⟨_,rfl,v,out,rfl,(hT.mono (fun _ _ h=>s0 _ _ h)).ts,hout,fun p1 H1 s1 h1=>⟨p1,rfl,⟨out,SqL.of h1⟩,?_⟩⟩
 have S1:=s0.trans s1
 have n1:pd≠p1:=fun e=>by
  subst e
  have:=s1 _ _ g0
  rw [h1]at this
  cases this
 refine cY (xs:=out) (fun i σ H'=>i<=out.length/\ ∃ o kvs rs',σ=[some v,some (.ref pd),o]/\H' pd=some (.dT kvs)/\H' p1=some (.lst out)/\Same H H'/\Tr H (out.drop i) rs'/\dd (kvs.map (·.1)) rs'=dd [] rs/\kvs.length<=i)
  ⟨Nat.zero_le _,none,[],rs,rfl,s1 _ _ g0,h1,S1,hT.tr,rfl,Nat.le_refl _⟩ (fun i σ H' _ h=>by obtain ⟨_,_,_,_,_,_,gp,_⟩:=h;exact SqL.of gp) ?_ ?_
 ·rintro i x σ H' hx ⟨hi,o,kvs,rs',rfl,gd,gp,sm,hTr,hdd,hl⟩
  have hlt:i<out.length:=(List.getElem?_eq_some_iff.mp hx).1
  have hdr:out.drop i=x::out.drop (i+1):=by
   rw [List.drop_eq_getElem_cons hlt]
   have:out[i]? =some out[i]:=List.getElem?_eq_getElem hlt
   rw [hx]at this
   rw [Option.some.inj this]
  rw [hdr]at hTr
  cases hTr with
  | @rd a ks _ rs'' ha hk t=>
   obtain ⟨k,r,e,hk2,_,_⟩:=kQ hk
   have ha':=sm _ _ ha
   refine ⟨_,rfl,a,_,0,_,rfl,rfl,SqT.of (by rw [<- e];exact ha'),cz,aR,_,rfl,.inr (hR _),rfl,rfl,_,rfl,?_⟩
   refine c8 (fun _=>?_) (fun c=>absurd ?_ c)
   ·refine ⟨_,rfl,_,rfl,pd,_,rfl,DPut.t gd ha' (ao (by lia)),?_⟩
    refine ⟨hlt,_,_,rs'',rfl,ab,by rw [ah (Ne.symm n1)];exact gp,fun c oo h=>by rw [ah (af h hd)];exact sm c oo h,t,?_,?_⟩
    ·rw [mw];exact hdd
    ·have:=congrArg List.length (mw kvs ks (.bl true))
     rw [List.length_map]at this
     rw [this]
     split
     ·rw [List.length_map];lia
     ·rw [List.length_append,List.length_map,List.length_singleton];lia
   ·show inV (.str k) [.str "own",.str "part"]=true
    rw [hG]
    rcases hk2 with rfl | rfl <;> rfl
  | @no a k r _ _ ha h1' h2' t=>
   refine ⟨_,rfl,a,_,0,_,rfl,rfl,SqT.of (sm _ _ ha),cz,aR,_,rfl,.inr (hR _),rfl,rfl,_,rfl,?_⟩
   refine c8 (fun c=>absurd c ?_) (fun _=>?_)
   ·show ¬ inV (.str k) [.str "own",.str "part"]=true
    rw [hG,decide_eq_false h1',decide_eq_false h2']
    decide
   ·exact ⟨hlt,_,_,rs',rfl,gd,gp,sm,t,hdd,by lia⟩
 ·rintro σ H' ⟨_,o,kvs,rs',rfl,gd,gp,sm,hTr,hdd,hl⟩
  rw [List.drop_length]at hTr
  cases hTr
  refine ⟨_,rfl,pd,kvs,rfl,gd,fun p ys hp hk=>?_⟩
  have e:kvs.map (·.1)=dd [] rs:=hdd
  rw [e]at hk
  exact q p ys _ (sm.free hp) (fun c oo h=>by rw [ah (af (sm c oo h) hp)];exact sm c oo h) ab (hk.mono fun b xs h=>by rw [ah (af h hp)];exact h)
noncomputable def ie:Sp:=fun vs H Q _=> ∃ a ks,vs=[.ref a]/\H a=some (.tup (List.map kV ks))/\RK ks/\ ∀ p (i:Int) (x:Str),((ks=[.inr "own",.inr x]/\i= -1)\/ks=[.inr "part",.inl i,.inr x])->H p=none->Q (.ref p) (upd H p (.tup [.int i,.str x]))
theorem uF:ay ["reading"] ["reading"] (ak nF):=fsc
theorem tm (F:Fun K "key_of" "key_of" nF f fd):ar P w K mg base CX0 1 f fd ["reading"] ie:=by
 refine F.ok uF (fun vs H Q E h=>?_) (fun cdv A outer s H vs Q E hr h=>?_)
 ·obtain ⟨a,ks,rfl,_⟩:=h
  rfl
 obtain ⟨a,ks,rfl,ha,hk,q⟩:=h
 refine ⟨_,aj (aB (eP (aC cq (aF aW (pv 0) ai (fun _ _=>rfl)) aL (aJ _))
  (aK (aa (pc j7 ai) (aa (aF aW (pv 0) ai (fun _ _=>rfl)) ad)))
  (aK (aa (aF aW (pv 0) ai (fun _ _=>rfl)) (aa (aF aW (pv 0) ai (fun _ _=>rfl)) ad))))),?_⟩
 rcases hk with ⟨x,rfl,_⟩ | ⟨i,x,rfl,_⟩
 ·refine ⟨_,rfl,a,_,0,.str "own",rfl,rfl,SqT.of ha,cz,rfl,true,(by rw [decide_eq_true rfl]),cH ?_⟩
  refine ⟨1,rfl,_,rfl,a,_,1,.str x,rfl,rfl,SqT.of ha,a8 (j:=1) rfl,(by show 2<=sizeLine;decide),fun p hp=>q p (-1) x (.inl ⟨rfl,rfl⟩) hp⟩
 ·refine ⟨_,rfl,a,_,0,.str "part",rfl,rfl,SqT.of ha,cz,rfl,false,(by rw [decide_eq_false (by decide +kernel)]),bu ?_⟩
  refine ⟨_,rfl,a,_,1,.int i,rfl,rfl,SqT.of ha,a8 (j:=1) rfl,_,rfl,a,_,2,.str x,rfl,rfl,SqT.of ha,a8 (j:=2) rfl,(by show 2<=sizeLine;decide),fun p hp=>q p i x (.inr rfl) hp⟩
noncomputable def Fm.rdk:Fm->List (List Key)
 | .num _=>[]
 | .own x=>[[.inr "own",.inr x]]
 | .part k x=>[[.inr "part",.inl k,.inr x]]
 | .bin _ a b=>a.rdk++b.rdk
 | .whn a b c=>a.rdk++(b.rdk++c.rdk)
noncomputable def fsz:List Fm->Nat
 | []=>0
 | f::r=>f.size+fsz r
noncomputable def kU:List Fm->List (List Key)
 | []=>[]
 | f::r=>f.rdk++kU r
theorem Tw.of {H:Hp}: ∀ (n:Nat) {fs:List Fm} {ws:List V},fsz fs=n->Paired (fun f v=>Rep H f v/\f.wf) fs ws-> ∃ out,Tw H ws out (kU fs)/\out.length=n:=by
 intro n
 induction n using Nat.strongRecOn with
 | _ n ih=>
  intro fs ws hn h
  cases h with
  | nil=>exact ⟨[],.nil,hn⟩
  | @cons f v fs ws hf t=>
   obtain ⟨rp,wf⟩:=hf
   have hn:f.size+fsz fs=n:=hn
   cases f with
   | num i=>
    obtain ⟨a,rfl,ha⟩:=rp
    have hn:1+fsz fs=n:=hn
    obtain ⟨out,h1,h2⟩:=ih (fsz fs) (by lia) rfl t
    exact ⟨_,.num ha (by simp) h1,by rw [List.length_cons,h2];lia⟩
   | own x=>
    obtain ⟨a,rfl,ha⟩:=rp
    have hn:1+fsz fs=n:=hn
    obtain ⟨out,h1,h2⟩:=ih (fsz fs) (by lia) rfl t
    exact ⟨_,.rd (ks:=[.inr "own",.inr x]) ha (.inl ⟨x,rfl,bw wf⟩) h1,by rw [List.length_cons,h2];lia⟩
   | part k x=>
    obtain ⟨a,rfl,ha⟩:=rp
    obtain ⟨w0,w1⟩:(0<=k/\k<=2)/\cJ x=true:=wf
    have hn:1+fsz fs=n:=hn
    obtain ⟨out,h1,h2⟩:=ih (fsz fs) (by lia) rfl t
    exact ⟨_,.rd (ks:=[.inr "part",.inl k,.inr x]) ha (.inr ⟨k,x,rfl,bw w1⟩) h1,by rw [List.length_cons,h2];lia⟩
   | bin op A B=>
    obtain ⟨a,u,w,rfl,ha,r1,r2⟩:=rp
    obtain ⟨ho,w1,w2⟩:op∈ops/\A.wf/\B.wf:=wf
    have hn:A.size+B.size+1+fsz fs=n:=hn
    obtain ⟨out,h1,h2⟩:=ih (A.size+ (B.size+fsz fs)) (by lia) (fs:=A::B::fs) rfl (.cons ⟨r1,w1⟩ (.cons ⟨r2,w2⟩ t))
    refine ⟨.ref a::out,?_,by rw [List.length_cons,h2];lia⟩
    rw [show kU (Fm.bin op A B::fs)=kU (A::B::fs)from List.append_assoc _ _ _]
    exact .inn ha (by rw [gN ho];rfl) (fe ho) (by simp) h1
   | whn A B C=>
    obtain ⟨a,u,w,z,rfl,ha,r1,r2,r3⟩:=rp
    obtain ⟨w1,w2,w3⟩:A.wf/\B.wf/\C.wf:=wf
    have hn:A.size+B.size+C.size+1+fsz fs=n:=hn
    obtain ⟨out,h1,h2⟩:=ih (A.size+ (B.size+ (C.size+fsz fs))) (by lia) (fs:=A::B::C::fs) rfl (.cons ⟨r1,w1⟩ (.cons ⟨r2,w2⟩ (.cons ⟨r3,w3⟩ t)))
    refine ⟨.ref a::out,?_,by rw [List.length_cons,h2];lia⟩
    rw [show kU (Fm.whn A B C::fs)=kU (A::B::C::fs)from by show (A.rdk++(B.rdk++C.rdk))++kU fs=A.rdk++(B.rdk++(C.rdk++kU fs));rw [List.append_assoc,List.append_assoc]]
    exact .inn ha (by rw [i7];rfl) (by decide +kernel) (by simp) h1
theorem Tw.of1 {H:Hp} {f:Fm} {v:V} (r:Rep H f v) (wf:f.wf): ∃ out,Tw H [v] out f.rdk/\out.length=f.size:=by
 obtain ⟨out,h1,h2⟩:=Tw.of (H:=H) f.size (fs:=[f]) (ws:=[v]) rfl (.cons ⟨r,wf⟩ .nil)
 rw [show kU [f]=f.rdk from List.append_nil _]at h1
 exact ⟨out,h1,h2⟩
theorem dd_iff {ks:List Key}: ∀ {rs acc:List (List Key)},ks∈dd acc rs↔ks∈acc\/ks∈rs
 | [],acc=>by
  show ks∈acc↔_
  exact ⟨.inl,fun h=>h.elim id fun z=>by cases z⟩
 | x::r,acc=>by
  show ks∈dd (if x∈acc then acc else acc++[x]) r↔_
  rw [dd_iff (rs:=r),List.mem_cons]
  by_cases h:x∈acc
  ·rw [if_pos h]
   exact ⟨fun z=>z.elim .inl fun z=>.inr (.inr z),fun z=>z.elim .inl fun z=>z.elim (fun e=>.inl (by rw [e];exact h)) .inr⟩
  ·rw [if_neg h,List.mem_append,List.mem_singleton]
   exact ⟨fun z=>z.elim (fun z=>z.elim .inl fun z=>.inr (.inl z)) fun z=>.inr (.inr z),fun z=>z.elim (fun z=>.inl (.inl z)) fun z=>z.elim (fun z=>.inl (.inr z)) .inr⟩
theorem cg {α β γ:Type} {F:β->γ->Prop} {g:α->β}: ∀ {l:List α} {r:List γ},Paired (fun a c=>F (g a) c) l r->Paired F (l.map g) r
 | _,_,.nil=>.nil
 | _,_,.cons a t=>.cons a (cg t)
theorem vJ: ∀ {rs acc:List (List Key)},acc.Nodup->(dd acc rs).Nodup
 | [],_,h=>h
 | x::r,acc,h=>by
  refine vJ (rs:=r) ?_
  by_cases c:x∈acc
  ·rw [if_pos c];exact h
  ·rw [if_neg c,List.nodup_append]
   exact ⟨h,List.pairwise_singleton _ _,fun a ha b hb e=>c (by rw [List.mem_singleton]at hb;rw [<- hb,<- e];exact ha)⟩
noncomputable def pk (i:Int) (x:Str):KK:=[.inl i,.inr x]
noncomputable def l2p:KK->KK
 | [_,.inr x]=>pk (-1) x
 | [_,.inl k,.inr x]=>pk k x
 | k=>k
noncomputable def kyP:Fm->Option KK
 | .own x=>some (pk (-1) x)
 | .part k x=>some (pk k x)
 | _=>none
noncomputable def iC (rs:List Rul) (k:KK):Option Fm:=(rs.find? fun r=>decide (aE r=k)).map Rul.fm
inductive Unf (rs:List Rul):Fm->Fm->Prop where
 | num (n:Int):Unf rs (.num n) (.num n)
 | keep {f:Fm} {k:KK} (h:kyP f=some k) (t:iC rs k=none):Unf rs f f
 | put {f h g:Fm} {k:KK} (e:kyP f=some k) (t:iC rs k=some h) (u:Unf rs h g):Unf rs f g
 | bin {op:Str} {a b a' b':Fm} (h1:Unf rs a a') (h2:Unf rs b b'):Unf rs (.bin op a b) (.bin op a' b')
 | whn {a b c a' b' c':Fm} (h1:Unf rs a a') (h2:Unf rs b b') (h3:Unf rs c c'):Unf rs (.whn a b c) (.whn a' b' c')
theorem Unf.det {rs:List Rul} {f g:Fm} (h:Unf rs f g): ∀ {g':Fm},Unf rs f g'->g=g':=by
 induction h with
 | num n=>
  intro g' h'
  cases h' with
  | num=>rfl
  | keep e _=>rfl
  | put e _ _=>cases e
 | keep h t=>
  intro g' h'
  cases h' with
  | num=>cases h
  | keep _ _=>rfl
  | put e t' _=>rw [h]at e;cases e;rw [t]at t';cases t'
  | bin _ _=>cases h
  | whn _ _ _=>cases h
 | put e t u ih=>
  intro g' h'
  cases h' with
  | num=>cases e
  | keep e' t'=>rw [e]at e';cases e';rw [t]at t';cases t'
  | put e' t' u'=>rw [e]at e';cases e';rw [t]at t';cases t';exact ih u'
  | bin _ _=>cases e
  | whn _ _ _=>cases e
 | bin h1 h2 ih1 ih2=>
  intro g' h'
  cases h' with
  | keep e _=>cases e
  | put e _ _=>cases e
  | bin q1 q2=>rw [ih1 q1,ih2 q2]
 | whn h1 h2 h3 ih1 ih2 ih3=>
  intro g' h'
  cases h' with
  | keep e _=>cases e
  | put e _ _=>cases e
  | whn q1 q2 q3=>rw [ih1 q1,ih2 q2,ih3 q3]
noncomputable def Fm.sub (M:KK->Option Fm):Fm->Fm
 | .num n=>.num n
 | .own x=>(M (pk (-1) x)).getD (.own x)
 | .part k x=>(M (pk k x)).getD (.part k x)
 | .bin op a b=>.bin op (a.sub M) (b.sub M)
 | .whn a b c=>.whn (a.sub M) (b.sub M) (c.sub M)
noncomputable def Fm.pks:Fm->List KK
 | .num _=>[]
 | .own x=>[pk (-1) x]
 | .part k x=>[pk k x]
 | .bin _ a b=>a.pks++b.pks
 | .whn a b c=>a.pks++(b.pks++c.pks)
noncomputable def Fm.szw (Z:KK->Option Nat):Fm->Nat
 | .num _=>1
 | .own x=>(Z (pk (-1) x)).getD 1
 | .part k x=>(Z (pk k x)).getD 1
 | .bin _ a b=>a.szw Z+b.szw Z+1
 | .whn a b c=>a.szw Z+b.szw Z+c.szw Z+1
theorem dX {M:KK->Option Fm}: ∀ f:Fm,f.szw (fun k=>(M k).map Fm.size)=(f.sub M).size
 | .num _=>rfl
 | .own x=>by
  show ((M (pk (-1) x)).map Fm.size).getD 1=((M (pk (-1) x)).getD (.own x)).size
  cases M (pk (-1) x) <;> rfl
 | .part k x=>by
  show ((M (pk k x)).map Fm.size).getD 1=((M (pk k x)).getD (.part k x)).size
  cases M (pk k x) <;> rfl
 | .bin _ a b=>by
  show a.szw _+b.szw _+1=(a.sub M).size+ (b.sub M).size+1
  rw [dX a,dX b]
 | .whn a b c=>by
  show a.szw _+b.szw _+c.szw _+1=(a.sub M).size+ (b.sub M).size+ (c.sub M).size+1
  rw [dX a,dX b,dX c]
noncomputable def xV (rs:List Rul) (M:KK->Option Fm):Prop:= ∀ k g,M k=some g-> ∃ h,iC rs k=some h/\Unf rs h g
theorem dU {rs:List Rul} {M:KK->Option Fm} (hM:xV rs M): ∀ {f:Fm},(∀ k∈f.pks,(iC rs k).isSome=true->(M k).isSome=true)->Unf rs f (f.sub M)
 | .num n,_=>.num n
 | .own x,h=>by
  have h:=h _ List.mem_cons_self
  show Unf rs (.own x) ((M (pk (-1) x)).getD (.own x))
  cases e:M (pk (-1) x)with
  | none=>
   refine .keep (k:=pk (-1) x) rfl ?_
   cases t:iC rs (pk (-1) x)with
   | none=>rfl
   | some _=>rw [t,e]at h;exact absurd (h rfl) (by decide)
  | some g=>
   obtain ⟨f,t,u⟩:=hM _ _ e
   exact .put (k:=pk (-1) x) rfl t u
 | .part k x,h=>by
  have h:=h _ List.mem_cons_self
  show Unf rs (.part k x) ((M (pk k x)).getD (.part k x))
  cases e:M (pk k x)with
  | none=>
   refine .keep (k:=pk k x) rfl ?_
   cases t:iC rs (pk k x)with
   | none=>rfl
   | some _=>rw [t,e]at h;exact absurd (h rfl) (by decide)
  | some g=>
   obtain ⟨f,t,u⟩:=hM _ _ e
   exact .put (k:=pk k x) rfl t u
 | .bin _ a b,h=>.bin (dU hM fun k hk=>h k (List.mem_append_left _ hk)) (dU hM fun k hk=>h k (List.mem_append_right _ hk))
 | .whn a b c,h=>.whn (dU hM fun k hk=>h k (List.mem_append_left _ hk)) (dU hM fun k hk=>h k (List.mem_append_right _ (List.mem_append_left _ hk))) (dU hM fun k hk=>h k (List.mem_append_right _ (List.mem_append_right _ hk)))
theorem ef: ∀ f:Fm,f.rdk.map l2p=f.pks
 | .num _=>rfl
 | .own _=>rfl
 | .part _ _=>rfl
 | .bin _ a b=>by
  show (a.rdk++b.rdk).map l2p=a.pks++b.pks
  rw [List.map_append,ef a,ef b]
 | .whn a b c=>by
  show (a.rdk++(b.rdk++c.rdk)).map l2p=a.pks++(b.pks++c.pks)
  rw [List.map_append,List.map_append,ef a,ef b,ef c]
noncomputable def tP (ks:KK):Prop:=(∃ x:Str,ks=[.inr "own",.inr x])\/ ∃ (i:Int) (x:Str),ks=[.inr "part",.inl i,.inr x]/\0<=i
theorem fG: ∀ {f:Fm},f.wf-> ∀ ks∈f.rdk,tP ks
 | .num _,_,ks,h=>by cases h
 | .own x,_,ks,h=>by rw [List.mem_singleton.mp h];exact .inl ⟨x,rfl⟩
 | .part k x,hw,ks,h=>by rw [List.mem_singleton.mp h];exact .inr ⟨k,x,rfl,hw.1.1⟩
 | .bin _ a b,hw,ks,h=>(List.mem_append.mp h).elim (fG hw.2.1 ks) (fG hw.2.2 ks)
 | .whn a b c,hw,ks,h=>(List.mem_append.mp h).elim (fG hw.1 ks) fun h=>(List.mem_append.mp h).elim (fG hw.2.1 ks) (fG hw.2.2 ks)
theorem pq {a b:KK} (ha:tP a) (hb:tP b) (e:l2p a=l2p b):a=b:=by
 rcases ha with ⟨x,rfl⟩ | ⟨i,x,rfl,hi⟩ <;> rcases hb with ⟨y,rfl⟩ | ⟨j,y,rfl,hj⟩
 ·have h:=(List.cons.inj (List.cons.inj e).2).1
  rw [Sum.inr.inj h]
 ·have h:=Sum.inl.inj (List.cons.inj e).1
  lia
 ·have h:=Sum.inl.inj (List.cons.inj e).1
  lia
 ·have h1:=Sum.inl.inj (List.cons.inj e).1
  have h2:=Sum.inr.inj (List.cons.inj (List.cons.inj e).2).1
  rw [h1,h2]
noncomputable def rdF (rs:List Rul):Rds:=rs.map fun r=>(aE r,((dd [] r.fm.rdk).map l2p).filter fun o=>decide (o∈rs.map aE))
structure RsOk (rs:List Rul):Prop where
 few:rs.length<=12
 nd:(rs.map aE).Nodup
 fm: ∀ r∈rs,r.fm.wf/\r.fm.size<=15
theorem dH (rs:List Rul):rks (rdF rs)=rs.map aE:=by
 unfold rks rdF
 rw [List.map_map]
 rfl
theorem i5 {α β:Type} {f:α->β}: ∀ {l:List α},l.Nodup->(∀ a∈l,∀ b∈l,f a=f b->a=b)->(l.map f).Nodup
 | [],_,_=>List.nodup_nil
 | x::r,nd,h=>by
  obtain ⟨n1,n2⟩:=List.nodup_cons.mp nd
  rw [List.map_cons,List.nodup_cons]
  refine ⟨fun hm=>?_,i5 n2 fun a ha b hb=>h a (List.mem_cons_of_mem _ ha) b (List.mem_cons_of_mem _ hb)⟩
  obtain ⟨y,hy,e⟩:=List.mem_map.mp hm
  have:=h x List.mem_cons_self y (List.mem_cons_of_mem _ hy) e.symm
  exact n1 (by rw [this];exact hy)
theorem RsOk.rd {rs:List Rul} (h:RsOk rs):RdOk (rdF rs):=by
 refine ⟨by rw [dH];exact h.nd,fun e he=>?_,fun e he o ho=>?_⟩
 ·obtain ⟨r,hr,rfl⟩:=List.mem_map.mp he
  have hrd: ∀ ks∈dd [] r.fm.rdk,tP ks:=oy (fun k hk=>by cases hk) (fG (h.fm r hr).1)
  exact (i5 (vJ List.nodup_nil) fun a ha b hb=>pq (hrd a ha) (hrd b hb)).sublist List.filter_sublist
 ·obtain ⟨r,hr,rfl⟩:=List.mem_map.mp he
  rw [dH]
  exact of_decide_eq_true (List.mem_filter.mp ho).2
theorem gB {rs:List Rul} (h:RsOk rs) {r:Rul} (hr:r∈rs):iC rs (aE r)=some r.fm:=by
 unfold iC
 cases hf:rs.find? (fun x=>decide (aE x=aE r))with
 | none=>exact absurd (decide_eq_true rfl) (List.find?_eq_none.mp hf r hr)
 | some r'=>
  have h1:=List.mem_of_find?_eq_some hf
  have h2:aE r'=aE r:=by simpa using List.find?_some hf
  obtain ⟨i,hi⟩:=List.getElem?_of_mem h1
  obtain ⟨j,hj⟩:=List.getElem?_of_mem hr
  have q1:(rs.map aE)[i]? =some (aE r):=by rw [List.getElem?_map,hi,<- h2];rfl
  have q2:(rs.map aE)[j]? =some (aE r):=by rw [List.getElem?_map,hj];rfl
  have:=lm h.nd q1 q2
  subst this
  rw [hi]at hj
  rw [Option.some.inj hj]
  rfl
theorem jw {rs:List Rul} {k:KK} (h:(iC rs k).isSome=true):k∈rs.map aE:=by
 unfold iC at h
 cases hf:rs.find? (fun x=>decide (aE x=k))with
 | none=>rw [hf]at h;cases h
 | some r'=>
  have h1:=List.mem_of_find?_eq_some hf
  have h2:aE r'=k:=by simpa using List.find?_some hf
  exact List.mem_map.mpr ⟨r',h1,h2⟩
theorem sC {rs:List Rul} (h:RsOk rs) {r:Rul} (hr:r∈rs) (k:KK):k∈cV (rdF rs) (aE r)↔k∈r.fm.pks/\k∈rs.map aE:=by
 have:=eO h.rd (e:=(aE r,((dd [] r.fm.rdk).map l2p).filter fun o=>decide (o∈rs.map aE))) (List.mem_map.mpr ⟨r,hr,rfl⟩)
 rw [show cV (rdF rs) (aE r)=_ from this,List.mem_filter,<- ef]
 constructor
 ·rintro ⟨h1,h2⟩
  obtain ⟨x,hx,rfl⟩:=List.mem_map.mp h1
  exact ⟨List.mem_map.mpr ⟨x,(dd_iff.mp hx).elim (fun z=>by cases z) id,rfl⟩,of_decide_eq_true h2⟩
 ·rintro ⟨h1,h2⟩
  obtain ⟨x,hx,rfl⟩:=List.mem_map.mp h1
  exact ⟨List.mem_map.mpr ⟨x,dd_iff.mpr (.inr hx),rfl⟩,decide_eq_true h2⟩
structure UOk (rs:List Rul) (U:KK->Fm):Prop where
 un: ∀ r∈rs,Unf rs r.fm (U (aE r))
 sz: ∀ r∈rs,(U (aE r)).size<=400
noncomputable def fB (dn:List KK) (U:KK->Fm) (k:KK):Option Fm:=if k∈dn then some (U k)else none
theorem oK {rs:List Rul} (h:RsOk rs) {U:KK->Fm} (hU:UOk rs U) {dn:List KK} (hs: ∀ k∈dn,k∈rs.map aE) {r:Rul} (hr:r∈rs) (ht: ∀ o∈cV (rdF rs) (aE r),o∈dn):r.fm.sub (fB dn U)=U (aE r):=by
 refine (dU (rs:=rs) (M:=fB dn U) (fun k g e=>?_) fun k hk hsm=>?_).det (hU.un r hr)
 ·unfold fB at e
  by_cases c:k∈dn
  ·rw [if_pos c]at e
   cases e
   obtain ⟨r',hr',rfl⟩:=List.mem_map.mp (hs k c)
   exact ⟨_,gB h hr',hU.un r' hr'⟩
  ·rw [if_neg c]at e;cases e
 ·have:=ht k ((sC h hr k).mpr ⟨hk,jw hsm⟩)
  unfold fB
  rw [if_pos this]
  rfl
end My
namespace HT
open PySem PySem.Spec PyProof.Rows
theorem len_des {prog:Program} {w:World} {A:Around} {E:Value->Shared->Prop} {s:Shared} {d:Addr} {ks:List Value} {ep:Nat} {Q:Value->Shared->Prop} (lo:(d==sysModules)=false) (m:DEs s.heap d ks ep) (hz:ks.length<=sizeLine)
  (q:Q (.int ks.length (s.toks+1)) {s with toks:=s.toks+1+1}):wpAny (model prog w) A (call (.builtin "len") [.ref d]) Q E s:=by
 have ty:=m.type
 obtain ⟨o,es,ho,hc,hdat,hk⟩:=m
 rw [sizeLine_eq]at hz
 refine call_len_slot (n:=(ks.length:Int)) ty PySem.F.slot_dict_len (fun Q' h'=>wpAny_call_entry PySem.F.slot_dict_len ty PySem.F.entry_dict_len ?_ (PySem.F.args_dict_len_1 _)) (by lia) (by lia) q
 show wpAny _ _ (dictSize d >>= _) _ _ s
 unfold dictSize
 refine wpAny_bind (wpAny_bind (wpAny_dictEntries ho hdat (wpAny_pure ?_)))
 show wpAny _ _ (Builtin.Dict.pendingCount d >>= _) _ _ s
 refine wpAny_bind (wpAny_pendingCount_other lo ?_)
 refine wpAny_ret_mkInt ?_
 rw [fb hk]
 simpa using h'
end HT
namespace L2
open PySem PySem.Spec PyProof.Rows
theorem jZ {X:Cx}:c5 X (.builtin "len") (fun xs H Q=> ∃ a o kvs,xs=[V.ref a]/\H a=some (.frz o (.dT kvs))/\Q (.int (kvs.length:Int)) H):=by
 intro pins s σ H xs us Q I r h
 obtain ⟨a,o,kvs,rfl,ha,q⟩:=h
 obtain ⟨u,rfl,ru⟩:=fq r
 cases ru
 obtain ⟨ys,kt,lo,hn,m,_,_⟩:=cX I ha
 have hz:=(show ObjOk X.prog X.w H s.heap a (.frz o (.dT kvs))from I.hok a _ ha).2.1
 have hl:ys.length=kvs.length:=(Paired.length kt).symm
 refine HT.len_des lo (gn m) (by rw [List.length_map];lia) ?_
 rw [List.length_map,hl]
 exact ⟨.int kvs.length,H,I.tok _,⟨_,rfl⟩,q⟩
end L2
namespace My
open PySem L2
noncomputable def KvR (H:Hp) (r:Rul) (kv:KK×V):Prop:=kv.1=aE r/\Rep H r.fm kv.2
theorem KvR.mono {H H':Hp} (t:TK H H') {r:Rul} {kv:KK×V} (h:KvR H r kv):KvR H' r kv:=⟨h.1,h.2.mono t⟩
theorem gj {H:Hp}: ∀ {rs:List Rul} {kvs:List (KK×V)},Paired (KvR H) rs kvs->kvs.map (·.1)=rs.map aE
 | _,_,.nil=>rfl
 | r::rs,kv::kvs,.cons h t=>by
  show kv.1::kvs.map (·.1)=aE r::rs.map aE
  rw [h.1,gj t]
noncomputable def fV:Sp:=fun vs H Q _=> ∃ v fr,vs=[v]/\RepF H fr v/\RsOk fr.rules/\ ∀ d kvs H',H d=none->Same H H'->H' d=some (.dT kvs)->Paired (KvR H') fr.rules kvs->Q (.ref d) H'
noncomputable def iI:Sp:=fun vs H Q _=> ∃ v fr,vs=[v]/\RepF H fr v/\RsOk fr.rules/\ ∀ d kvs H',H d=none->Same H H'->H' d=some (.dT kvs)->RdsAt H' (rdF fr.rules) kvs->Q (.ref d) H'
structure pR (rs:List Rul) (ord:List KK):Prop where
 nd:ord.Nodup
 sub: ∀ k∈ord,k∈rs.map aE
 all: ∀ r∈rs,aE r∈ord
 top: ∀ i k,ord[i]? =some k-> ∀ o∈cV (rdF rs) k,o∈ord.take i
 len:ord.length=rs.length
noncomputable def Acy (rs:List Rul):Prop:= ∃ L:List KK,(∀ k∈rs.map aE,k∈L)/\(∀ k∈L,k∈rs.map aE)/\ ∀ i k,L[i]? =some k-> ∀ o∈cV (rdF rs) k,o∈L.take i
noncomputable def lT:Sp:=fun vs H Q _=> ∃ v fr,vs=[v]/\RepF H fr v/\RsOk fr.rules/\Acy fr.rules/\ ∀ p ys ord H',H p=none->Same H H'->H' p=some (.lst ys)->KsOf H' ys ord->pR fr.rules ord->Q (.ref p) H'
theorem sy {H:Hp} {f:Fm} (hw:f.wf): ∀ ks∈dd [] f.rdk,RK ks:=by
 refine oy (fun k hk=>by cases hk) ?_
 have go: ∀ {f:Fm},f.wf-> ∀ ks∈f.rdk,RK ks:=by
  intro f
  induction f with
  | num n=>intro _ ks h;cases h
  | own x=>intro hw ks h;rw [List.mem_singleton.mp h];exact .inl ⟨x,rfl,bw hw⟩
  | part k x=>intro hw ks h;rw [List.mem_singleton.mp h];exact .inr ⟨k,x,rfl,bw hw.2⟩
  | bin op a b iha ihb=>intro hw ks h;exact (List.mem_append.mp h).elim (iha hw.2.1 ks) (ihb hw.2.2 ks)
  | whn a b c iha ihb ihc=>intro hw ks h;exact (List.mem_append.mp h).elim (iha hw.1 ks) fun h=>(List.mem_append.mp h).elim (ihb hw.2.1 ks) (ihc hw.2.2 ks)
 exact go hw
theorem eg: ∀ f:Fm,f.rdk.length<=f.size
 | .num _=>Nat.zero_le _
 | .own _=>Nat.le_refl _
 | .part _ _=>Nat.le_refl _
 | .bin _ a b=>by
  have:=eg a
  have:=eg b
  show (a.rdk++b.rdk).length<=a.size+b.size+1
  rw [List.length_append];lia
 | .whn a b c=>by
  have:=eg a
  have:=eg b
  have:=eg c
  show (a.rdk++(b.rdk++c.rdk)).length<=a.size+b.size+c.size+1
  rw [List.length_append,List.length_append];lia
theorem qG (F:Fun K "formulas_by_key" "formulas_by_key" nI f fd)
  (GR:ar P w K mg base CX0 1 f2 fd2 ["form"] gD) (bR:Binds K fd2 ["form"] []) (kR:PySem.W.keepIn K (.ref f2)=true) (mR:mg "rules_of"=some (.ref f2)):ar P w K mg base CX0 2 f fd ["form"] fV:=by
 refine F.ok scByKey (fun vs H Q E h=>?_) (fun cdv A outer s H vs Q E hr h=>?_)
 ·obtain ⟨v,fr,rfl,_⟩:=h
  rfl
 obtain ⟨v,fr,rfl,hF,hok,q⟩:=h
 have h12:=hok.few
 have hu:=cW hr
 refine ⟨_,ae (am (i:=1) scByKey.nd rfl (Or.inl rfl) cx)
  (ae (bd PassesOwn.never rfl (cN (al GR hr rfl mR kR bR .nil aq (aa (pv 0) ad)))
    (cP rfl (aG (av (i:=2) scByKey.nd rfl (Or.inl rfl)) (aG (av (i:=3) scByKey.nd rfl (Or.inl rfl)) (aG (av (i:=4) scByKey.nd rfl (Or.inl rfl)) ce))))
   (aj (cC hu (pv 1) (aK (aa (pv 2) (aa (pv 3) ad))) (pv 4) rfl)))
  (aj (aB (pv 1)))),?_⟩
 refine fun d hd=>?_
 have s0:=ag hd (.dT [])
 have g0:(upd H d (.dT [])) d=some (.dT []):=ab
 generalize upd H d (.dT [])=H0 at s0 g0 ⊢
 refine ⟨_,rfl,v,fr,rfl,hF.mono (au s0),fun ra rv hra hR=>?_⟩
 refine ⟨ra,rfl,⟨rv,SqT.of hra⟩,?_⟩
 have lR:=hR.len
 refine fi (xs:=rv) (fun i σ H'=>i<=rv.length/\ ∃ o2 o3 o4 kvs,σ=[some v,some (.ref d),o2,o3,o4]/\Same H H'/\H' ra=some (.tup rv)/\RepRs H' fr.rules rv/\H' d=some (.dT kvs)/\kvs.length=i/\Paired (KvR H') (fr.rules.take i) kvs)
  ⟨Nat.zero_le _,none,none,none,[],rfl,s0,hra,hR,g0,rfl,.nil⟩ (fun i σ H' _ h=>by obtain ⟨_,_,_,_,_,_,_,g,_⟩:=h;exact SqT.of g) ?_ ?_
 ·rintro i x σ H1 hx ⟨_,o2,o3,o4,kvs,rfl,S1,gra,hR1,gd,hl,hP⟩
  have hil:i<rv.length:=(List.getElem?_eq_some_iff.mp hx).1
  obtain ⟨r,hr',a,u,rfl,ha,hu'⟩:=aH hR1 hx
  refine ⟨a,_,rfl,SqT.of ha,rfl,_,_,rfl,_,_,rfl,_,_,rfl,rfl,?_⟩
  refine ⟨_,rfl,_,rfl,_,rfl,_,rfl,(by show 2<=sizeLine;decide),fun t ht=>?_⟩
  have s2:=ag ht (.tup [.int r.pl,.str r.word])
  have g2:(upd H1 t (.tup [.int r.pl,.str r.word])) t=some (.tup ((aE r).map kV)):=ab
  generalize upd H1 t (.tup [.int r.pl,.str r.word])=H2 at s2 g2 ⊢
  refine ⟨d,_,rfl,DPut.t (s2 _ _ gd) g2 (ao (by lia)),?_⟩
  have hn:aE r∉kvs.map (·.1):=by
   rw [gj hP,List.map_take]
   exact dB hok.nd (by rw [List.getElem?_map,hr'];rfl)
  rw [db hn]
  have tk:TK H1 (upd H2 d (.dT (kvs++[(aE r,u)]))):=fun b xs e=>by
   rw [ah (fun z=>by rw [z,gd]at e;cases e)]
   exact s2 _ _ e
  refine ⟨hil,_,_,_,_,rfl,?_,tk _ _ gra,hR1.mono tk,ab,?_,?_⟩
  ·intro y o h
   rw [ah (af h hd)]
   exact s2 _ _ (S1 _ _ h)
  ·rw [List.length_append,hl];rfl
  ·rw [aY hr']
   exact Paired.snoc (Paired.mapP hP fun _ _ h=>h.mono tk) ⟨rfl,hu'.mono tk⟩
 ·rintro σ H1 ⟨_,o2,o3,o4,kvs,rfl,S1,gra,hR1,gd,hl,hP⟩
  rw [<- lR,List.take_length]at hP
  exact ⟨_,rfl,q d kvs H1 hd S1 gd hP⟩
noncomputable abbrev NKr:List Str:=["form","formulas","found","key","formula","read"]
theorem scKeysRead:ay NKr ["form"] (ak dE):=fsc
theorem mi (F:Fun K "keys_read_by_key" "keys_read_by_key" dE f fd)
  (GB:ar P w K mg base CX0 2 f2 fd2 ["form"] fV) (bB:Binds K fd2 ["form"] []) (kB:PySem.W.keepIn K (.ref f2)=true) (mB:mg "formulas_by_key"=some (.ref f2))
  (GR:ar P w K mg base CX0 3 f3 fd3 ["formula"] ic) (bR:Binds K fd3 ["formula"] []) (kR:PySem.W.keepIn K (.ref f3)=true) (mR:mg "readings_of"=some (.ref f3))
  (GK:ar P w K mg base CX0 1 f4 fd4 ["reading"] ie) (bK:Binds K fd4 ["reading"] []) (kK:PySem.W.keepIn K (.ref f4)=true) (mK:mg "key_of"=some (.ref f4)):
  ar P w K mg base CX0 4 f fd ["form"] iI:=by
 refine F.ok scKeysRead (fun vs H Q E h=>?_) (fun cdv A outer s H vs Q E hr h=>?_)
 ·obtain ⟨v,fr,rfl,_⟩:=h
  rfl
 obtain ⟨v,fr,rfl,hF,hok,q⟩:=h
 have h12:=hok.few
 have hu:=cW hr
 have hr1:=hr.mono (show 1<=3 by decide)
 have hr2:=hr.mono (show 2<=3 by decide)
 refine ⟨_,ae (am (i:=1) scKeysRead.nd rfl (Or.inr rfl) (al GB hr2 rfl mB kB bB .nil aq (aa (pv 0) ad)))
  (ae (am (i:=2) scKeysRead.nd rfl (Or.inl rfl) cx)
  (ae (bd PassesOwn.never rfl (iT (pv 1)) (cP rfl (aG (av (i:=3) scKeysRead.nd rfl (Or.inl rfl)) (aG (av (i:=4) scKeysRead.nd rfl (Or.inl rfl)) ce)))
   (ae (cT (i:=5) (sc0:=ak dE) (N0:=NKr) (ys:=[]) (fr:=[]) rfl scKeysRead.nd rfl (Or.inl rfl) (cO (al GR hr rfl mR kR bR .nil aq (aa (pv 4) ad))) rfl rfl
     cok (fun C s H ex=>al GK hr1 rfl mK kK bK .nil aq (aa (pv 0) ad)))
   (aj (cC hu (pv 2) (pv 3) (sK (sc0:=ak dE) (N0:=NKr) (ys:=["formulas"]) (fr:=[1]) rfl (cO (pv 5)) rfl rfl
     cok
     (fun C s H ex=>kY (sO hu (pv 0) (pv 1))) (fun C s H ex=>pv 0)) rfl))))
  (aj (aB (pv 2))))),?_⟩
 refine ⟨_,rfl,v,fr,rfl,hF,hok,fun fd kv H1 hfd s1 gfd hP=>?_⟩
 have hkeys:=gj hP
 have lkv:kv.length=fr.rules.length:=(Paired.length hP).symm
 refine fun fo hfo=>?_
 have nff:fd≠fo:=af gfd hfo
 have s2:=ag hfo (.dT [])
 have g2:(upd H1 fo (.dT [])) fo=some (.dT []):=ab
 have gfd2:=s2 _ _ gfd
 have hP2:Paired (KvR (upd H1 fo (.dT []))) fr.rules kv:=Paired.mapP hP fun _ _ h=>h.mono (au s2)
 generalize upd H1 fo (.dT [])=H2 at s2 g2 gfd2 hP2 ⊢
 refine ⟨_,rfl,fd,kv,rfl,.inl ⟨gfd2,fun o=>?_⟩⟩
 have gF:(upd H2 fd (.frz o (.dT kv))) fd=some (.frz o (.dT kv)):=ab
 have gfoF:(upd H2 fd (.frz o (.dT kv))) fo=some (.dT []):=by rw [ah (Ne.symm nff)];exact g2
 have S2:=s1.trans s2
 have sF:Same H (upd H2 fd (.frz o (.dT kv))):=fun b u h=>by rw [ah (af h hfd)];exact S2 _ _ h
 have tkF:TK H2 (upd H2 fd (.frz o (.dT kv))):=fun b xs h=>by rw [ah (fun z=>by rw [z,gfd2]at h;cases h)];exact h
 have hPF:Paired (KvR (upd H2 fd (.frz o (.dT kv)))) fr.rules kv:=Paired.mapP hP2 fun _ _ h=>h.mono tkF
 have hfo0:H fo=none:=s1.free hfo
 generalize upd H2 fd (.frz o (.dT kv))=HF at gF gfoF sF hPF ⊢
 refine gO (kvs:=kv) (fun i σ H'=>i<=kv.length/\ ∃ o3 o4 o5 kvs,σ=[some v,some (.ref fd),some (.ref fo),o3,o4,o5]/\(∀ b u,HF b=some u->b≠fo->H' b=some u)/\H' fo=some (.dT kvs)/\RdsAt H' ((rdF fr.rules).take i) kvs)
  ⟨Nat.zero_le _,none,none,none,[],rfl,fun b u h _=>h,gfoF,.nil⟩ (fun i σ H' _ h=>by obtain ⟨_,_,_,_,_,_,s',_⟩:=h;exact s' _ _ gF nff) ?_ ?_
 ·rintro i ks fv T c σ H3 hkv hT hc ⟨hi,o3,o4,o5,kvs,rfl,S3,gfo3,hR3⟩
  have hil:i<kv.length:=(List.getElem?_eq_some_iff.mp hkv).1
  obtain ⟨r,hr',e1,hRf⟩:=aH hPF hkv
  have e1:ks=aE r:=e1
  have hRf:Rep HF r.fm fv:=hRf
  subst e1
  have hrm:=List.mem_of_getElem? hr'
  obtain ⟨hwf,hsz⟩:=hok.fm r hrm
  have tk3:TK HF H3:=fun b xs h=>S3 _ _ h fun z=>by rw [z,gfoF]at h;cases h
  have s4:=ag hT (.tup [.ref c,fv])
  have g4:(upd H3 T (.tup [.ref c,fv])) T=some (.tup [.ref c,fv]):=ab
  have gfo4:=s4 _ _ gfo3
  have hc4:=s4 _ _ hc
  generalize upd H3 T (.tup [.ref c,fv])=H4 at s4 g4 gfo4 hc4 ⊢
  refine ⟨T,_,rfl,SqT.of g4,rfl,_,_,rfl,_,_,rfl,rfl,?_⟩
  obtain ⟨out,hTw,hol⟩:=Tw.of1 ((hRf.mono tk3).mono (au s4)) hwf
  refine ⟨_,rfl,fv,out,r.fm.rdk,rfl,hTw,by lia,fun rl ys H5 hrl s5 grl hys=>?_⟩
  have lys:ys.length<=15:=by
   have h1:ys.length=(dd [] r.fm.rdk).length:=Paired.length hys
   have h2:=oA (rs:=r.fm.rdk) (acc:=[])
   have h3:=eg r.fm
   have h2:(dd [] r.fm.rdk).length<=0+r.fm.rdk.length:=h2
   lia
  have hRK:=sy (H:=H) hwf
  have hys':Paired (fun ks y=>(∃ b,y=V.ref b/\H5 b=some (.tup (List.map kV ks)))/\RK ks) (dd [] r.fm.rdk) ys:=by
   have go: ∀ {ys:List V} {kss:List KK},KsOf H5 ys kss->(∀ k∈kss,RK k)->Paired (fun ks y=>(∃ b,y=V.ref b/\H5 b=some (.tup (List.map kV ks)))/\RK ks) kss ys:=by
    intro ys kss h
    induction h with
    | nil=>intro _;exact .nil
    | cons a _ ih=>intro hk;exact .cons ⟨a,hk _ List.mem_cons_self⟩ (ih fun k hm=>hk k (List.mem_cons_of_mem _ hm))
   exact go hys hRK
  refine ⟨rl,rfl,⟨_,SqL.of grl⟩,?_⟩
  refine gy (by lia) hys' (lx grl) (lu grl) (on grl) (fun H ks v=> ∃ b,v=V.ref b/\H b=some (.tup (List.map kV (l2p ks)))) (fun t ⟨b,e,h⟩=>⟨b,e,t _ _ h⟩) ?_ ?_
  ·rintro ks y H6 k _ ⟨⟨b,rfl,hb⟩,hrk⟩ s6 hk
   refine ⟨_,rfl,b,ks,rfl,s6 _ _ hb,hrk,fun p i x hor hp=>hk _ _ (ag hp _) ⟨p,rfl,?_⟩⟩
   rw [ab]
   rcases hor with ⟨e1,e2⟩ | e1
   ·subst e1 e2;rfl
   ·subst e1;rfl
  intro pl zs H6 hpl s6 gpl hzs
  have lzs:zs.length=ys.length:=by
   have h1:=Paired.length hzs
   have h2:=Paired.length hys'
   lia
  have gfd6:H6 fd=some (.frz o (.dT kv)):=s6 _ _ (s5 _ _ (s4 _ _ (S3 _ _ gF nff)))
  refine ⟨_,rfl,pl,rfl,⟨_,SqL.of gpl⟩,?_⟩
  refine pO (as:=(dd [] r.fm.rdk).map l2p) (A:=fun k v=> ∃ b,v=V.ref b/\H6 b=some (.tup (List.map kV k))) (by lia) (cg hzs) (lx gpl) (lu gpl) (on gpl) (fun k=>decide (k∈fr.rules.map aE)) (fun H k v=> ∃ b,v=V.ref b/\H b=some (.tup (List.map kV k))) (fun t ⟨b,e,h⟩=>⟨b,e,t _ _ h⟩) ?_ ?_ ?_
  ·rintro k y H7 kk _ ⟨b,rfl,hb⟩ s7 hk
   refine ⟨_,rfl,_,rfl,fd,aU kv k,rfl,.inr (.inl ⟨kv,k,b,.inr ⟨o,s7 _ _ gfd6⟩,rfl,s7 _ _ hb,rfl⟩),_,rfl,?_⟩
   have e:(aU kv k).isSome=decide (k∈fr.rules.map aE):=by
    rw [<- hkeys]
    cases hv:aU kv k with
    | none=>exact (decide_eq_false (iA hv)).symm
    | some u=>exact (decide_eq_true (j6 hv)).symm
   rw [e]
   exact hk H7 (Same.refl _)
  ·rintro k y H7 kk _ ⟨b,rfl,hb⟩ _ s7 hk
   exact ⟨_,rfl,hk _ _ (Same.refl _) ⟨b,rfl,s7 _ _ hb⟩⟩
  intro ql ws H7 hql s7 gql hws
  have S47:=s5.trans (s6.trans s7)
  have gfo7:=S47 _ _ gfo4
  have hc7:=S47 _ _ hc4
  refine ⟨_,rfl,_,rfl,fo,_,rfl,DPut.t (k:=aE r) gfo7 hc7 (ao (by
   have h1:((rdF fr.rules).take i).length=kvs.length:=Paired.length hR3
   rw [List.length_take]at h1
   lia)),?_⟩
  have hk3:kvs.map (·.1)=((rdF fr.rules).take i).map (·.1):=hR3.keys
  have hrd:(rdF fr.rules)[i]? =some (aE r,((dd [] r.fm.rdk).map l2p).filter fun o=>decide (o∈fr.rules.map aE)):=by
   unfold rdF
   rw [List.getElem?_map,hr']
   rfl
  have hn:aE r∉kvs.map (·.1):=by
   rw [hk3,List.map_take]
   have hx:(rks (rdF fr.rules))[i]? =some (aE r):=by unfold rks;rw [List.getElem?_map,hrd];rfl
   exact dB hok.rd.nd hx
  rw [db hn]
  have nqf:ql≠fo:=fun z=>by rw [z,s6 _ _ (s5 _ _ gfo4)]at hql;cases hql
  have keep: ∀ b u,H3 b=some u->b≠fo->(upd H7 fo (.dT (kvs++[(aE r,V.ref ql)]))) b=some u:=fun b u h hne=>by rw [ah hne];exact S47 _ _ (s4 _ _ h)
  refine ⟨hil,_,_,_,_,rfl,fun b u h hne=>keep b u (S3 _ _ h hne) hne,ab,?_⟩
  rw [aY hrd]
  refine Paired.snoc (Paired.mapP hR3 fun e kv h=>?_) ⟨rfl,ql,ws,rfl,by rw [ah nqf];exact gql,?_⟩
  ·obtain ⟨h1,l,zs,h2,h3,h4⟩:=h
   exact ⟨h1,l,zs,h2,keep _ _ h3 (fun z=>by rw [z,gfo3]at h3;cases h3),h4.mono fun b xs hb=>keep _ _ hb (fun z=>by rw [z,gfo3]at hb;cases hb)⟩
  ·have go: ∀ {a:List KK} {b:List V},Paired (fun k v=> ∃ b,v=V.ref b/\H7 b=some (.tup (List.map kV k))) a b->KsOf (upd H7 fo (.dT (kvs++[(aE r,V.ref ql)]))) b a:=by
    intro a b h
    induction h with
    | nil=>exact .nil
    | cons x _ ih=>
     obtain ⟨b,e,hb⟩:=x
     exact .cons ⟨b,e,by rw [ah (fun z=>by rw [z,gfo7]at hb;cases hb)];exact hb⟩ ih
   exact go hws
 ·rintro σ H3 ⟨_,o3,o4,o5,kvs,rfl,S3,gfo3,hR3⟩
  have lrd:(rdF fr.rules).length=fr.rules.length:=by unfold rdF;rw [List.length_map]
  rw [List.take_of_length_le (by lia)]at hR3
  exact ⟨_,rfl,q fo kvs H3 hfo0 (fun b u h=>S3 _ _ (sF _ _ h) (af h hfo0)) gfo3 hR3⟩
theorem scOrderK:ay ["form","read","order"] ["form"] (ak kw):=fsc
theorem qA (F:Fun K "order_of_keys" "order_of_keys" kw f fd) (G:Gb mg)
  (GR:ar P w K mg base CX0 4 f2 fd2 ["form"] iI) (bR:Binds K fd2 ["form"] []) (kR:PySem.W.keepIn K (.ref f2)=true) (mR:mg "keys_read_by_key"=some (.ref f2))
  (GO:ar P w K mg base CX0 2 f3 fd3 ["reads"] oR) (bO:Binds K fd3 ["reads"] []) (kO:PySem.W.keepIn K (.ref f3)=true) (mO:mg "order_of"=some (.ref f3)):
  ar P w K mg base CX0 5 f fd ["form"] lT:=by
 refine F.ok scOrderK (fun vs H Q E h=>?_) (fun cdv A outer s H vs Q E hr h=>?_)
 ·obtain ⟨v,fr,rfl,_⟩:=h
  rfl
 obtain ⟨v,fr,rfl,hF,hok,hA,q⟩:=h
 have h12:=hok.few
 have hr2:=hr.mono (show 2<=4 by decide)
 refine ⟨_,ae (am (i:=1) scOrderK.nd rfl (Or.inl rfl) (al GR hr rfl mR kR bR .nil aq (aa (pv 0) ad)))
  (ae (am (i:=2) scOrderK.nd rfl (Or.inl rfl) (al GO hr2 rfl mO kO bO .nil aq (aa (pv 1) ad)))
  (ae (bh (aC ft (aw aA rfl G.len PySem.boot_len (aa (pv 2) ad)) (aw jZ rfl G.len PySem.boot_len (aa (pv 1) ad)) (aJ _)) gI aN)
  (aj (aB (pv 2))))),?_⟩
 refine ⟨_,rfl,v,fr,rfl,hF,hok,fun d kvs H1 hd s1 gd hR=>?_⟩
 have lrd:(rdF fr.rules).length=fr.rules.length:=by unfold rdF;rw [List.length_map]
 refine ⟨_,rfl,d,kvs,rdF fr.rules,rfl,gd,hR,hok.rd,by lia,fun o p ys ord c H2 S2 hp gp hys hI=>?_⟩
 have gdF:H2 d=some (.frz o (.dT kvs)):=S2 _ _ ab
 have lkv:kvs.length=fr.rules.length:=by have:=Paired.length hR;lia
 obtain ⟨L,a1,a2,a3⟩:=hA
 have hall:=hI.all (by rw [dH];exact a1) (by rw [dH];exact a2) a3
 rw [dH]at hall
 have hsub:=hI.sub
 rw [dH]at hsub
 have lo:ord.length=fr.rules.length:=by
  have h1:=hI.len
  have h2:=de hok.nd hall
  rw [List.length_map]at h2
  lia
 have lys:ys.length=ord.length:=Paired.length hys
 refine ⟨_,rfl,p,ys,rfl,.inl (SqL.of gp),_,rfl,d,o,kvs,rfl,gdF,_,_,rfl,rfl,_,rfl,?_⟩
 rw [decide_eq_false (by lia)]
 refine bu ⟨_,rfl,q p ys ord H2 (s1.free hp) (fun b u h=>S2 _ _ (by rw [ah (af h hd)];exact s1 _ _ h)) gp hys ⟨hI.nd,hsub,fun r hr=>hall _ (List.mem_map.mpr ⟨r,hr,rfl⟩),hI.top,lo⟩⟩
noncomputable def vg:Expr:=match cp lW with
 | [.Return (some (.Call _ [_,l] _ _)) _]=>l
 | _=>.Constant .none 0 ⟨0,0,0,0⟩
noncomputable def yk:Arguments:=match vg with
 | .Lambda a _ _ _=>a
 | _=>{posonlyargs:=[],args:=[],vararg:=none,kwonlyargs:=[],kw_defaults:=[],kwarg:=none,defaults:=[]}
noncomputable def yj:Expr:=match vg with
 | .Lambda _ b _ _=>b
 | _=>.Constant .none 0 ⟨0,0,0,0⟩
noncomputable def ww:Scope:=match vg with
 | .Lambda _ _ s _=>s
 | _=>{kind:=.function,names:=[],isGenerator:=false,isCoroutine:=false}
noncomputable def lamP:Pos:=match vg with
 | .Lambda _ _ _ p=>p
 | _=>⟨0,0,0,0⟩
theorem xm:mX ["one","inner"] ["made"] ww:=⟨rfl,rfl,rfl,by decide +kernel,by decide +kernel,by decide +kernel,by decide +kernel,by decide +kernel⟩
theorem wx:oI (ak lW) ["formula","made"] ww ["made"] [1]:=⟨by decide +kernel,rfl,by decide +kernel⟩
noncomputable def TabSt (tbA:Addr) (H:Hp):Prop:=H tbA=some (.tbl #[])\/ ∃ c' oc,H tbA=some (.tbl #[rawInt lamP.line,rawInt lamP.col,.ref c'])/\c'≠tbA/\H c'=some (fA c' oc)/\ir oc ("put_otherwise.<locals>."++"<lambda>")
theorem TabSt.same {tbA:Addr} {H H':Hp} (s:Same H H') (h:TabSt tbA H):TabSt tbA H':=by
 rcases h with h | ⟨c',oc,h1,h2,h3,h4⟩
 ·exact .inl (s _ _ h)
 ·exact .inr ⟨c',oc,s _ _ h1,h2,s _ _ h3,h4⟩
theorem TabSt.tbl {tbA:Addr} {H:Hp} (h:TabSt tbA H): ∃ x,H tbA=some (.tbl x):=by
 rcases h with h | ⟨c',oc,h1,_⟩
 ·exact ⟨_,h⟩
 ·exact ⟨_,h1⟩
theorem Kp.tkB {tp:Addr} {H H':Hp} {x:Array Value} (a:Kp tp H H') (t:H tp=some (.tbl x)):TK H H':=fun b xs h=>a b _ h fun e=>by
 rw [e,t]at h;cases h
theorem TabSt.tk {tp:Addr} {H H':Hp} (t:TabSt tp H) (a:Kp tp H H'):TK H H':=by
 obtain ⟨x,h⟩:=t.tbl
 exact a.tkB h
theorem TabSt.upd {tp p:Addr} {H:Hp} {o o':HO} (t:TabSt tp H) (h:H p=some o) (h1: ∀ x,o≠ .tbl x) (h2: ∀ c oc,o≠fA c oc):TabSt tp (L2.upd H p o'):=by
 rcases t with t | ⟨c',oc,t1,t2,t3,t4⟩
 ·refine .inl ?_
  rw [ah (fun e=>by rw [e,h]at t;exact h1 _ (Option.some.inj t))]
  exact t
 ·refine .inr ⟨c',oc,?_,t2,?_,t4⟩
  ·rw [ah (fun e=>by rw [e,h]at t1;exact h1 _ (Option.some.inj t1))]
   exact t1
  ·rw [ah (fun e=>by rw [e,h]at t3;exact h2 _ _ (Option.some.inj t3))]
   exact t3
theorem TabSt.lst {tp p:Addr} {H:Hp} {xs:List V} {o':HO} (t:TabSt tp H) (h:H p=some (.lst xs)):TabSt tp (L2.upd H p o'):=t.upd h (fun _ e=>by cases e) (fun _ _ e=>by cases e)
theorem TabSt.dT {tp p:Addr} {H:Hp} {xs:List (List Key×V)} {o':HO} (t:TabSt tp H) (h:H p=some (.dT xs)):TabSt tp (L2.upd H p o'):=t.upd h (fun _ e=>by cases e) (fun _ _ e=>by cases e)
theorem TabSt.ne {tp p:Addr} {H:Hp} {o:HO} (t:TabSt tp H) (h:H p=some o) (h1: ∀ x,o≠ .tbl x):p≠tp:=fun e=>by
 obtain ⟨x,hx⟩:=t.tbl
 rw [e,hx]at h
 exact h1 x (Option.some.inj h).symm
theorem TabSt.fr {tp p:Addr} {H:Hp} (t:TabSt tp H) (h:H p=none):p≠tp:=fun e=>by
 obtain ⟨x,hx⟩:=t.tbl
 rw [e,hx]at h
 cases h
theorem TabSt.sql {K:PySem.W.Frag} {tbA a:Addr} {H H':Hp} {xs:List V} (h:TabSt tbA H) (k:Kp tbA H H') (hS:SqL K H a xs):SqL K H' a xs:=by
 obtain ⟨t,h⟩:=h.tbl
 rcases hS with (e | ⟨o,e⟩) | e
 ·exact .inl (.inl (k _ _ e fun z=>by rw [z,h]at e;cases e))
 ·exact .inl (.inr ⟨o,k _ _ e fun z=>by rw [z,h]at e;cases e⟩)
 ·exact .inr e
theorem jH {α β:Type} {F:α->β->Prop}: ∀ {a c:List α} {l:List β},Paired F (a++c) l-> ∃ b d,l=b++d/\Paired F a b/\Paired F c d
 | [],_,l,h=>⟨[],l,rfl,.nil,h⟩
 | _::a,c,_,h=>by
  cases h with
  | cons x t=>
   obtain ⟨b,d,e,h1,h2⟩:=jH (a:=a) t
   exact ⟨_::b,d,by rw [e];rfl,.cons x h1,h2⟩
noncomputable def oP (Pre:Hp->Prop) (C:Fm->Prop) (R:Hp->Fm->V->Prop) (c':Addr) (oc:Obj):Sp:=fun vs H Q _=> ∃ g v p zs,vs=[v,.ref p]/\Rep H g v/\g.wf/\C g/\Pre H/\H p=some (.lst zs)/\Paired (R H) (dM g) zs/\H c'=some (fA c' oc)/\ ∀ u H',Same H H'->R H' g u->Q u H'
noncomputable def kf (P:Program) (w:World) (K:PySem.W.Frag) (mg:Str->Option Value) (base:Heap):Sp:=fun vs H Q _=>
 ∃ f v fl c' oc Pre C R,vs=[v,.ref fl]/\Rep H f v/\f.wf/\f.size<=15/\(∀ H H',Same H H'->Pre H->Pre H')/\(∀ g:Fm,C g-> ∀ k∈dM g,C k)/\(∀ (H H':Hp) (g:Fm) (u:V),TK H H'->R H g u->R H' g u)/\C f/\Pre H/\lG P w K mg base 3 fl (oP Pre C R c' oc)/\H c'=some (fA c' oc)/\ ∀ u H',Same H H'->R H' f u->Q u H'
theorem tD (F:Fun K "folded" "folded" ig f fd) (G:Gb mg) (hrev:mg "reversed"=none)
  (GT:ar P w K mg base CX0 2 f2 fd2 ["formula"] fR) (bT:Binds K fd2 ["formula"] []) (kT:PySem.W.keepIn K (.ref f2)=true) (mT:mg "tuples_of"=some (.ref f2))
  (GI:ar P w K mg base CX0 1 f3 fd3 ["formula"] ke) (bI:Binds K fd3 ["formula"] []) (kI:PySem.W.keepIn K (.ref f3)=true) (mI:mg "inner_of"=some (.ref f3)):
  ar P w K mg base CX0 4 f fd ["formula","tell"] (kf P w K mg base):=by
 refine F.ok scFold (fun vs H Q E h=>?_) (fun cdv A outer s H vs Q E hr h=>?_)
 ·obtain ⟨n,t,tv,c',oc,Pre,C,R,rfl,_⟩:=h
  rfl
 obtain ⟨fm,v,fl,c',oc,Pre,C,R,rfl,hR,wf,h15,hPs,hCk,hRm,hCf,hPre,hT,hc,q⟩:=h
 refine ⟨_,ae (am (i:=2) scFold.nd rfl (Or.inr rfl) (bc ad))
  (ae (bd PassesOwn.never rfl (wm rfl hrev (al GT (hr.mono (show 2<=3 by decide)) rfl mT kT bT .nil aq (aa (pv 0) ad))) (av (i:=3) scFold.nd rfl (Or.inl rfl))
   (ae (cT (i:=4) (te:=xi K "list" xq (vQ 1)) (sc0:=ak ig) (N0:=vL) (ys:=["pile"]) (fr:=[2]) rfl scFold.nd rfl (Or.inl rfl)
     (bq rfl G.range (aa (aw aA rfl G.len PySem.boot_len (aa (al GI (hr.mono (show 1<=3 by decide)) rfl mI kI bI .nil aq (aa (pv 3) ad)) ad)) ad)) rfl rfl
    cok
    (fun C s H ex=>nS PySem.F.plainAttrs_list PySem.F.slot_list_pop PySem.F.type_list_pop oi (pv 1)))
   (aj (bH (dj PySem.F.plainAttrs_list PySem.F.slot_list_append PySem.F.type_list_append bi (pv 2) (aa
    (sM (i:=1) hT hr rfl (Or.inl rfl) (aa (pv 3) (aa (pv 4) ad))) ad))))))
  (aj (aB (nS PySem.F.plainAttrs_list PySem.F.slot_list_pop PySem.F.type_list_pop oi (pv 2))))),?_⟩
 obtain ⟨out,hTs,hol,hend,hat⟩:=wY (H:=H) fm.size (fs:=[fm]) (ws:=[v]) rfl (fun g hg=>by
  rcases List.mem_cons.mp hg with rfl | z
  ·exact wf
  ·cases z) (.cons hR .nil)
 have hall:=oO hCk (fs:=[fm]) (fun g hg=>by
  rcases List.mem_cons.mp hg with rfl | z
  ·exact hCf
  ·cases z)
 refine ⟨(by show 0<=sizeLine;decide),fun pl hpl=>?_⟩
 have s0:=ag hpl (.lst [])
 have g0:(upd H pl (.lst [])) pl=some (.lst []):=ab
 generalize upd H pl (.lst [])=H0 at s0 g0 ⊢
 refine ⟨_,rfl,v,out,rfl,hTs.same s0,by lia,fun lv H1 S1 g1=>⟨lv,out,rfl,SqL.of g1,?_⟩⟩
 have S01:=s0.trans S1
 have gp1:=S1 _ _ g0
 have nlp:lv≠pl:=fun z=>by
  rw [z,gp1]at g1
  cases g1
  have:=fm.size_pos
  rw [<- hol]at this
  cases this
 refine vt (fun i σ H'=>i<=out.length/\ ∃ o3 o4 pv,σ=[some v,some (.ref fl),some (.ref pl),o3,o4]/\Same H H'/\H' lv=some (.lst out)/\H' pl=some (.lst (List.reverse pv))/\Paired (R H') (stF [fm] (out.length-i)) pv)
  ⟨Nat.zero_le _,none,none,[],rfl,S01,g1,gp1,?_⟩ (fun i σ H' _ h=>by obtain ⟨_,_,_,_,_,_,g,_⟩:=h;exact SqL.of g) ?_ ?_
 ·rw [Nat.sub_zero,hol,hend];exact .nil
 ·rintro i x σ H3 hi hx ⟨_,o3,o4,pv,rfl,S3,g3,gp3,hpv⟩
  obtain ⟨g,r,e1,hRg,wg,hsz⟩:=hat _ _ hx
  have hsr:=j9 r
  have hgs:=jE g
  have hkl:=j9 (dM g)
  obtain ⟨a,r',rfl,ha,hr3,hl,hK⟩:=lY hRg wg
  have hlk:(dM g).length=(bf (.str (hdW g)::r')).length:=Paired.length hK
  rw [show out.length-i=out.length-1-i+1 by lia]at hpv
  have hpv:Paired (R H3) (nxF (stF [fm] (out.length-1-i))) pv:=hpv
  rw [e1]at hpv
  have hpv:Paired (R H3) (dM g++r) pv:=hpv
  obtain ⟨tp,rs,epv,htop,hrest⟩:=jH hpv
  subst epv
  have ltp:=Paired.length htop
  have lrs:=Paired.length hrest
  rw [List.reverse_append]at gp3
  refine ⟨_,rfl,a,hdW g,r',rfl,S3 _ _ ha,by lia,fun p4 H4 s4 g4=>⟨p4,_,rfl,.inr (SqT.of g4),_,rfl,by lia,by lia,?_⟩⟩
  have gp4:=s4 _ _ gp3
  have gl4:=s4 _ _ g3
  have S4:=S3.trans s4
  refine qV (n:=(dM g).length) (by lia) ltp.symm gp4 (fun i H k h=>(show i<_ by lia)) (fun H k=>(show _<=_ by lia)) (fun i H v H' h=>h.1)
   (fun x H k xs y h1 h2 h3=>⟨_,rfl,.inl ⟨rfl,xs,SqL.of h1⟩,pl,xs,y,rfl,rfl,h1,h2,h3⟩) ?_
  intro p5 H5 hp5 k5 gp5 g5
  have np:p5≠pl:=fun z=>by rw [z,gp4]at hp5;cases hp5
  have S5: ∀ b o,H b=some o->H5 b=some o:=fun b o h=>k5 _ _ (S4 _ _ h) (af h hpl)
  have gl5:=k5 _ _ gl4 nlp
  have tk35:TK H3 H5:=(au s4).trans (k5.tkL gp4)
  refine ⟨_,rfl,.inl ⟨rfl,_,SqL.of gp5⟩,rfl,_,rfl,_,rfl,g,.ref a,p5,tp,rfl,hRg.mono (fun b xs h=>S5 _ _ h),wg,hall _ g (by rw [e1];exact List.mem_cons_self),hPs H H5 S5 hPre,g5,Paired.mapP htop fun _ _ h=>hRm _ _ _ _ tk35 h,S5 _ _ hc,fun u H6 s6 hu=>?_⟩
  have gp6:=s6 _ _ gp5
  have tk7:TK H6 (upd H6 pl (.lst (rs.reverse++[u]))):=TK.lst gp6
  refine ⟨pl,_,_,rfl,rfl,gp6,ao (by rw [List.length_reverse];lia),?_⟩
  refine ⟨hi,_,_,u::rs,rfl,fun b o h=>?_,?_,?_,?_⟩
  ·rw [ah (af h hpl)]
   exact s6 _ _ (S5 _ _ h)
  ·rw [ah nlp];exact s6 _ _ gl5
  ·rw [ab,List.reverse_cons]
  ·rw [show out.length- (i+1)=out.length-1-i by lia,e1]
   exact .cons (hRm _ _ _ _ tk7 hu) (Paired.mapP hrest fun _ _ h=>hRm _ _ _ _ ((tk35.trans (au s6)).trans tk7) h)
 ·rintro σ H3 ⟨_,o3,o4,pv,rfl,S3,g3,gp3,hpv⟩
  rw [Nat.sub_self]at hpv
  have hpv:Paired (R H3) [fm] pv:=hpv
  cases hpv with
  | @cons _ u _ rs hv hn=>
  cases hn
  have tk7:TK H3 (upd H3 pl (.lst [])):=TK.lst gp3
  refine ⟨_,rfl,.inl ⟨rfl,_,SqL.of gp3⟩,pl,_,u,rfl,rfl,gp3,rfl,q _ _ (fun y oo h=>?_) (hRm _ _ _ _ tk7 hv)⟩
  rw [ah (af h hpl)]
  exact S3 _ _ h
end My
namespace L2
open PySem PySem.Spec PyProof.Rows
noncomputable def xx:R2:=fun x y H Q=> ∃ a b xs ys,x=.ref a/\y=.ref b/\H a=some (.tup xs)/\H b=some (.tup ys)/\xs.length+ys.length<=sizeLine/\ ∀ p H',(∀ b o,H b=some o->H' b=some o)->H' p=some (.tup (xs++ys))->Q (.ref p) H'
theorem gf {X:Cx}:OpR X (binaryOp .Add) xx:=by
 intro pins s σ H x y v u Q I rx ry h
 obtain ⟨a,b,xs,ys,e1,e2,h1,h2,h3,q⟩:=h
 refine sQ pins s σ H x y v u Q I rx ry ⟨a,b,xs,ys,e1,e2,SqT.of h1,SqT.of h2,h3,fun e=>q b H (fun _ _ h=>h) ?_,fun _ e=>q a H (fun _ _ h=>h) ?_,fun _ _ p hp=>q p _ (fun b o e=>by rw [ah (af e hp)];exact e) ab⟩
 ·rw [e];exact h2
 ·rw [e,List.append_nil];exact h1
end L2
namespace My
open PySem L2
noncomputable def rdgs:List Str:=["own","part"]
theorem j0 {a:Str} {l:List Str} (h:a∉l):V.bl (inV (.str a) (l.map V.str))=V.bl false:=by rw [dO,decide_eq_false h]
theorem vA {a:Str} {l:List Str} (h:a∈l):V.bl (inV (.str a) (l.map V.str))=V.bl true:=by rw [dO,decide_eq_true h]
noncomputable def MdAt (H:Hp) (kvs:List (KK×V)) (M:KK->Option Fm):Prop:= ∀ k,(∀ g,M k=some g-> ∃ u,aU kvs k=some u/\Rep H g u)/\(M k=none->aU kvs k=none)
theorem MdAt.mono {H H':Hp} (t:TK H H') {kvs:List (KK×V)} {M:KK->Option Fm} (h:MdAt H kvs M):MdAt H' kvs M:=fun k=>⟨fun g e=>by
 obtain ⟨u,h1,h2⟩:=(h k).1 g e
 exact ⟨u,h1,h2.mono t⟩,(h k).2⟩
theorem pM (x:V) (r:List V):cZ (x::r) none (some 1)=[x]:=by
 have e:HT.sIx (x::r).length (x::r).length (some 1)=min 1 (x::r).length:=HT.sIx_nat _ _ 1
 unfold cZ
 rw [e,HT.sIx_none,List.drop_zero,List.length_cons,Nat.sub_zero,show min 1 (r.length+1)=1 by lia]
 rfl
noncomputable def iG:Sp:=fun vs H Q _=> ∃ (g:Fm) (v:V) (p:Addr) (zs:List V) (md:Addr) (kvs:List (KK×V)) (M:KK->Option Fm),vs=[v,.ref p,.ref md]/\Rep H g v/\g.wf/\H md=some (.dT kvs)/\MdAt H kvs M/\H p=some (.lst zs)/\Paired (fun k u=>Rep H (Fm.sub M k) u) (dM g) zs/\ ∀ u H',Same H H'->Rep H' (g.sub M) u->Q u H'
noncomputable def rT (tbA:Addr):Sp:=fun vs H Q _=> ∃ (f:Fm) (v:V) (md:Addr) (kvs:List (KK×V)) (M:KK->Option Fm),vs=[v,.ref md]/\Rep H f v/\f.wf/\f.size<=15/\H md=some (.dT kvs)/\MdAt H kvs M/\TabSt tbA H/\ ∀ u H',Kp tbA H H'->TabSt tbA H'->Rep H' (f.sub M) u->Q u H'
theorem sf:ay ["one","inner","made"] ["one","inner","made"] (ak kx):=fsc
theorem qB (F:Fun K "one_put_otherwise" "one_put_otherwise" kx f fd) (G:Gb mg) (mR:mg "READINGS"=some (.ref aR)) (hR: ∀ H,SqT K H aR (rdgs.map V.str))
  (GK:ar P w K mg base CX0 1 f2 fd2 ["reading"] ie) (bK:Binds K fd2 ["reading"] []) (kK:PySem.W.keepIn K (.ref f2)=true) (mK:mg "key_of"=some (.ref f2)):
  ar P w K mg base CX0 2 f fd ["one","inner","made"] iG:=by
 refine F.ok sf (fun vs H Q E h=>?_) (fun cdv A outer s H vs Q E hr h=>?_)
 ·obtain ⟨g,v,p,zs,md,kvs,M,rfl,_⟩:=h
  rfl
 obtain ⟨g,v,p,zs,md,kvs,M,rfl,hRg,hwf,gmd,hM,gp,hz,q⟩:=h
 have hu:=cW hr
 refine ⟨_,ae (bh (aC dJ (aF aW (pv 0) ai (fun _ _=>rfl)) (gb (v:=.ref aR) rfl mR rfl) (by with_unfolding_all rfl)) (aj (aB (eQ hu (pv 2) (al GK hr rfl mK kK bK .nil aq (aa (pv 0) ad)) (pv 0) ⟨rfl,rfl,rfl,rfl⟩))) aN)
  (aj (aB (eP (l7 (pv 1) (fun _=>rfl)) (ax gf (aS dz (pv 0) ba (aZ ai)) (aT aM rfl G.tuple (by decide +kernel) (aa (pv 1) ad))) (pv 0)))),?_⟩
 obtain ⟨a,r,rfl,ha⟩:=fY hRg
 refine ⟨_,rfl,a,_,0,.str (dQ g),rfl,rfl,SqT.of ha,cz,?_⟩
 cases g with
 | num n=>
  refine ⟨aR,_,rfl,.inr (hR H),rfl,bj,false,(j0 (by show ("num":Str)∉rdgs;decide +kernel)),bu ?_⟩
  cases hz
  refine ⟨_,rfl,_,.inl ⟨_,SqL.of gp,rfl⟩,?_⟩
  exact bu ⟨_,rfl,q _ H (fun _ _ h=>h) hRg⟩
 | own x=>
  obtain ⟨a',e,ha'⟩:=id hRg
  cases e
  refine ⟨aR,_,rfl,.inr (hR H),rfl,bj,true,(vA (by show ("own":Str)∈rdgs;decide +kernel)),cH ?_⟩
  refine ⟨_,rfl,md,rfl,.inr ⟨kvs,.inl gmd⟩,_,rfl,a,[.inr "own",.inr x],rfl,ha',(.inl ⟨x,rfl,bw hwf⟩),fun p9 i y hor hp9=>?_⟩
  have s9:=ag hp9 (.tup [.int i,.str y])
  have g9:(upd H p9 (.tup [.int i,.str y])) p9=some (.tup (List.map kV (pk i y))):=ab
  generalize upd H p9 (.tup [.int i,.str y])=H9 at s9 g9 ⊢
  have ek:pk i y=pk (-1) x:=by
   rcases hor with ⟨e1,e2⟩ | e1
   ·obtain ⟨_,e3⟩:=List.cons.inj e1
    rw [e2,Sum.inr.inj (List.cons.inj e3).1]
   ·cases (List.cons.inj (List.cons.inj e1).2).1
  rw [ek]at g9
  refine ⟨_,rfl,_,DGet.t (k:=pk (-1) x) (s9 _ _ gmd) g9,?_⟩
  have q: ∀ u H',Same H H'->Rep H' ((M (pk (-1) x)).getD (.own x)) u->Q u H':=q
  cases hm:M (pk (-1) x)with
  | none=>
   rw [hm]at q
   rw [(hM _).2 hm]
   exact q _ H9 s9 (hRg.mono (au s9))
  | some g0=>
   rw [hm]at q
   obtain ⟨u,h1,h2⟩:=(hM _).1 g0 hm
   rw [h1]
   exact q u H9 s9 (h2.mono (au s9))
 | part k x=>
  obtain ⟨a',e,ha'⟩:=id hRg
  cases e
  refine ⟨aR,_,rfl,.inr (hR H),rfl,bj,true,(vA (by show ("part":Str)∈rdgs;decide +kernel)),cH ?_⟩
  refine ⟨_,rfl,md,rfl,.inr ⟨kvs,.inl gmd⟩,_,rfl,a,[.inr "part",.inl k,.inr x],rfl,ha',(.inr ⟨k,x,rfl,bw hwf.2⟩),fun p9 i y hor hp9=>?_⟩
  have s9:=ag hp9 (.tup [.int i,.str y])
  have g9:(upd H p9 (.tup [.int i,.str y])) p9=some (.tup (List.map kV (pk i y))):=ab
  generalize upd H p9 (.tup [.int i,.str y])=H9 at s9 g9 ⊢
  have ek:pk i y=pk k x:=by
   rcases hor with ⟨e1,e2⟩ | e1
   ·cases (List.cons.inj (List.cons.inj e1).2).1
   ·obtain ⟨_,e3⟩:=List.cons.inj e1
    obtain ⟨e4,e5⟩:=List.cons.inj e3
    rw [Sum.inl.inj e4,Sum.inr.inj (List.cons.inj e5).1]
  rw [ek]at g9
  refine ⟨_,rfl,_,DGet.t (k:=pk k x) (s9 _ _ gmd) g9,?_⟩
  have q: ∀ u H',Same H H'->Rep H' ((M (pk k x)).getD (.part k x)) u->Q u H':=q
  cases hm:M (pk k x)with
  | none=>
   rw [hm]at q
   rw [(hM _).2 hm]
   exact q _ H9 s9 (hRg.mono (au s9))
  | some g0=>
   rw [hm]at q
   obtain ⟨u,h1,h2⟩:=(hM _).1 g0 hm
   rw [h1]
   exact q u H9 s9 (h2.mono (au s9))
 | bin op A B=>
  obtain ⟨a1,u1,u2,e,ha1,_,_⟩:=id hRg
  cases e
  obtain ⟨ho,w1,w2⟩:op∈ops/\A.wf/\B.wf:=hwf
  have hnr:op∉rdgs:=fun z=>by
   simp only [rdgs,List.mem_cons,List.not_mem_nil,or_false]at z
   rcases z with z | z <;> (rw [z]at ho;exact absurd ho (by decide +kernel))
  refine ⟨aR,_,rfl,.inr (hR H),rfl,bj,false,(j0 hnr),bu ?_⟩
  obtain ⟨z1,z2,rfl,h1,h2⟩: ∃ z1 z2,zs=[z1,z2]/\Rep H (A.sub M) z1/\Rep H (B.sub M) z2:=by
   cases hz with
   | cons x t=>
    cases t with
    | cons y t'=>
     cases t'
     exact ⟨_,_,rfl,x,y⟩
  refine ⟨_,rfl,_,.inl ⟨_,SqL.of gp,rfl⟩,cH ?_⟩
  refine ⟨_,rfl,1,rfl,a,_,rfl,ha1,fun p1 H1 s1 g1=>?_⟩
  rw [pM]at g1
  refine ⟨_,rfl,p,_,rfl,.inl ⟨SqL.of (s1 _ _ gp),fun p2 hp2=>?_⟩⟩
  have s2:=ag hp2 (.tup [z1,z2])
  have g2:(upd H1 p2 (.tup [z1,z2])) p2=some (.tup [z1,z2]):=ab
  generalize upd H1 p2 (.tup [z1,z2])=H2 at s2 g2 ⊢
  refine ⟨p1,p2,_,_,rfl,rfl,s2 _ _ g1,g2,(by show 1+2<=sizeLine;decide),fun p3 H3 s3 g3=>?_⟩
  have S3:Same H H3:=fun b u h=>s3 _ _ (s2 _ _ (s1 _ _ h))
  exact q _ H3 S3 ⟨p3,z1,z2,rfl,g3,h1.mono (au S3),h2.mono (au S3)⟩
 | whn A B C=>
  obtain ⟨a1,u1,u2,u3,e,ha1,_,_,_⟩:=id hRg
  cases e
  refine ⟨aR,_,rfl,.inr (hR H),rfl,bj,false,(j0 (by show ("when":Str)∉rdgs;decide +kernel)),bu ?_⟩
  obtain ⟨z1,z2,z3,rfl,h1,h2,h3⟩: ∃ z1 z2 z3,zs=[z1,z2,z3]/\Rep H (A.sub M) z1/\Rep H (B.sub M) z2/\Rep H (C.sub M) z3:=by
   cases hz with
   | cons x t=>
    cases t with
    | cons y t'=>
     cases t' with
     | cons z t''=>
      cases t''
      exact ⟨_,_,_,rfl,x,y,z⟩
  refine ⟨_,rfl,_,.inl ⟨_,SqL.of gp,rfl⟩,cH ?_⟩
  refine ⟨_,rfl,1,rfl,a,_,rfl,ha1,fun p1 H1 s1 g1=>?_⟩
  rw [pM]at g1
  refine ⟨_,rfl,p,_,rfl,.inl ⟨SqL.of (s1 _ _ gp),fun p2 hp2=>?_⟩⟩
  have s2:=ag hp2 (.tup [z1,z2,z3])
  have g2:(upd H1 p2 (.tup [z1,z2,z3])) p2=some (.tup [z1,z2,z3]):=ab
  generalize upd H1 p2 (.tup [z1,z2,z3])=H2 at s2 g2 ⊢
  refine ⟨p1,p2,_,_,rfl,rfl,s2 _ _ g1,g2,(by show 1+3<=sizeLine;decide),fun p3 H3 s3 g3=>?_⟩
  have S3:Same H H3:=fun b u h=>s3 _ _ (s2 _ _ (s1 _ _ h))
  exact q _ H3 S3 ⟨p3,z1,z2,z3,rfl,g3,h1.mono (au S3),h2.mono (au S3),h3.mono (au S3)⟩
theorem mv {qual:Str} {cl:List (Str×Addr)} {fl c' md:Addr} {oc:Obj} {kvs:List (KK×V)} {M:KK->Option Fm}
  (GW:ar P w K mg base CX0 2 f3 fd3 ["one","inner","made"] iG) (bW:Binds K fd3 ["one","inner","made"] []) (kW:PySem.W.keepIn K (.ref f3)=true) (mW:mg "one_put_otherwise"=some (.ref f3))
  (hoc:ir oc qual) (hL:pS base cl ["made"] [.ref md] fl c' "<lambda>" qual yk yj ww):lG P w K mg base 3 fl (oP (fun H=>H md=some (.dT kvs)/\MdAt H kvs M) (fun _=>True) (fun H g u=>Rep H (Fm.sub M g) u) c' oc):=by
 obtain ⟨⟨pm,ctv,hfl⟩,hcell,hinj,hcap,hcs⟩:=hL
 obtain ⟨vc,tq,hd,hq⟩:=hoc
 refine wv (ps:=["one","inner"]) (ys:=["made"]) (cs:=[.ref md]) hfl hd hq xm hcell hinj hcap hcs (fun us hl=>?_) (fun vs H Q h=>?_) (fun vs H Q h=>?_) (fun A outer s H vs Q hr h=>?_)
 ·match us,hl with
  | [_,_],_=>rfl
 ·obtain ⟨g,v,p,zs,rfl,_⟩:=h
  rfl
 ·obtain ⟨g,v,p,zs,rfl,_,_,_,_,_,_,h,_⟩:=h
  exact h
 ·obtain ⟨g,v,p,zs,rfl,hR,wf,_,⟨hP,hM⟩,hp,hz,_,q⟩:=h
  refine ⟨_,al GW hr rfl mW kW bW .nil aq (aa (pv 0) (aa (pv 1) (aa (pv 2) ad))),?_⟩
  exact ⟨_,rfl,_,rfl,_,rfl,g,v,p,zs,md,kvs,M,rfl,hR,wf,hP,hM,hp,hz,q⟩
theorem v4:ay ["formula","made"] ["formula","made"] (ak lW):=fsc
theorem uV (F:Fun K "put_otherwise" "put_otherwise" lW f fd) (hfc:fd.code=.ref c) (hC:PySem.W.CodeHd base c tbA) (hB:base.BuiltinsAt mg tbA)
  (GF: ∀ base,ar P w K mg base CX0 4 f2 fd2 ["formula","tell"] (kf P w K mg base)) (bF:Binds K fd2 ["formula","tell"] []) (kF:PySem.W.keepIn K (.ref f2)=true) (mF:mg "folded"=some (.ref f2))
  (GW: ∀ base,ar P w K mg base CX0 2 f3 fd3 ["one","inner","made"] iG) (bW:Binds K fd3 ["one","inner","made"] []) (kW:PySem.W.keepIn K (.ref f3)=true) (mW:mg "one_put_otherwise"=some (.ref f3)):
  ar P w K mg base CX0 5 f fd ["formula","made"] (rT tbA):=by
 refine F.okC v4 (fun vs H Q E h=>?_) (fun A outer s H vs Q E hr h=>?_)
 ·obtain ⟨fm,v,md,kvs,M,rfl,_⟩:=h
  rfl
 obtain ⟨fm,v,md,kvs,M,rfl,hR,wf,h15,gmd,hM,hTb,q⟩:=h
 refine ⟨_,aj (aB (nR (spF:=kf P w K mg) (ys:=["made"]) (fr:=[1]) GF hr rfl mF kF bF (pv 0) hC hfc hB wx (fun _=>rfl) rfl)),?_⟩
 have hPs: ∀ H H':Hp,Same H H'->(H md=some (.dT kvs)/\MdAt H kvs M)->(H' md=some (.dT kvs)/\MdAt H' kvs M):=fun H H' s h=>⟨s _ _ h.1,h.2.mono (au s)⟩
 rcases hTb with hP | ⟨c',oc,hP,hne,hc',hoc⟩
 ·have ntd:md≠tbA:=fun z=>by rw [z,hP]at gmd;cases gmd
  refine ⟨_,rfl,#[],[.ref md],hP,trivial,rfl,.inl ⟨rfl,fun fl c' oc base nc ncP hoc hL=>?_⟩⟩
  have ntc:md≠c':=af gmd nc
  have tk:TK H (upd (upd H tbA (.tbl (#[]++ #[rawInt lamP.line,rawInt lamP.col,.ref c']))) c' (fA c' oc)):=by
   refine TK.trans (TK.upd fun xs e=>?_) (TK.new ?_)
   ·rw [hP]at e;cases e
   ·rw [ah ncP];exact nc
  refine ⟨fm,v,fl,c',oc,(fun H=>H md=some (.dT kvs)/\MdAt H kvs M),(fun _=>True),(fun H g u=>Rep H (Fm.sub M g) u),rfl,hR.mono tk,wf,h15,hPs,(fun _ _ _ _=>trivial),(fun H H' g u t h=>Rep.mono t h),trivial,⟨?_,hM.mono tk⟩,mv (GW _) bW kW mW hoc hL,ab,fun u H' sm hu=>q u H' (fun b o h hb=>sm _ _ ?_) (.inr ⟨c',oc,sm _ _ ?_,ncP,sm _ _ ab,hoc⟩) hu⟩
  ·rw [ah ntc,ah ntd];exact gmd
  ·rw [ah (af h nc),ah hb];exact h
  ·rw [ah (Ne.symm ncP),ab];rfl
 ·refine ⟨_,rfl,_,[.ref md],hP,trivial,rfl,.inr ⟨c',oc,rfl,hc',hoc,fun fl base hL=>?_⟩⟩
  exact ⟨fm,v,fl,c',oc,(fun H=>H md=some (.dT kvs)/\MdAt H kvs M),(fun _=>True),(fun H g u=>Rep H (Fm.sub M g) u),rfl,hR,wf,h15,hPs,(fun _ _ _ _=>trivial),(fun H H' g u t h=>Rep.mono t h),trivial,⟨gmd,hM⟩,mv (GW _) bW kW mW hoc hL,hc',fun u H' sm hu=>q u H' (fun b o h _=>sm _ _ h) (TabSt.same sm (.inr ⟨c',oc,hP,hne,hc',hoc⟩)) hu⟩
noncomputable def gh (Z:KK->Option Nat) (g:Fm):Nat:=match kyP g with
 | some k=>(Z k).getD 1
 | none=>1
noncomputable def eJ (Z:KK->Option Nat):List Fm->Nat
 | []=>0
 | g::r=>gh Z g+eJ Z r
theorem jy (Z:KK->Option Nat) (g:Fm): ∀ l:List Fm,eJ Z (l++[g])=eJ Z l+gh Z g
 | []=>by show gh Z g+0=0+gh Z g;lia
 | x::r=>by
  show gh Z x+eJ Z (r++[g])=gh Z x+eJ Z r+gh Z g
  rw [jy Z g r];lia
theorem Ts.sums {H:Hp} {Z:KK->Option Nat}: ∀ {fm:Fm} {v:V} {vs out:List V} {gs:List Fm},Rep H fm v->fm.wf->Ts H vs out->Paired (fun g u=>Rep H g u/\g.wf) gs out-> ∃ out' gs',Ts H (v::vs) out'/\out'.length=fm.size+out.length/\Paired (fun g u=>Rep H g u/\g.wf) gs' out'/\eJ Z gs'=fm.szw Z+eJ Z gs
 | .num n,_,vs,out,gs,R,w,t,h=>by
  obtain ⟨a,rfl,ha⟩:=id R
  exact ⟨_,_,.cons ha (by decide +kernel) (by simp) (by rw [show bf [.str "num",.int n]=[] by simp only [bf,fh];rfl];exact t),by show out.length+1=1+out.length;lia,.cons ⟨R,w⟩ h,rfl⟩
 | .own x,_,vs,out,gs,R,w,t,h=>by
  obtain ⟨a,rfl,ha⟩:=id R
  exact ⟨_,_,.cons ha (by decide +kernel) (by simp) (by rw [show bf [.str "own",.str x]=[] by simp only [bf,dN];rfl];exact t),by show out.length+1=1+out.length;lia,.cons ⟨R,w⟩ h,rfl⟩
 | .part k x,_,vs,out,gs,R,w,t,h=>by
  obtain ⟨a,rfl,ha⟩:=id R
  exact ⟨_,_,.cons ha (by decide +kernel) (by simp) (by rw [show bf [.str "part",.int k,.str x]=[] by simp only [bf,du];rfl];exact t),by show out.length+1=1+out.length;lia,.cons ⟨R,w⟩ h,rfl⟩
 | .bin op A B,_,vs,out,gs,R,w,t,h=>by
  obtain ⟨a,u,v,rfl,ha,r1,r2⟩:=id R
  obtain ⟨o1,g1,t1,l1,h1,e1⟩:=Ts.sums (Z:=Z) r2 w.2.2 t h
  obtain ⟨o2,g2,t2,l2,h2,e2⟩:=Ts.sums (Z:=Z) r1 w.2.1 t1 h1
  refine ⟨_,_,.cons ha (fe w.1) (by simp) (by rw [show bf [.str op,u,v]=[u,v] by simp only [bf,gN w.1];rfl];exact t2),by rw [List.length_cons,l2,l1];show _=A.size+B.size+1+out.length;lia,.cons ⟨R,w⟩ h2,?_⟩
  show 1+eJ Z g2=A.szw Z+B.szw Z+1+eJ Z gs
  rw [e2,e1];lia
 | .whn A B C,_,vs,out,gs,R,w,t,h=>by
  obtain ⟨a,u,v,x,rfl,ha,r1,r2,r3⟩:=id R
  obtain ⟨o0,g0,t0,l0,h0,e0⟩:=Ts.sums (Z:=Z) r3 w.2.2 t h
  obtain ⟨o1,g1,t1,l1,h1,e1⟩:=Ts.sums (Z:=Z) r2 w.2.1 t0 h0
  obtain ⟨o2,g2,t2,l2,h2,e2⟩:=Ts.sums (Z:=Z) r1 w.1 t1 h1
  refine ⟨_,_,.cons ha (by decide +kernel) (by simp) (by rw [show bf [.str "when",u,v,x]=[u,v,x] by simp only [bf,i7];rfl];exact t2),by rw [List.length_cons,l2,l1,l0];show _=A.size+B.size+C.size+1+out.length;lia,.cons ⟨R,w⟩ h2,?_⟩
  show 1+eJ Z g2=A.szw Z+B.szw Z+C.szw Z+1+eJ Z gs
  rw [e2,e1,e0];lia
noncomputable def eI (dn:List KK) (U:KK->Fm) (k:KK):Option Nat:=if k∈dn then some (U k).size else none
theorem uu (dn:List KK) (U:KK->Fm):eI dn U=fun k=>(fB dn U k).map Fm.size:=by
 funext k
 unfold eI fB
 by_cases c:k∈dn
 ·rw [if_pos c,if_pos c];rfl
 ·rw [if_neg c,if_neg c];rfl
noncomputable def yE (kvs:List (KK×V)) (Z:KK->Option Nat):Prop:= ∀ k,aU kvs k=(Z k).map fun n=>V.int ((n:Nat):Int)
theorem ja (z:Option Nat):(z.map fun n=>V.int ((n:Nat):Int)).getD (.int 1)=V.int ((z.getD 1:Nat):Int):=by cases z <;> rfl
noncomputable def rV:Sp:=fun vs H Q _=> ∃ (v:V) (fr:Frm) (p:Addr) (ys:List V) (ord:List KK) (U:KK->Fm),vs=[v,.ref p]/\RepF H fr v/\RsOk fr.rules/\H p=some (.lst ys)/\KsOf H ys ord/\pR fr.rules ord/\UOk fr.rules U/\ ∀ H',Same H H'->Q .non H'
noncomputable def unR (U:KK->Fm) (r:Rul):Rul:=⟨r.pl,r.word,U (aE r)⟩
noncomputable def unF (U:KK->Fm) (fr:Frm):Frm:=⟨fr.name,fr.own,fr.parts,fr.rules.map (unR U)⟩
noncomputable def oV (tbA:Addr):Sp:=fun vs H Q _=> ∃ (v:V) (fr:Frm) (p:Addr) (ys:List V) (ord:List KK) (U:KK->Fm),vs=[v,.ref p]/\RepF H fr v/\RsOk fr.rules/\H p=some (.lst ys)/\KsOf H ys ord/\pR fr.rules ord/\UOk fr.rules U/\TabSt tbA H/\ ∀ u H',Kp tbA H H'->TabSt tbA H'->RepF H' (unF U fr) u->Q u H'
theorem jJ {H:Hp} {rs:List Rul} {kv:List (KK×V)} (hok:RsOk rs) (hP:Paired (KvR H) rs kv) {k:KK} (hk:k∈rs.map aE): ∃ r∈rs,aE r=k/\ ∃ u,aU kv k=some u/\Rep H r.fm u:=by
 obtain ⟨r,hr,rfl⟩:=List.mem_map.mp hk
 obtain ⟨j,hj⟩:=List.getElem?_of_mem hr
 obtain ⟨⟨k',u⟩,hu,e,hR⟩:=bQ hP hj
 have e:k'=aE r:=e
 subst e
 exact ⟨r,hr,rfl,u,eW (by rw [gj hP];exact hok.nd) hu,hR⟩
noncomputable abbrev NFt:List Str:=["form","order","formulas","sizes","key","size","one"]
theorem scFewT:ay NFt ["form","order"] (ak sn):=fsc
theorem uW {tM:Tok} (F:Fun K "need_few_tuples" "need_few_tuples" sn f fd) (mR:mg "READINGS"=some (.ref aR)) (hR: ∀ H,SqT K H aR (rdgs.map V.str)) (mM:mg "MOST_TUPLES_MADE"=some (.int 400 tM))
  (GB:ar P w K mg base CX0 2 f2 fd2 ["form"] fV) (bB:Binds K fd2 ["form"] []) (kB:PySem.W.keepIn K (.ref f2)=true) (mB:mg "formulas_by_key"=some (.ref f2))
  (GT:ar P w K mg base CX0 2 f3 fd3 ["formula"] fR) (bT:Binds K fd3 ["formula"] []) (kT:PySem.W.keepIn K (.ref f3)=true) (mT:mg "tuples_of"=some (.ref f3))
  (GK:ar P w K mg base CX0 1 f4 fd4 ["reading"] ie) (bK:Binds K fd4 ["reading"] []) (kK:PySem.W.keepIn K (.ref f4)=true) (mK:mg "key_of"=some (.ref f4)):
  ar P w K mg base CX0 3 f fd ["form","order"] rV:=by
 refine F.ok scFewT (fun vs H Q E h=>?_) (fun cdv A outer s H vs Q E hr h=>?_)
 ·obtain ⟨v,fr,p,ys,ord,U,rfl,_⟩:=h
  rfl
 obtain ⟨v,fr,p,ys,ord,U,rfl,hF,hok,gp,hys,hO,hU,q⟩:=h
 have h12:=hok.few
 have hu:=cW hr
 have hr1:=hr.mono (show 1<=2 by decide)
 refine ⟨_,ae (am (i:=2) scFewT.nd rfl (Or.inl rfl) (al GB hr rfl mB kB bB .nil aq (aa (pv 0) ad)))
  (ae (am (i:=3) scFewT.nd rfl (Or.inl rfl) cx)
  (aj (bd PassesOwn.never rfl (cO (pv 1)) (av (i:=4) scFewT.nd rfl (Or.inl rfl))
   (ae (am (i:=5) scFewT.nd rfl (Or.inl rfl) ai)
   (ae (bd PassesOwn.never rfl (cO (al GT hr rfl mT kT bT .nil aq (aa (bV hu (pv 2) (pv 4) (fun _ _=>rfl)) ad))) (av (i:=6) scFewT.nd rfl (Or.inl rfl))
    (aj (sG (i:=5) scFewT.nd rfl (Or.inl rfl) (eP (aC dJ (aF aW (pv 6) ai (fun _ _=>rfl)) (gb (v:=.ref aR) rfl mR rfl) (by with_unfolding_all rfl))
     (eQ hu (pv 3) (al GK hr1 rfl mK kK bK .nil aq (aa (pv 6) ad)) ai ⟨rfl,rfl,rfl,rfl⟩) ai) tR)))
   (ae (bh (aC iY (pv 5) (gb (v:=.int 400) rfl mM ⟨_,rfl⟩) (aJ _)) gI aN)
   (aj (cC hu (pv 3) (pv 4) (pv 5) rfl)))))))),?_⟩
 refine ⟨_,rfl,v,fr,rfl,hF,hok,fun fd kv H1 hfd s1 gfd hP=>?_⟩
 refine fun sz hsz=>?_
 have nfs:fd≠sz:=af gfd hsz
 have s2:=ag hsz (.dT [])
 have g2:(upd H1 sz (.dT [])) sz=some (.dT []):=ab
 have hsz0:H sz=none:=s1.free hsz
 have npz:p≠sz:=af gp hsz0
 generalize upd H1 sz (.dT [])=H2 at s2 g2 ⊢
 have S2:=s1.trans s2
 have lys:ys.length=ord.length:=Paired.length hys
 have lord:=hO.len
 refine ⟨_,rfl,p,rfl,⟨_,SqL.of (S2 _ _ gp)⟩,?_⟩
 refine cY (xs:=ys) (fun i σ H'=>i<=ys.length/\ ∃ o4 o5 o6 kvs,σ=[some v,some (.ref p),some (.ref fd),some (.ref sz),o4,o5,o6]/\Same H1 H'/\H' sz=some (.dT kvs)/\kvs.length<=i/\yE kvs (eI (ord.take i) U))
  ⟨Nat.zero_le _,none,none,none,[],rfl,s2,g2,Nat.le_refl _,fun k=>by unfold eI;rw [List.take_zero,if_neg (by simp)];rfl⟩ (fun i σ H' _ h=>by obtain ⟨_,_,_,_,_,_,s',_⟩:=h;exact SqL.of (s' _ _ (s1 _ _ gp))) ?_ ?_
 ·rintro i x σ H3 hx ⟨hi,o4,o5,o6,kvs,rfl,S3,gs3,hl3,hZ3⟩
  have hil:i<ys.length:=(List.getElem?_eq_some_iff.mp hx).1
  obtain ⟨k,hk,b,eb,hb⟩: ∃ k,ord[i]? =some k/\ ∃ b,x=.ref b/\H b=some (.tup (List.map kV k)):=by
   obtain ⟨k,h1,b,h2,h3⟩:=bQ hys hx
   exact ⟨k,h1,b,h2,h3⟩
  subst eb
  have hkk:=hO.sub k (List.mem_of_getElem? hk)
  obtain ⟨r,hrm,rfl,u,hval,hRu⟩:=jJ hok hP hkk
  obtain ⟨hwf,hsz15⟩:=hok.fm r hrm
  have hb1:=s1 _ _ hb
  have gfd3:=S3 _ _ gfd
  have hsub:r.fm.sub (fB (ord.take i) U)=U (aE r):=oK hok hU (fun o ho=>hO.sub o (List.mem_of_mem_take ho)) hrm (hO.top i _ hk)
  have hW:r.fm.szw (eI (ord.take i) U)=(U (aE r)).size:=by rw [uu,dX,hsub]
  have h400:=hU.sz r hrm
  obtain ⟨out,gs,hTs,hol,hgs,hsum⟩:=Ts.sums (Z:=eI (ord.take i) U) (hRu.mono (au S3)) hwf Ts.nil .nil
  have hol:out.length=r.fm.size:=hol
  have hsum:eJ (eI (ord.take i) U) gs=r.fm.szw (eI (ord.take i) U):=hsum
  have lgs:gs.length=out.length:=Paired.length hgs
  refine ⟨_,rfl,_,rfl,fd,u,rfl,(by rw [<- hval];exact DGet.t (k:=aE r) gfd3 (S3 _ _ hb1)),u,out,rfl,hTs,by lia,fun tl H4 s4 g4=>?_⟩
  refine ⟨tl,rfl,⟨_,SqL.of g4⟩,?_⟩
  refine cY (xs:=out) (fun m σ H'=>m<=out.length/\ ∃ o6,σ=[some v,some (.ref p),some (.ref fd),some (.ref sz),some (.ref b),some (.int ((eJ (eI (ord.take i) U) (gs.take m):Nat):Int)),o6]/\Same H4 H')
   ⟨Nat.zero_le _,o6,rfl,Same.refl _⟩ (fun m σ H' _ h=>by obtain ⟨_,_,_,s'⟩:=h;exact SqL.of (s' _ _ g4)) ?_ ?_
  ·rintro m y σ H5 hy ⟨hm,o6,rfl,s5⟩
   have hml:m<out.length:=(List.getElem?_eq_some_iff.mp hy).1
   obtain ⟨g,hg,hRg,hwg⟩:=aH hgs hy
   have S35:=s4.trans s5
   have hRg:=hRg.mono (au S35)
   have gs5:=S35 _ _ gs3
   have etk:eJ (eI (ord.take i) U) (gs.take (m+1))=eJ (eI (ord.take i) U) (gs.take m) +gh (eI (ord.take i) U) g:=by rw [aY hg,jy]
   have fin: ∀ H6,Same H5 H6->m+1<=out.length/\ ∃ o6',[some v,some (V.ref p),some (.ref fd),some (.ref sz),some (.ref b),some (V.int (((eJ (eI (ord.take i) U) (gs.take m):Nat):Int) + ((gh (eI (ord.take i) U) g:Nat):Int))),some y]=[some v,some (.ref p),some (.ref fd),some (.ref sz),some (.ref b),some (.int ((eJ (eI (ord.take i) U) (gs.take (m+1)):Nat):Int)),o6']/\Same H4 H6:=fun H6 s6=>by
    refine ⟨hml,some y,?_,s5.trans s6⟩
    rw [etk,Int.natCast_add]
   obtain ⟨a,rr,rfl,ha⟩:=fY hRg
   refine ⟨_,rfl,_,rfl,a,_,0,.str (dQ g),rfl,rfl,SqT.of ha,cz,?_⟩
   cases g with
   | num n=>
    refine ⟨aR,_,rfl,.inr (hR H5),rfl,bj,false,(j0 (by show ("num":Str)∉rdgs;decide +kernel)),bu ?_⟩
    exact ⟨_,_,rfl,rfl,fin H5 (Same.refl _)⟩
   | own x=>
    obtain ⟨a',e,ha'⟩:=id hRg
    cases e
    refine ⟨aR,_,rfl,.inr (hR H5),rfl,bj,true,(vA (by show ("own":Str)∈rdgs;decide +kernel)),cH ?_⟩
    refine ⟨_,rfl,sz,rfl,.inr ⟨kvs,.inl gs5⟩,_,rfl,a,[.inr "own",.inr x],rfl,ha',(.inl ⟨x,rfl,bw hwg⟩),fun p9 i9 y9 hor hp9=>?_⟩
    have s9:=ag hp9 (.tup [.int i9,.str y9])
    have g9:(upd H5 p9 (.tup [.int i9,.str y9])) p9=some (.tup (List.map kV (pk i9 y9))):=ab
    generalize upd H5 p9 (.tup [.int i9,.str y9])=H9 at s9 g9 ⊢
    have ek:pk i9 y9=pk (-1) x:=by
     rcases hor with ⟨e1,e2⟩ | e1
     ·obtain ⟨_,e3⟩:=List.cons.inj e1
      rw [e2,Sum.inr.inj (List.cons.inj e3).1]
     ·cases (List.cons.inj (List.cons.inj e1).2).1
    rw [ek]at g9
    refine ⟨_,DGet.t (k:=pk (-1) x) (s9 _ _ gs5) g9,?_⟩
    rw [hZ3 (pk (-1) x),ja]
    exact ⟨_,_,rfl,rfl,fin H9 s9⟩
   | part k x=>
    obtain ⟨a',e,ha'⟩:=id hRg
    cases e
    refine ⟨aR,_,rfl,.inr (hR H5),rfl,bj,true,(vA (by show ("part":Str)∈rdgs;decide +kernel)),cH ?_⟩
    refine ⟨_,rfl,sz,rfl,.inr ⟨kvs,.inl gs5⟩,_,rfl,a,[.inr "part",.inl k,.inr x],rfl,ha',(.inr ⟨k,x,rfl,bw hwg.2⟩),fun p9 i9 y9 hor hp9=>?_⟩
    have s9:=ag hp9 (.tup [.int i9,.str y9])
    have g9:(upd H5 p9 (.tup [.int i9,.str y9])) p9=some (.tup (List.map kV (pk i9 y9))):=ab
    generalize upd H5 p9 (.tup [.int i9,.str y9])=H9 at s9 g9 ⊢
    have ek:pk i9 y9=pk k x:=by
     rcases hor with ⟨e1,e2⟩ | e1
     ·cases (List.cons.inj (List.cons.inj e1).2).1
     ·obtain ⟨_,e3⟩:=List.cons.inj e1
      obtain ⟨e4,e5⟩:=List.cons.inj e3
      rw [Sum.inl.inj e4,Sum.inr.inj (List.cons.inj e5).1]
    rw [ek]at g9
    refine ⟨_,DGet.t (k:=pk k x) (s9 _ _ gs5) g9,?_⟩
    rw [hZ3 (pk k x),ja]
    exact ⟨_,_,rfl,rfl,fin H9 s9⟩
   | bin op A B=>
    obtain ⟨ho,_,_⟩:op∈ops/\A.wf/\B.wf:=hwg
    have hnr:op∉rdgs:=fun z=>by
     simp only [rdgs,List.mem_cons,List.not_mem_nil,or_false]at z
     rcases z with z | z <;> (rw [z]at ho;exact absurd ho (by decide +kernel))
    refine ⟨aR,_,rfl,.inr (hR H5),rfl,bj,false,(j0 hnr),bu ?_⟩
    exact ⟨_,_,rfl,rfl,fin H5 (Same.refl _)⟩
   | whn A B C=>
    refine ⟨aR,_,rfl,.inr (hR H5),rfl,bj,false,(j0 (by show ("when":Str)∉rdgs;decide +kernel)),bu ?_⟩
    exact ⟨_,_,rfl,rfl,fin H5 (Same.refl _)⟩
  ·rintro σ H5 ⟨_,o6,rfl,s5⟩
   rw [<- lgs,List.take_length,hsum,hW]
   refine ⟨_,rfl,_,_,rfl,rfl,_,rfl,?_⟩
   rw [decide_eq_false (by lia)]
   refine bu ?_
   have S35:=s4.trans s5
   have S15:=S3.trans S35
   refine ⟨_,rfl,_,rfl,_,rfl,sz,_,rfl,DPut.t (k:=aE r) (S35 _ _ gs3) (S15 _ _ hb1) (ao (by lia)),?_⟩
   have hlp:=bU kvs (aE r) (V.int ((U (aE r)).size:Int))
   refine ⟨hil,_,_,_,_,rfl,fun b' u' h=>?_,ab,by lia,fun k=>?_⟩
   ·rw [ah (af h hsz)];exact S15 _ _ h
   ·rw [cK]
    by_cases ck:k=aE r
    ·subst ck
     rw [if_pos rfl]
     unfold eI
     rw [aY hk,if_pos (by simp)]
     rfl
    ·rw [if_neg ck,hZ3 k]
     unfold eI
     rw [aY hk]
     have:(k∈ord.take i++[aE r])↔k∈ord.take i:=by rw [List.mem_append,List.mem_singleton];exact ⟨fun z=>z.elim id (fun z=>absurd z ck),.inl⟩
     by_cases cm:k∈ord.take i
     ·rw [if_pos cm,if_pos (this.mpr cm)]
     ·rw [if_neg cm,if_neg (fun z=>cm (this.mp z))]
 ·rintro σ H3 ⟨_,o4,o5,o6,kvs,rfl,S3,gs3,hl3,hZ3⟩
  exact q H3 (s1.trans S3)
end My
namespace HT
open PySem PyProof.Rows
section
variable {prog:Program} {w:World} {A:Around} {s:Shared} {E:Value->Shared->Prop}
noncomputable def zK2 (h:Heap) (l1 l2:Addr):Heap:=(h.push (tIt l1)).push (xB l2)
noncomputable def zK3 (h:Heap) (l1 l2:Addr):Heap:=(zK2 h l1 l2).push {cls:=.type "tuple",data:=.seq #[.ref h.objs.size,.ref (h.push (tIt l1)).objs.size]}
noncomputable def zK4 (h:Heap) (l1 l2:Addr):Heap:=(zK3 h l1 l2).push {cls:=.type "tuple",data:=.seq #[.none,.none]}
noncomputable def zK5 (h:Heap) (l1 l2:Addr):Heap:=(zK4 h l1 l2).push {cls:=.type "zip",data:=.fields #[.none,.bool false,.bool false,.ref (zK2 h l1 l2).objs.size,.ref (zK3 h l1 l2).objs.size]}
theorem rh (l1 l2:Addr) (xs ys:Array Value):Meets (Builtin.«zip.__new__» ⟨[.type "zip",.ref l1,.ref l2],[]⟩)
  (fun _ R s=>s.heap.IsTuple l1 xs/\s.heap.IsList l2 ys/\R (.ok (.ret (.ref (zK4 s.heap l1 l2).objs.size))) {s with heap:=zK5 s.heap l1 l2}):=
 .of_wp fun prog w A R s h=>by
  obtain ⟨hp,g,d,tk,os⟩:=s
  obtain ⟨a1,a2,h⟩:=h
  have sub:=sub_zip
  have b1:Heap.IsTuple (Shared.heap ⟨hp,g,d,tk,os⟩) l1 xs:=a1
  have b2:Heap.IsList (Shared.heap ⟨hp.push {cls:=.type "tuple_iterator",data:=.fields #[.ref l1,.int 0 0]},g,d,tk,os⟩) l2 ys:=Heap.IsList.push a2 _
  wp_walk using wpAny_pyIter_tuple b1,wpAny_pyIter_list b2
  exact ⟨_,rfl,h⟩
theorem call_zipK {l1 l2:Addr} {xs ys:Array Value} {Q:Value->Shared->Prop} (a1:SSeq true s.heap l1 xs) (a2:SSeq false s.heap l2 ys)
  (q: ∀ h',IsZip h' (s.heap.objs.size+4) (s.heap.objs.size+2) (s.heap.objs.size+3) .none->IsPair h' (s.heap.objs.size+2) (.ref s.heap.objs.size) (.ref (s.heap.objs.size+1))->
   IsPair h' (s.heap.objs.size+3) .none .none->SIter true h' s.heap.objs.size l1 0->SIter false h' (s.heap.objs.size+1) l2 0->
   (∀ b o,s.heap.get? b=some o->h'.get? b=some o)->Q (.ref (s.heap.objs.size+4)) {s with heap:=h'}):wpAny (model prog w) A (call (.type "zip") [.ref l1,.ref l2]) Q E s:=by
 refine callType_new PySem.F.called_zip (by decide) (PySem.F.typeCall_zip_2 _ _) (PySem.F.newCall_zip_2 _ _) (fun obj=>PySem.F.args_object_init_3 obj _ _) PySem.F.entry_zip_new (rh l1 l2 xs ys) ⟨a1,a2,?_⟩
 have z1:(s.heap.push (tIt l1)).objs.size=s.heap.objs.size+1:=Heap.size_push ..
 have z2:(zK2 s.heap l1 l2).objs.size=s.heap.objs.size+2:=by unfold zK2;rw [Heap.size_push,z1]
 have z3:(zK3 s.heap l1 l2).objs.size=s.heap.objs.size+3:=by unfold zK3;rw [Heap.size_push,z2]
 have z4:(zK4 s.heap l1 l2).objs.size=s.heap.objs.size+4:=by unfold zK4;rw [Heap.size_push,z3]
 have g5:(zK5 s.heap l1 l2).get? (zK4 s.heap l1 l2).objs.size=some {cls:=.type "zip",data:=.fields #[.none,.bool false,.bool false,.ref (zK2 s.heap l1 l2).objs.size,.ref (zK3 s.heap l1 l2).objs.size]}:=Heap.get?_push_size _ rfl
 have g4:(zK5 s.heap l1 l2).get? (zK3 s.heap l1 l2).objs.size=some {cls:=.type "tuple",data:=.seq #[.none,.none]}:=Heap.get?_push_of_some _ (Heap.get?_push_size _ rfl)
 have g3:(zK5 s.heap l1 l2).get? (zK2 s.heap l1 l2).objs.size=some {cls:=.type "tuple",data:=.seq #[.ref s.heap.objs.size,.ref (s.heap.push (tIt l1)).objs.size]}:=Heap.get?_push_of_some _ (Heap.get?_push_of_some _ (Heap.get?_push_size _ rfl))
 have g2:(zK5 s.heap l1 l2).get? (s.heap.push (tIt l1)).objs.size=some (xB l2):=Heap.get?_push_of_some _ (Heap.get?_push_of_some _ (Heap.get?_push_of_some _ (Heap.get?_push_size _ rfl)))
 have g1:(zK5 s.heap l1 l2).get? s.heap.objs.size=some (tIt l1):=Heap.get?_push_of_some _ (Heap.get?_push_of_some _ (Heap.get?_push_of_some _ (Heap.get?_push_of_some _ (Heap.get?_push_size _ rfl))))
 show _/\_
 rw [z2,z3,z4]at g5
 rw [z1,z2]at g3
 rw [z3]at g4
 rw [z1]at g2
 rw [z4]
 exact ⟨⟨_,g5,rfl⟩,q _ g5 g3 g4 (show Heap.IsTupleIter _ _ _ _ from ⟨_,g1,rfl,rfl⟩) (show Heap.IsListIter _ _ _ _ from ⟨_,g2,rfl,rfl⟩) fun b o x=>
  Heap.get?_push_of_some _ (Heap.get?_push_of_some _ (Heap.get?_push_of_some _ (Heap.get?_push_of_some _ (Heap.get?_push_of_some _ x))))⟩
end
end HT
namespace L2
open PySem PySem.Spec PyProof.Rows
theorem vH {X:Cx} {pins:List (Addr×Obj)} {σ:St} {H:Hp} {s:Shared} {l b:Addr} {xs:List V} (I:Inv X pins σ H s) (h:SqT X.K H l xs) (f:ib X pins H b):b≠l:=by
 rintro rfl
 rcases h with (h | ⟨o,h⟩) | ⟨o,its,n,hk,_⟩
 ·rw [f.1]at h;cases h
 ·rw [f.1]at h;cases h
 ·have e:=I.ok.mod.kin b o hk
  rcases f.2.2.2.1 with z | z
  ·exact I.ok.noex b o e z
  ·exact absurd (Nat.lt_of_lt_of_le (Heap.lt_size e) I.ok.bsz) (Nat.not_lt.mpr z)
noncomputable def qZ (K:PySem.W.Frag) (l1 l2:Addr):It:=
 ⟨fun i H=> ∃ xs ys x y,SqT K H l1 xs/\H l2=some (.lst ys)/\xs[i]? =some x/\ys[i]? =some y,
  fun i H v H'=> ∃ T x y,H T=none/\v=.ref T/\H'=upd H T (.tup [x,y])/\ ∀ xs ys,SqT K H l1 xs->H l2=some (.lst ys)->xs[i]? =some x/\ys[i]? =some y,
  fun i H=> ∃ xs ys,SqT K H l1 xs/\H l2=some (.lst ys)/\xs.length=i/\ys.length=i⟩
noncomputable def yC (z TI TO i1 i2 l1 l2:Addr) (i:Nat) (h:Heap):Prop:=IsZip h z TI TO .none/\IsPair h TI (.ref i1) (.ref i2)/\(∃ a b,IsPair h TO a b)/\HT.SIter true h i1 l1 i/\HT.SIter false h i2 l2 i
theorem pU {P:Program} {w:World} {K:PySem.W.Frag} {es:List Expr} {kk:Nat} {tpos:Pos} (z TI TO i1 i2 l1 l2:Addr) (nd:[z,TI,TO,i1,i2].Nodup):
  jq P w K (.Tuple es kk tpos) (qZ K l1 l2) [z,TI,TO,i1,i2] z (yC z TI TO i1 i2 l1 l2):=by
 simp only [List.nodup_cons,List.mem_cons,List.not_mem_nil,or_false,not_or,List.nodup_nil,and_true]at nd
 obtain ⟨⟨n1,n2,n3,n4⟩,⟨n5,n6,n7⟩,⟨n8,n9⟩,n10,_⟩:=nd
 have ap: ∀ {X:Cx} {pins:List (Addr×Obj)} {H:Hp} {ys:List V},(∀ b∈[z,TI,TO,i1,i2],ib X pins H b)->(∀ b∈[z,TI,TO,i1,i2],b≠l1)->H l2=some (.lst ys)->
   HT.ZAp z TI TO i1 i2 [i1,l1] [i2,l2]/\l1≠i1/\l2≠i2:=by
  intro X pins H ys hf h1 h2
  have a: ∀ b∈[z,TI,TO,i1,i2],b≠l1/\b≠l2:=fun b hb=>⟨h1 b hb,(af h2 (hf b hb).1).symm⟩
  have az:=a z (by simp)
  have aO:=a TO (by simp)
  have a1:=a i1 (by simp)
  have a2:=a i2 (by simp)
  refine ⟨⟨Ne.symm n1,Ne.symm n2,Ne.symm n3,Ne.symm n4,n5,n6,n7,n8,n9,n10,?_,?_,?_,?_,?_,?_⟩,Ne.symm a1.1,Ne.symm a2.2⟩ <;> simp only [List.mem_cons,List.not_mem_nil,or_false,not_or]
  ·exact ⟨n3,az.1⟩
  ·exact ⟨n4,az.2⟩
  ·exact ⟨n8,aO.1⟩
  ·exact ⟨n9,aO.2⟩
  ·exact ⟨Ne.symm n10,a2.1⟩
  ·exact ⟨n10,a1.2⟩
 refine ⟨by simp,fun i h st b hb=>?_,fun i h h' st k=>?_,?_,?_,fun _ _ _ _ _ st h=>wpAny_pyIter_zip st.1 h⟩
 ·obtain ⟨h1,h2,⟨a,b',h3⟩,h4,h5⟩:=st
  rcases fp5 hb with rfl | rfl | rfl | rfl | rfl
  ·exact ⟨_,h1,fun v e=>nomatch e⟩
  ·exact ⟨_,h2,fun v e=>nomatch e⟩
  ·exact ⟨_,h3,fun v e=>nomatch e⟩
  ·exact h4.obj
  ·exact h5.obj
 ·obtain ⟨h1,h2,⟨a,b',h3⟩,h4,h5⟩:=st
  exact ⟨k z (by simp) _ h1,k TI (by simp) _ h2,⟨a,b',k TO (by simp) _ h3⟩,h4.at fun o e=>k i1 (by simp) o e,h5.at fun o e=>k i2 (by simp) o e⟩
 ·intro X hP hw hK hc i pins s σ H E I hf st hg
  subst hP hw hK
  obtain ⟨xs,ys,x,y,hx,hy,ex,ey⟩:=hg
  obtain ⟨its1,r1,q1,_⟩:=I.tuple hx
  have q1:HT.SSeq true s.heap l1 its1.toArray:=q1
  obtain ⟨its2,r2,q2,_⟩:=I.seqS (c:=false) hy
  obtain ⟨u,hu,ru⟩:=r1.get ex
  obtain ⟨v,hv,rv⟩:=r2.get ey
  obtain ⟨z0,t0,⟨a,b,o0⟩,s1,s2⟩:=st
  obtain ⟨D,e1,e2⟩:=ap hf (fun b hb=>vH I hx (hf b hb)) hy
  refine HT.next_zip (HT.draws_seq (A:=X.A.in1) true (I.ok.hd hc) i1 l1 e1 its1.toArray) (HT.draws_seq (A:=X.A.in1) false (I.ok.hd hc) i2 l2 e2 its2.toArray) D z0 t0 o0 ⟨s1,q1⟩ ⟨s2,q2⟩
   (by rw [List.size_toArray];exact (List.getElem?_eq_some_iff.mp hu).1) (by rw [List.size_toArray];exact (List.getElem?_eq_some_iff.mp hv).1) fun x' y' h' tk px py z1 o1 t1 t2 pr kk=>?_
  have ex':x'=u:=by
   have p1:its1[i]? =some x':=by simpa using px
   rw [hu]at p1;exact (Option.some.inj p1).symm
  have ey':y'=v:=by
   have p1:its2[i]? =some y':=by simpa using py
   rw [hv]at p1;exact (Option.some.inj p1).symm
  subst ex' ey'
  refine ⟨_,rfl,wpAny_letOwnedTupleGo_zip z1 fun h'' z2 sb=>?_⟩
  have lt: ∀ {b:Addr} {ob:Obj},s.heap.get? b=some ob->b≠s.heap.objs.size:=fun e=>Nat.ne_of_lt (Heap.lt_size e)
  have fT:H s.heap.objs.size=none:=I.hok.fresh (Nat.le_refl _)
  have keep: ∀ b ob,b∉[z,TO,i1,i2]->s.heap.get? b=some ob->h''.get? b=some ob:=fun b ob hb e=>by
   simp only [List.mem_cons,List.not_mem_nil,or_false,not_or]at hb
   exact sb.extBut b ob hb.1 (kk b ob hb.1 hb.2.1 hb.2.2.1 hb.2.2.2 e)
  have sub: ∀ b,b∈[z,TO,i1,i2]->b∈[z,TI,TO,i1,i2]:=fun b hb=>by
   simp only [List.mem_cons,List.not_mem_nil,or_false]at hb ⊢
   rcases hb with h | h | h | h
   ·exact .inl h
   ·exact .inr (.inr (.inl h))
   ·exact .inr (.inr (.inr (.inl h)))
   ·exact .inr (.inr (.inr (.inr h)))
  have trk: ∀ b uo,H b=some uo->b∉[z,TO,i1,i2]:=fun b uo e hb=>by rw [(hf b (sub b hb)).1]at e;cases e
  have ptT:IsPair h'' s.heap.objs.size x' y':=sb.extBut _ _ (Ne.symm (lt z0)) pr
  have I2:Inv X pins σ (upd H s.heap.objs.size (.tup [x,y])) {s with heap:=h'',toks:=tk}:=by
   refine I.step (g':=s.gens) (d':=s.drawn) (ch:=[z,TO,i1,i2]) (fun b hb=>?_) (fun b ob _ _ hb e _=>keep b ob hb e) (fun b ob _ _ hb e _=>⟨ob.slots,keep b ob hb e⟩) (fun b ob hb e n=>by rw [ah (lt e)];exact n)
    (fun b ob hb e=>⟨ob,keep b ob hb e⟩) (fun b zs e=>by rw [ah (af e fT)];exact e) (fun b ob uo e=>by rw [ah (af e fT)];exact e) (fun b ps e=>⟨#[],by rw [ah (af e fT),e];simp⟩) (fun m hm=>?_) (fun b uo e=>?_) I.bare
   ·obtain ⟨_,f1,_,f3,f4,f5⟩:=hf b (sub b hb)
    exact ⟨f3,f1,f4,f5⟩
   ·obtain ⟨ob,es',ep,ho,r⟩:=hm
    exact ⟨ob,es',ep,keep _ ob (fun hb=>(hf _ (sub _ hb)).2.1 rfl) ho,r⟩
   ·by_cases hb:b=s.heap.objs.size
    ·subst hb
     rw [ab]at e
     cases e
     exact ⟨by show 2<=sizeLine;decide,[x',y'],.cons ru (.cons rv .nil),_,ptT,rfl,_,rfl⟩
    ·rw [ah hb]at e
     refine (I.hok b uo e).stay (fun c' v' hc' q=>keep c' v' ?_ q) (fun c' q=>by rw [ah (af q fT)];exact q) fun c' zs q=>by rw [ah (af q fT)];exact q
     rcases hc' with h | h
     ·rw [h];exact trk b uo e
     ·exact trk c' _ h
  refine ⟨.ref s.heap.objs.size,_,I2,rfl,⟨_,x,y,fT,rfl,rfl,fun xs' ys' h1 h2=>?_⟩,⟨z2,sb.extBut _ _ (Ne.symm n1) (kk _ _ (Ne.symm n1) n5 n6 n7 t0),⟨_,_,sb.extBut _ _ (Ne.symm n2) o1⟩,t1.1.at fun o e=>sb.extBut _ o (Ne.symm n3) e,t2.1.at fun o e=>sb.extBut _ o (Ne.symm n4) e⟩,fun b hb=>?_⟩
  ·cases I.tuple_inj hx h1
   rw [hy]at h2
   cases h2
   exact ⟨ex,ey⟩
  ·have hb': ∃ ob,s.heap.get? b=some ob:=by
    rcases fp5 hb with rfl | rfl | rfl | rfl | rfl
    ·exact ⟨_,z0⟩
    ·exact ⟨_,t0⟩
    ·exact ⟨_,o0⟩
    ·obtain ⟨ob,e,_⟩:=s1.obj;exact ⟨ob,e⟩
    ·obtain ⟨ob,e,_⟩:=s2.obj;exact ⟨ob,e⟩
   obtain ⟨ob,e⟩:=hb'
   rw [ah (lt e)]
   exact (hf b hb).1
 ·intro X hP hw hK hc i pins s σ H E I hf st hg
  subst hP hw hK
  obtain ⟨xs,ys,hx,hy,l,l'⟩:=hg
  obtain ⟨its1,r1,q1,_⟩:=I.tuple hx
  have q1:HT.SSeq true s.heap l1 its1.toArray:=q1
  obtain ⟨z0,t0,⟨a,b,o0⟩,s1,s2⟩:=st
  obtain ⟨D,e1,e2⟩:=ap hf (fun b hb=>vH I hx (hf b hb)) hy
  have hi:i=its1.toArray.size:=by rw [List.size_toArray,<- l];exact r1.length
  rw [hi]at s1
  refine HT.end_zip (HT.draws_seq (A:=X.A.in1) true (I.ok.hd hc) i1 l1 e1 its1.toArray) D z0 t0 o0 ⟨s1,q1⟩ fun h' kk=>⟨rfl,?_⟩
  have keep: ∀ b ob,b∉[z,TO,i1,i2]->s.heap.get? b=some ob->h'.get? b=some ob:=fun b ob hb e=>by
   simp only [List.mem_cons,List.not_mem_nil,or_false,not_or]at hb
   exact kk b ob hb.1 hb.2.1 hb.2.2.1 hb.2.2.2 e
  have sub: ∀ b,b∈[z,TO,i1,i2]->b∈[z,TI,TO,i1,i2]:=fun b hb=>by
   simp only [List.mem_cons,List.not_mem_nil,or_false]at hb ⊢
   rcases hb with h | h | h | h
   ·exact .inl h
   ·exact .inr (.inr (.inl h))
   ·exact .inr (.inr (.inr (.inl h)))
   ·exact .inr (.inr (.inr (.inr h)))
  have trk: ∀ b uo,H b=some uo->b∉[z,TO,i1,i2]:=fun b uo e hb=>by rw [(hf b (sub b hb)).1]at e;cases e
  refine I.step (g':=s.gens) (d':=s.drawn) (t':=s.toks) (ch:=[z,TO,i1,i2]) (fun b hb=>?_) (fun b ob _ _ hb e _=>keep b ob hb e) (fun b ob _ _ hb e _=>⟨ob.slots,keep b ob hb e⟩) (fun b ob hb e n=>n)
   (fun b ob hb e=>⟨ob,keep b ob hb e⟩) (fun b zs e=>e) (fun b ob uo e=>e) (fun b ps e=>⟨#[],by rw [e];simp⟩) (fun m hm=>?_) (fun b uo e=>?_) I.bare
  ·obtain ⟨_,f1,_,f3,f4,f5⟩:=hf b (sub b hb)
   exact ⟨f3,f1,f4,f5⟩
  ·obtain ⟨ob,es',ep,ho,r⟩:=hm
   exact ⟨ob,es',ep,keep _ ob (fun hb=>(hf _ (sub _ hb)).2.1 rfl) ho,r⟩
  ·refine (I.hok b uo e).stay (fun c' v' hc' q=>keep c' v' ?_ q) (fun _ q=>q) fun _ _ q=>q
   rcases hc' with h | h
   ·rw [h];exact trk b uo e
   ·exact trk c' _ h
noncomputable def xD (K:PySem.W.Frag) (ta:TA):TI:=fun σ H R=>ta σ H fun vs H1=> ∃ l1 l2 xs ys,vs=[.ref l1,.ref l2]/\SqT K H1 l1 xs/\H1 l2=some (.lst ys)/\R (qZ K l1 l2) H1
theorem oZ {X:Cx} {es:List Expr} {kk:Nat} {tpos:Pos} {a b:Expr} {ta:TA} {p pos:Pos} (hg:Gl X "zip") (hm:X.mg "zip"=none) (ha:PA X [a,b] ta) (hs:starEach [a,b] X.env=[(false,eval a X.env),(false,eval b X.env)]:=by rfl) (hs2:starEach [b] X.env=[(false,eval b X.env)]:=by rfl):
  PI X (.Tuple es kk tpos) (.Call (.Name "zip" p) [a,b] [] pos) (xD X.K ta):=by
 intro pins s σ H R I h
 refine Call_ (eR I hg hm (show bootBuiltins "zip"=some (.type "zip") by decide +kernel) (PyProof.Rows.callWith_type1 (thn (ha pos pins s σ H _ I h) fun us s1 ⟨vs,H1,I1,r1,q1⟩=>?_) (by rw [hs,hs2]) (by rw [hs2];rfl)))
 obtain ⟨l1,l2,xs,ys,rfl,hx,hy,q⟩:=q1
 obtain ⟨u,v,rfl,ru,rv⟩:=iz r1
 cases (show u=Value.ref l1 from ru)
 cases (show v=Value.ref l2 from rv)
 obtain ⟨its1,_,e1,_⟩:=I1.tuple hx
 have e1:HT.SSeq true s1.heap l1 its1.toArray:=e1
 obtain ⟨its2,_,e2,_⟩:=I1.seqS (c:=false) hy
 refine HT.call_zipK e1 e2 fun h' a1 a2 a3 a4 a5 kp=>?_
 have I2:Inv X pins σ H1 {s1 with heap:=h'}:=I1.kept (t':=s1.toks) kp
 refine wpAny_pyIter_zip a1 ?_
 refine ⟨s1.heap.objs.size+4,[s1.heap.objs.size+4,s1.heap.objs.size+2,s1.heap.objs.size+3,s1.heap.objs.size,s1.heap.objs.size+1],_,_,H1,rfl,I2,pU _ _ _ _ _ l1 l2 (by simp),⟨a1,a2,⟨_,_,a3⟩,a4,a5⟩,fun b hb=>?_,q⟩
 have hb':s1.heap.objs.size<=b:=by rcases fp5 hb with rfl | rfl | rfl | rfl | rfl <;> lia
 exact I1.fpOk hb' (I1.hok.fresh hb')
theorem tX {K:PySem.W.Frag} {l1 l2:Addr} {xs ys:List V} {g:TG} {tb:TS} {D:eV} {σ:St} {H:Hp} (hl:xs.length=ys.length) (Pv:Nat->St->Hp->Prop) (h0:Pv 0 σ H)
  (hh: ∀ i σ H,Pv i σ H->SqT K H l1 xs/\H l2=some (.lst ys))
  (hs: ∀ i x y σ H T,xs[i]? =some x->ys[i]? =some y->Pv i σ H->H T=none->g (.ref T) σ (upd H T (.tup [x,y])) fun σ2 H2=>tb {D with nx:=Pv (i+1),ct:=Pv (i+1),bk:=D.nx} σ2 H2) (hd: ∀ σ H,Pv xs.length σ H->D.nx σ H):
  ∃ W:Nat->Nat->St->Hp->Prop,(∃ m,W 0 m σ H)/\ ∀ i m σ H,W i m σ H->
   ((qZ K l1 l2).stop i H/\D.nx σ H)\/((qZ K l1 l2).go i H/\ ∃ N:St->Hp->Prop,(∀ σ' H',N σ' H'-> ∃ m',m'<m/\W (i+1) m' σ' H')/\ ∀ x H',(qZ K l1 l2).yld i H x H'->g x σ H' fun σ2 H2=>tb {D with nx:=N,ct:=N,bk:=D.nx} σ2 H2):=by
 refine ⟨fun i m σ H=>m=xs.length-i/\i<=xs.length/\Pv i σ H,⟨xs.length,by simp,Nat.zero_le _,h0⟩,?_⟩
 rintro i m σ H ⟨rfl,hi,p⟩
 obtain ⟨q1,q2⟩:=hh i σ H p
 by_cases hlt:i<xs.length
 ·refine .inr ⟨⟨xs,ys,xs[i],ys[i],q1,q2,List.getElem?_eq_getElem hlt,List.getElem?_eq_getElem (by lia)⟩,Pv (i+1),fun σ' H' p'=>⟨xs.length- (i+1),by lia,rfl,hlt,p'⟩,?_⟩
  rintro _ _ ⟨T,x,y,fT,rfl,rfl,hxy⟩
  obtain ⟨ex,ey⟩:=hxy xs ys q1 q2
  exact hs i x y σ H T ex ey p fT
 ·have e:i=xs.length:=by lia
  subst e
  exact .inl ⟨⟨xs,ys,q1,q2,rfl,hl.symm⟩,hd σ H p⟩
end L2
namespace My
open PySem L2
theorem jx {ord:List KK} {i:Nat} {k:KK} (hk:ord[i]? =some k) (U:KK->Fm) (j:KK):fB (ord.take (i+1)) U j=if j=k then some (U k)else fB (ord.take i) U j:=by
 unfold fB
 rw [aY hk]
 by_cases c:j=k
 ·subst c
  rw [if_pos (by simp),if_pos rfl]
 ·rw [if_neg c]
  have:(j∈ord.take i++[k])↔j∈ord.take i:=by rw [List.mem_append,List.mem_singleton];exact ⟨fun z=>z.elim id (fun z=>absurd z c),.inl⟩
  by_cases cm:j∈ord.take i
  ·rw [if_pos cm,if_pos (this.mpr cm)]
  ·rw [if_neg cm,if_neg (fun z=>cm (this.mp z))]
noncomputable abbrev NFs:List Str:=["form","order","formulas","made","key","rules"]
theorem scFormS:ay NFs ["form","order"] (ak kH):=fsc
theorem tw (F:Fun K "form_made_straight" "form_made_straight" kH f fd) (G:Gb mg)
  (GB:ar P w K mg base CX0 2 f2 fd2 ["form"] fV) (bB:Binds K fd2 ["form"] []) (kB:PySem.W.keepIn K (.ref f2)=true) (mB:mg "formulas_by_key"=some (.ref f2))
  (GP:ar P w K mg base CX0 5 f3 fd3 ["formula","made"] (rT tbA)) (bP:Binds K fd3 ["formula","made"] []) (kP:PySem.W.keepIn K (.ref f3)=true) (mP:mg "put_otherwise"=some (.ref f3))
  (GR:ar P w K mg base CX0 1 f4 fd4 ["form"] gD) (bR:Binds K fd4 ["form"] []) (kR:PySem.W.keepIn K (.ref f4)=true) (mR:mg "rules_of"=some (.ref f4)):
  ar P w K mg base CX0 6 f fd ["form","order"] (oV tbA):=by
 refine F.ok scFormS (fun vs H Q E h=>?_) (fun cdv A outer s H vs Q E hr h=>?_)
 ·obtain ⟨v,fr,p,ys,ord,U,rfl,_⟩:=h
  rfl
 obtain ⟨v,fr,p,ys,ord,U,rfl,hF,hok,gp,hys,hO,hU,tt,q⟩:=h
 have h12:=hok.few
 have hu:=cW hr
 have hr1:=hr.mono (show 1<=5 by decide)
 have hr2:=hr.mono (show 2<=5 by decide)
 refine ⟨_,ae (am (i:=2) scFormS.nd rfl (Or.inl rfl) (al GB hr2 rfl mB kB bB .nil aq (aa (pv 0) ad)))
  (ae (am (i:=3) scFormS.nd rfl (Or.inr rfl) cx)
  (ae (bd PassesOwn.never rfl (cO (pv 1)) (av (i:=4) scFormS.nd rfl (Or.inl rfl))
   (aj (cC hu (pv 3) (pv 4) (al GP hr rfl mP kP bP .nil aq (aa (bV hu (pv 2) (pv 4) (fun _ _=>rfl)) (aa (pv 3) ad))) rfl)))
  (ae (cT (i:=5) (sc0:=ak kH) (N0:=NFs) (ys:=["made"]) (fr:=[3]) rfl scFormS.nd rfl (Or.inl rfl) (cN (al GR hr1 rfl mR kR bR .nil aq (aa (pv 0) ad))) rfl rfl
    cok
    (fun C s H ex=>ax gf (aS dz (pv 0) ba (aZ ai)) (aK (aa (bV hu (pv 1) (aS dz (pv 0) ba (aZ ai)) (fun _ _=>rfl)) ad))))
  (aj (aB (ax gf (aS dz (pv 0) ba (aZ ai)) (aK (aa (aT aM rfl G.tuple (by decide +kernel) (aa (pv 5) ad)) ad)))))))),?_⟩
 refine ⟨_,rfl,v,fr,rfl,hF,hok,fun fd kv H1 hfd s1 gfd hP=>?_⟩
 have tt1:=tt.same s1
 refine fun md hmd=>?_
 have hmd0:H md=none:=s1.free hmd
 have nfm:fd≠md:=af gfd hmd
 have s2:=ag hmd (.dT [])
 have g2:(upd H1 md (.dT [])) md=some (.dT []):=ab
 have tt2:=tt1.same s2
 generalize upd H1 md (.dT [])=H2 at s2 g2 tt2 ⊢
 have S2:=s1.trans s2
 have nmt:md≠tbA:=tt2.ne g2 fun _ e=>by cases e
 have nft:fd≠tbA:=tt1.ne gfd fun _ e=>by cases e
 have npt:p≠tbA:=tt.ne gp fun _ e=>by cases e
 have lys:ys.length=ord.length:=Paired.length hys
 have lord:=hO.len
 refine ⟨_,rfl,p,rfl,⟨_,SqL.of (S2 _ _ gp)⟩,?_⟩
 refine cY (xs:=ys) (fun i σ H'=>i<=ys.length/\ ∃ o4 kvs,σ=[some v,some (.ref p),some (.ref fd),some (.ref md),o4,none]/\Kp tbA H1 H'/\TabSt tbA H'/\H' md=some (.dT kvs)/\kvs.length<=i/\MdAt H' kvs (fB (ord.take i) U))
  ⟨Nat.zero_le _,none,[],rfl,Kp.refl.same s2,tt2,g2,Nat.le_refl _,fun k=>⟨fun g e=>(by unfold fB at e;rw [List.take_zero,if_neg (by simp)]at e;cases e),fun _=>rfl⟩⟩ (fun i σ H' _ h=>by obtain ⟨_,_,_,_,k',_⟩:=h;exact SqL.of (k' _ _ (s1 _ _ gp) npt)) ?_ ?_
 ·rintro i x σ H3 hx ⟨hi,o4,kvs,rfl,k3,tt3,gm3,hl3,hM3⟩
  have hil:i<ys.length:=(List.getElem?_eq_some_iff.mp hx).1
  obtain ⟨k,hk,b,eb,hb⟩: ∃ k,ord[i]? =some k/\ ∃ b,x=.ref b/\H b=some (.tup (List.map kV k)):=by
   obtain ⟨k,h1,b,h2,h3⟩:=bQ hys hx
   exact ⟨k,h1,b,h2,h3⟩
  subst eb
  have hkk:=hO.sub k (List.mem_of_getElem? hk)
  obtain ⟨r,hrm,rfl,u,hval,hRu⟩:=jJ hok hP hkk
  obtain ⟨hwf,hsz15⟩:=hok.fm r hrm
  have tk3:=tt1.tk k3
  have hb3:=tk3 _ _ (s1 _ _ hb)
  have hsub:r.fm.sub (fB (ord.take i) U)=U (aE r):=oK hok hU (fun o ho=>hO.sub o (List.mem_of_mem_take ho)) hrm (hO.top i _ hk)
  refine ⟨_,rfl,_,rfl,fd,u,rfl,(by rw [<- hval];exact DGet.t (k:=aE r) (k3 _ _ gfd nft) hb3),_,rfl,r.fm,u,md,kvs,fB (ord.take i) U,rfl,hRu.mono tk3,hwf,hsz15,gm3,hM3,tt3,fun u2 H4 k4 tt4 hu2=>?_⟩
  rw [hsub]at hu2
  have tk4:=tt3.tk k4
  have gm4:=k4 _ _ gm3 nmt
  refine ⟨_,rfl,_,rfl,md,_,rfl,DPut.t (k:=aE r) gm4 (tk4 _ _ hb3) (ao (by lia)),?_⟩
  have hlp:=bU kvs (aE r) u2
  have tk5:TK H4 (upd H4 md (.dT (bp kvs (aE r) u2))):=fun b xs h=>by rw [ah (fun z=>by rw [z,gm4]at h;cases h)];exact h
  refine ⟨hil,_,_,rfl,fun b' u' h hn=>?_,tt4.dT gm4,ab,by lia,fun j=>⟨fun g e=>?_,fun e=>?_⟩⟩
  ·rw [ah (af h hmd)];exact k4 _ _ (k3 _ _ h hn) hn
  ·rw [jx hk]at e
   rw [cK]
   by_cases cj:j=aE r
   ·rw [if_pos cj]at e ⊢
    cases e
    exact ⟨u2,rfl,hu2.mono tk5⟩
   ·rw [if_neg cj]at e ⊢
    obtain ⟨u',h1,h2⟩:=(hM3 j).1 g e
    exact ⟨u',h1,(h2.mono tk4).mono tk5⟩
  ·rw [jx hk]at e
   rw [cK]
   by_cases cj:j=aE r
   ·rw [if_pos cj]at e;cases e
   ·rw [if_neg cj]at e ⊢
    exact (hM3 j).2 e
 ·rintro σ H3 ⟨_,o4,kvs,rfl,k3,tt3,gm3,hl3,hM3⟩
  rw [List.take_of_length_le (by lia)]at hM3
  have tk3:=tt1.tk k3
  have hF3:=(hF.mono (au s1)).mono tk3
  refine ⟨_,rfl,v,fr,rfl,hF3,fun ra rv hra hRr=>⟨ra,rfl,⟨rv,SqT.of hra⟩,?_⟩⟩
  have lR:=hRr.len
  refine gy (by lia) hRr (io hra) (im hra) (lp hra) (fun H r v=>RepR H (unR U r) v) (fun t h=>h.mono t) ?_ ?_
  ·rintro r x H4 k hrm ⟨a,u,rfl,ha,hRu⟩ s4 hk
   have ha4:=s4 _ _ ha
   refine ⟨_,rfl,2,rfl,a,_,rfl,ha4,fun p5 H5 s5 g5=>?_⟩
   have g5:H5 p5=some (.tup [.int r.pl,.str r.word]):=g5
   refine ⟨_,rfl,_,rfl,2,rfl,a,_,rfl,s5 _ _ ha4,fun p6 H6 s6 g6=>?_⟩
   have g6:H6 p6=some (.tup (List.map kV (aE r))):=g6
   obtain ⟨u',hv,hR'⟩:=(hM3 (aE r)).1 (U (aE r)) (by unfold fB;rw [if_pos (hO.all r hrm)])
   have S36:Same H3 H6:=fun b u h=>s6 _ _ (s5 _ _ (s4 _ _ h))
   refine ⟨md,u',rfl,(by rw [<- hv];exact DGet.t (k:=aE r) (S36 _ _ gm3) g6),(by show 1<=sizeLine;decide),fun p7 hp7=>?_⟩
   have s7:=ag hp7 (.tup [u'])
   have g7:(upd H6 p7 (.tup [u'])) p7=some (.tup [u']):=ab
   generalize upd H6 p7 (.tup [u'])=H7 at s7 g7 ⊢
   refine ⟨p5,p7,_,_,rfl,rfl,s7 _ _ (s6 _ _ g5),g7,(by show 2+1<=sizeLine;decide),fun p8 H8 s8 g8=>?_⟩
   have S48:Same H4 H8:=fun b u h=>s8 _ _ (s7 _ _ (s6 _ _ (s5 _ _ h)))
   exact hk _ H8 S48 ⟨p8,u',rfl,g8,hR'.mono (au (s4.trans S48))⟩
  intro rl zs H4 hrl s4 grl hzs
  obtain ⟨a,pa,ra',rv',rfl,ha,hpa,hra',hRr'⟩:=id hF3
  refine ⟨_,rfl,3,rfl,a,_,rfl,s4 _ _ ha,fun p5 H5 s5 g5=>?_⟩
  have g5:H5 p5=some (.tup [.str fr.name,.str fr.own.name,.ref pa]):=g5
  refine ⟨_,rfl,rl,_,rfl,.inl ⟨SqL.of (s5 _ _ grl),fun p6 hp6=>?_⟩⟩
  have s6:=ag hp6 (.tup zs)
  have g6:(upd H5 p6 (.tup zs)) p6=some (.tup zs):=ab
  generalize upd H5 p6 (.tup zs)=H6 at s6 g6 ⊢
  refine ⟨(by show 1<=sizeLine;decide),fun p7 hp7=>?_⟩
  have s7:=ag hp7 (.tup [.ref p6])
  have g7:(upd H6 p7 (.tup [.ref p6])) p7=some (.tup [.ref p6]):=ab
  generalize upd H6 p7 (.tup [.ref p6])=H7 at s7 g7 ⊢
  refine ⟨p5,p7,_,_,rfl,rfl,s7 _ _ (s6 _ _ g5),g7,(by show 3+1<=sizeLine;decide),fun p8 H8 s8 g8=>?_⟩
  have S48:Same H4 H8:=fun b u h=>s8 _ _ (s7 _ _ (s6 _ _ (s5 _ _ h)))
  have S38:=s4.trans S48
  refine q _ H8 (((Kp.refl.same s1).trans k3).same S38) (tt3.same S38) ⟨p8,pa,p6,zs,rfl,g8,S38 _ _ hpa,s8 _ _ (s7 _ _ g6),?_⟩
  exact cg (g:=unR U) (Paired.mapP hzs fun _ _ h=>RepR.mono (au S48) h)
theorem uc {J:It} {α:Type} {as:List α} {A:α->V->Prop} {xs:List V} {fr:List Nat} {te:TE} {σ:St} {H1:Hp} {Q:VK} (hn:xs.length<=1000) (hP:Paired A as xs)
  (hgo: ∀ i H,Same H1 H->i<xs.length->J.go i H) (hst: ∀ H,Same H1 H->J.stop xs.length H) (hy: ∀ i H v H',Same H1 H->J.yld i H v H'->H'=H/\xs[i]? =some v)
  (R:Hp->α->Addr->Prop) (mono: ∀ {H H':Hp} {a:α} {q:Addr},TK H H'->(∀ o,H q=some o->H' q=some o)->R H a q->R H' a q)
  (hte: ∀ a v H (k:VK),a∈as->A a v->Same H1 H->(∀ q H',H q=none->Same H H'->R H' a q->k (.ref q) H')->te (some v::bJ fr σ) H k)
  (hd: ∀ p zs H',H1 p=none->Same H1 H'->H' p=some (.lst zs)->Paired (fun a z=> ∃ q,z=.ref q/\R H' a q) as zs->Q (.ref p) H'):fC fr te σ J H1 Q:=by
 intro p hp
 have hl:as.length=xs.length:=Paired.length hP
 refine ⟨fun i m zs H=>i<=xs.length/\m=xs.length-i/\Same H1 H/\H p=some (.lst zs)/\zs.length=i/\Paired (fun a z=> ∃ q,z=V.ref q/\q≠p/\R H a q) (as.take i) zs,⟨_,Nat.zero_le _,rfl,ag hp _,ab,rfl,.nil⟩,?_⟩
 rintro i m zs H ⟨hi,hm,sm,gp,hz,hT⟩
 refine ⟨gp,?_⟩
 by_cases e:i=xs.length
 ·subst e
  rw [<- hl,List.take_length]at hT
  exact .inl ⟨hst H sm,hd p zs H hp sm gp (Paired.mapP hT fun _ _ ⟨q,e,_,h⟩=>⟨q,e,h⟩)⟩
 ·have hlt:i<xs.length:=by lia
  refine .inr ⟨hgo i H sm hlt,ao (by lia),fun v H' hv=>?_⟩
  obtain ⟨rfl,hv2⟩:=hy i H v H' sm hv
  obtain ⟨a,ha,hA⟩:=aH hP hv2
  refine hte a v _ _ (List.mem_of_getElem? ha) hA sm fun q H2 hq s2 r=>?_
  have gp2:=s2 _ _ gp
  have nqp:q≠p:=fun z=>by rw [z,gp]at hq;cases hq
  have tk:TK H2 (upd H2 p (.lst (zs++[.ref q]))):=TK.lst gp2
  refine ⟨gp2,xs.length- (i+1),by lia,by lia,rfl,?_,ab,by rw [List.length_append,hz];rfl,?_⟩
  ·intro b o hb
   rw [ah (af hb hp)]
   exact s2 _ _ (sm _ _ hb)
  ·rw [List.take_add_one,ha]
   refine Paired.snoc (Paired.mapP hT fun _ _ ⟨q',e,n,r⟩=>⟨q',e,n,mono ((au s2).trans tk) (fun o h=>?_) r⟩) ⟨q,rfl,nqp,mono tk (fun o h=>by rw [ah nqp];exact h) r⟩
   rw [ah n];exact s2 _ _ h
theorem oC {K:PySem.W.Frag} {l1 l2 tp:Addr} {α:Type} {as:List α} {A B:α->V->Prop} {xs ys:List V} {fr:List Nat} {te:TE} {σ:St} {H1:Hp} {Q:VK} (hn:xs.length<=1000) (tt:TabSt tp H1) (hA:Paired A as xs) (hB:Paired B as ys)
  (h1:H1 l1=some (.tup xs)) (h2:H1 l2=some (.lst ys))
  (R:Hp->α->V->Prop) (mono: ∀ {H H':Hp} {a:α} {v:V},TK H H'->R H a v->R H' a v)
  (hte: ∀ a v u H (k:VK),a∈as->A a v->B a u->Kp tp H1 H->TabSt tp H->(∀ z H',Kp tp H H'->TabSt tp H'->R H' a z->k z H')->te (some v::some u::bJ fr σ) H k)
  (hd: ∀ p zs H',H1 p=none->Kp tp H1 H'->TabSt tp H'->H' p=some (.lst zs)->Paired (R H') as zs->Q (.ref p) H'):oM fr te σ (qZ K l1 l2) H1 Q:=by
 intro p hp
 have hl:as.length=xs.length:=Paired.length hA
 have hl2:as.length=ys.length:=Paired.length hB
 have npt:=tt.fr hp
 have n2t:l2≠tp:=tt.ne h2 fun _ e=>by cases e
 refine ⟨fun i m zs H=>i<=xs.length/\m=xs.length-i/\Kp tp H1 H/\TabSt tp H/\H p=some (.lst zs)/\zs.length=i/\Paired (R H) (as.take i) zs,⟨_,Nat.zero_le _,rfl,Kp.refl.new hp,tt.same (ag hp _),ab,rfl,.nil⟩,?_⟩
 rintro i m zs H ⟨hi,hm,km,th,gp,hz,hT⟩
 refine ⟨gp,?_⟩
 have q1:SqT K H l1 xs:=SqT.of (tt.tk km _ _ h1)
 have q2:H l2=some (.lst ys):=km _ _ h2 n2t
 by_cases e:i=xs.length
 ·subst e
  rw [<- hl,List.take_length]at hT
  exact .inl ⟨⟨xs,ys,q1,q2,rfl,by lia⟩,hd p zs H hp km th gp hT⟩
 ·have hlt:i<xs.length:=by lia
  refine .inr ⟨⟨xs,ys,xs[i],ys[i],q1,q2,List.getElem?_eq_getElem hlt,List.getElem?_eq_getElem (by lia)⟩,ao (by lia),?_⟩
  rintro _ _ ⟨T,x,y,fT,rfl,rfl,hxy⟩
  obtain ⟨ex,ey⟩:=hxy xs ys q1 q2
  obtain ⟨a,ha,hAa⟩:=aH hA ex
  obtain ⟨a',ha',hBa⟩:=aH hB ey
  rw [ha]at ha'
  cases ha'
  have sT:=ag fT (.tup [x,y])
  refine ⟨T,x,y,rfl,ab,hte a x y _ _ (List.mem_of_getElem? ha) hAa hBa (km.same sT) (th.same sT) fun u H2 k2 t2 r=>?_⟩
  have gp2:=k2 _ _ (sT _ _ gp) npt
  have tk:TK H2 (upd H2 p (.lst (zs++[u]))):=TK.lst gp2
  have tkH:TK H H2:=(au sT).trans ((th.same sT).tk k2)
  refine ⟨gp2,xs.length- (i+1),by lia,by lia,rfl,?_,t2.lst gp2,ab,by rw [List.length_append,hz];rfl,?_⟩
  ·intro b o hb hn
   rw [ah (af hb hp)]
   exact k2 _ _ (sT _ _ (km _ _ hb hn)) hn
  ·rw [List.take_add_one,ha]
   exact Paired.snoc (Paired.mapP hT fun _ _ r=>mono (tkH.trans tk) r) (mono tk r)
noncomputable def OrdL (H:Hp) (fr:Frm) (q:Addr):Prop:= ∃ ys ord,H q=some (.lst ys)/\KsOf H ys ord/\pR fr.rules ord
theorem gL {H H':Hp} {ys:List V} {ord:List KK} (t:TK H H') (h:KsOf H ys ord):KsOf H' ys ord:=Paired.mapP h fun _ _ ⟨b,e,hb⟩=>⟨b,e,t _ _ hb⟩
theorem OrdL.mono {H H':Hp} {fr:Frm} {q:Addr} (t:TK H H') (k: ∀ o,H q=some o->H' q=some o):OrdL H fr q->OrdL H' fr q:=fun ⟨ys,ord,h1,h2,h3⟩=>⟨ys,ord,k _ h1,gL t h2,h3⟩
structure fz (fr:Frm) (U:KK->Fm):Prop where
 rs:RsOk fr.rules
 ac:Acy fr.rules
 un:UOk fr.rules U
noncomputable def rP (UF:Frm->KK->Fm) (bk:Bk):Bk:=⟨bk.wheel,bk.sorts,bk.forms.map fun fr=>unF (UF fr) fr⟩
noncomputable def jz:Sp:=fun vs H Q _=> ∃ bv bk,vs=[bv]/\RepB H bk bv/\Q (.int bk.wheel) H
noncomputable def oS (tbA:Addr):Sp:=fun vs H Q _=> ∃ (bv:V) (bk:Bk) (UF:Frm->KK->Fm),vs=[bv]/\RepB H bk bv/\bk.forms.length<=12/\(∀ fr∈bk.forms,fz fr (UF fr))/\TabSt tbA H/\ ∀ u H',Kp tbA H H'->TabSt tbA H'->RepB H' (rP UF bk) u->Q u H'
theorem qa:ay ["book"] ["book"] (ak iJ):=fsc
theorem nV (F:Fun K "wheel_of" "wheel_of" iJ f fd):ar P w K mg base CX0 1 f fd ["book"] jz:=by
 refine F.ok qa (fun vs H Q E h=>?_) (fun cdv A outer s H vs Q E hr h=>?_)
 ·obtain ⟨bv,bk,rfl,_⟩:=h
  rfl
 obtain ⟨bv,bk,rfl,⟨a,sa,fa,fv,rfl,ha,_⟩,q⟩:=h
 refine ⟨_,aj (aB (aF aW (pv 0) ai (fun _ _=>rfl))),?_⟩
 exact ⟨_,rfl,a,_,0,_,rfl,rfl,SqT.of ha,cz,q⟩
noncomputable abbrev NMs:List Str:=["book","orders","form","order","forms"]
theorem scMadeS:ay NMs ["book"] (ak iP):=fsc
theorem sX (F:Fun K "made_straight" "made_straight" iP f fd) (G:Gb mg) (hzip:mg "zip"=none)
  (GF:ar P w K mg base CX0 1 f2 fd2 ["book"] jC) (bF:Binds K fd2 ["book"] []) (kF:PySem.W.keepIn K (.ref f2)=true) (mF:mg "forms_of"=some (.ref f2))
  (GO:ar P w K mg base CX0 5 f3 fd3 ["form"] lT) (bO:Binds K fd3 ["form"] []) (kO:PySem.W.keepIn K (.ref f3)=true) (mO:mg "order_of_keys"=some (.ref f3))
  (GN:ar P w K mg base CX0 3 f4 fd4 ["form","order"] rV) (bN:Binds K fd4 ["form","order"] []) (kN:PySem.W.keepIn K (.ref f4)=true) (mN:mg "need_few_tuples"=some (.ref f4))
  (GS:ar P w K mg base CX0 6 f5 fd5 ["form","order"] (oV tbA)) (bS:Binds K fd5 ["form","order"] []) (kS:PySem.W.keepIn K (.ref f5)=true) (mS:mg "form_made_straight"=some (.ref f5))
  (GW:ar P w K mg base CX0 1 f6 fd6 ["book"] jz) (bW:Binds K fd6 ["book"] []) (kW:PySem.W.keepIn K (.ref f6)=true) (mW:mg "wheel_of"=some (.ref f6))
  (GT:ar P w K mg base CX0 1 f7 fd7 ["book"] jA) (bT:Binds K fd7 ["book"] []) (kT:PySem.W.keepIn K (.ref f7)=true) (mT:mg "sorts_of"=some (.ref f7)):
  ar P w K mg base CX0 7 f fd ["book"] (oS tbA):=by
 refine F.ok scMadeS (fun vs H Q E h=>?_) (fun cdv A outer s H vs Q E hr h=>?_)
 ·obtain ⟨bv,bk,UF,rfl,_⟩:=h
  rfl
 obtain ⟨bv,bk,UF,rfl,hB,h12,hok,tt,q⟩:=h
 have hu:=cW hr
 have hr1:=hr.mono (show 1<=6 by decide)
 have hr3:=hr.mono (show 3<=6 by decide)
 have hr5:=hr.mono (show 5<=6 by decide)
 refine ⟨_,ae (cT (i:=1) (sc0:=ak iP) (N0:=NMs) (ys:=[]) (fr:=[]) rfl scMadeS.nd rfl (Or.inl rfl) (cN (al GF hr1 rfl mF kF bF .nil aq (aa (pv 0) ad))) rfl rfl
    cok
    (fun C s H ex=>al GO hr5 rfl mO kO bO .nil aq (aa (pv 0) ad)))
  (ae (bd PassesOwn.never rfl (oZ rfl hzip (aa (al GF hr1 rfl mF kF bF .nil aq (aa (pv 0) ad)) (aa (pv 1) ad))) (cP rfl (aG (av (i:=2) scMadeS.nd rfl (Or.inl rfl)) (aG (av (i:=3) scMadeS.nd rfl (Or.inl rfl)) ce)))
   (aj (bH (al GN hr3 rfl mN kN bN .nil aq (aa (pv 2) (aa (pv 3) ad))))))
  (ae (sE (i:=4) (sc0:=ak iP) (N0:=NMs) (ys:=[]) (fr:=[]) rfl scMadeS.nd rfl (Or.inl rfl) (oZ rfl hzip (aa (al GF hr1 rfl mF kF bF .nil aq (aa (pv 0) ad)) (aa (pv 1) ad))) rfl rfl
    ⟨rfl,by decide +kernel,by decide +kernel,by decide +kernel,by decide +kernel,by decide +kernel,by decide +kernel,rfl,by decide +kernel⟩
    (fun C s H ex=>al GS hr rfl mS kS bS .nil aq (aa (pv 0) (aa (pv 1) ad))))
  (aj (aB (aK (aa (al GW hr1 rfl mW kW bW .nil aq (aa (pv 0) ad)) (aa (al GT hr1 rfl mT kT bT .nil aq (aa (pv 0) ad)) (aa (aT aM rfl G.tuple (by decide +kernel) (aa (pv 4) ad)) ad)))))))),?_⟩
 refine ⟨_,rfl,bv,bk,rfl,hB,fun fa fv hfa hF=>⟨fa,rfl,⟨fv,SqT.of hfa⟩,?_⟩⟩
 have lF:=hF.len
 refine uc (by lia) hF (io hfa) (im hfa) (lp hfa) OrdL (fun t k h=>h.mono t k) ?_ ?_
 ·intro fr v H2 k hfr hR s2 hk
  have ho:=hok fr hfr
  exact ⟨_,rfl,v,fr,rfl,hR.mono (au s2),ho.rs,ho.ac,fun p ys ord H3 hp s3 gp hys hO=>hk p H3 hp s3 ⟨ys,ord,gp,hys,hO⟩⟩
 intro p zs H1 hp s1 gp hzs
 have lz:bk.forms.length=zs.length:=Paired.length hzs
 have hB1:=hB.mono (au s1)
 have tt1:=tt.same s1
 refine ⟨_,rfl,bv,bk,rfl,hB1,fun fa2 fv2 hfa2 hF2=>?_⟩
 have lF2:=hF2.len
 refine ⟨_,rfl,fa2,p,fv2,zs,rfl,SqT.of hfa2,gp,?_⟩
 refine tX (xs:=fv2) (ys:=zs) (by lia) (fun i σ H'=> ∃ o2 o3,σ=[some bv,some (.ref p),o2,o3,none]/\Same H1 H') ⟨none,none,rfl,Same.refl _⟩ (fun i σ H' h=>by obtain ⟨_,_,_,s'⟩:=h;exact ⟨SqT.of (s' _ _ hfa2),s' _ _ gp⟩) ?_ ?_
 ·rintro i x y σ H2 T ex ey ⟨o2,o3,rfl,s2⟩ hT
  have sT:=ag hT (.tup [x,y])
  have gT:(upd H2 T (.tup [x,y])) T=some (.tup [x,y]):=ab
  generalize upd H2 T (.tup [x,y])=H3 at sT gT ⊢
  obtain ⟨fr,hfr,hRx⟩:=aH hF2 ex
  obtain ⟨fr',hfr',a,rfl,ys,ord,ga,hys,hO⟩:=aH hzs ey
  rw [hfr]at hfr'
  cases hfr'
  have S3:=s2.trans sT
  have ho:=hok fr (List.mem_of_getElem? hfr)
  refine ⟨T,_,rfl,SqT.of gT,rfl,_,_,rfl,_,_,rfl,rfl,?_⟩
  exact ⟨_,rfl,_,rfl,x,fr,a,ys,ord,UF fr,rfl,hRx.mono (au S3),ho.rs,S3 _ _ ga,gL (au S3) hys,hO,ho.un,fun H4 s4=>⟨_,_,rfl,S3.trans s4⟩⟩
 ·rintro σ H2 ⟨o2,o3,rfl,s2⟩
  have hB2:=hB1.mono (au s2)
  have tt2:=tt1.same s2
  refine ⟨_,rfl,bv,bk,rfl,hB2,fun fa3 fv3 hfa3 hF3=>?_⟩
  have lF3:=hF3.len
  have gp2:=s2 _ _ gp
  refine ⟨_,rfl,fa3,p,fv3,zs,rfl,SqT.of hfa3,gp2,?_⟩
  have hzs2:=Paired.mapP hzs fun fr z ⟨q,e,h⟩=>(⟨q,e,OrdL.mono (au s2) (fun o h=>s2 _ _ h) h⟩: ∃ q,z=V.ref q/\OrdL H2 fr q)
  refine oC (by lia) tt2 hF3 hzs2 hfa3 gp2 (fun H fr v=>RepF H (unF (UF fr) fr) v) (fun t h=>h.mono t) ?_ ?_
  ·rintro fr v _ H3 k hfr hR ⟨a,rfl,ys,ord,ga,hys,hO⟩ k3 tt3 hk
   have ho:=hok fr hfr
   have tk3:=tt2.tk k3
   exact ⟨_,rfl,_,rfl,v,fr,a,ys,ord,UF fr,rfl,hR.mono tk3,ho.rs,k3 _ _ ga (tt2.ne ga fun _ e=>by cases e),gL tk3 hys,hO,ho.un,tt3,hk⟩
  intro pf zf H3 hpf k3 tt3 gpf hzf
  have tk3:=tt2.tk k3
  have hB3:=hB2.mono tk3
  refine ⟨_,rfl,bv,bk,rfl,hB3,_,rfl,bv,bk,rfl,hB3,fun sa sv hsa hS=>?_⟩
  have lzf:bk.forms.length=zf.length:=Paired.length hzf
  refine ⟨_,rfl,pf,_,rfl,.inl ⟨SqL.of gpf,fun p6 hp6=>?_⟩⟩
  have s6:=ag hp6 (.tup zf)
  have g6:(upd H3 p6 (.tup zf)) p6=some (.tup zf):=ab
  generalize upd H3 p6 (.tup zf)=H6 at s6 g6 ⊢
  refine ⟨(by show 3<=sizeLine;decide),fun p7 hp7=>?_⟩
  have s7:=ag hp7 (.tup [.int bk.wheel,.ref sa,.ref p6])
  have g7:(upd H6 p7 (.tup [.int bk.wheel,.ref sa,.ref p6])) p7=some (.tup [.int bk.wheel,.ref sa,.ref p6]):=ab
  generalize upd H6 p7 (.tup [.int bk.wheel,.ref sa,.ref p6])=H7 at s7 g7 ⊢
  have S37:=s6.trans s7
  refine q _ H7 ((((Kp.refl.same s1).same s2).trans k3).same S37) (tt3.same S37) ⟨p7,sa,p6,zf,rfl,g7,⟨sv,S37 _ _ hsa,hS.mono (au S37)⟩,s7 _ _ g6,?_⟩
  exact cg (g:=fun fr=>unF (UF fr) fr) (Paired.mapP hzf fun _ _ h=>RepF.mono (au S37) h)
noncomputable def lk (i:Int) (x:Str):KK:=if i<0 then [.inr "own",.inr x]else [.inr "part",.inl i,.inr x]
noncomputable def aP (r:Rul):KK:=lk r.pl r.word
noncomputable def eL:Sp:=fun vs H Q _=> ∃ (i:Int) (x:Str),vs=[.int i,.str x]/\ ∀ p,H p=none->Q (.ref p) (upd H p (.tup ((lk i x).map kV)))
noncomputable def KvL (H:Hp) (r:Rul) (kv:KK×V):Prop:=kv.1=aP r/\Rep H r.fm kv.2
theorem KvL.mono {H H':Hp} (t:TK H H') {r:Rul} {kv:KK×V} (h:KvL H r kv):KvL H' r kv:=⟨h.1,h.2.mono t⟩
theorem gk {H:Hp}: ∀ {rs:List Rul} {kvs:List (KK×V)},Paired (KvL H) rs kvs->kvs.map (·.1)=rs.map aP
 | _,_,.nil=>rfl
 | r::rs,kv::kvs,.cons h t=>by
  show kv.1::kvs.map (·.1)=aP r::rs.map aP
  rw [h.1,gk t]
theorem xR (x:V) (r:List V):cZ (x::r) none (some 1)=[x]:=by
 have e1:HT.sIx (x::r).length (x::r).length (some 1)=1:=by
  have:HT.sIx (x::r).length (x::r).length (some 1)=min 1 (x::r).length:=HT.sIx_nat _ _ 1
  rw [this,List.length_cons]
  lia
 unfold cZ
 rw [e1,HT.sIx_none]
 rfl
noncomputable def RsL (rs:List Rul):Prop:= ∀ r∈rs,r.pl= -1\/0<=r.pl
theorem wz {i:Int} {x:Str} (h:i= -1\/0<=i):l2p (lk i x)=pk i x:=by
 unfold lk
 rcases h with rfl | h
 ·rw [if_pos (by decide)];rfl
 ·rw [if_neg (by lia)];rfl
theorem xA (i:Int) (x:Str):tP (lk i x):=by
 unfold lk
 by_cases c:i<0
 ·rw [if_pos c];exact .inl ⟨x,rfl⟩
 ·rw [if_neg c];exact .inr ⟨i,x,rfl,by lia⟩
theorem eS {rs:List Rul} (h:RsL rs) {r:Rul} (hr:r∈rs):l2p (aP r)=aE r:=wz (h r hr)
theorem pj {rs:List Rul} (ok:RsOk rs) (h:RsL rs):(rs.map aP).Nodup:=by
 have e:(rs.map aP).map l2p=rs.map aE:=by
  rw [List.map_map]
  exact List.map_congr_left fun r hr=>eS h hr
 have nd:=ok.nd
 rw [<- e]at nd
 exact List.Pairwise.of_map l2p (fun a b n z=>n (by rw [z])) nd
noncomputable def lQ:Sp:=fun vs H Q _=> ∃ v fr,vs=[v]/\RepF H fr v/\RsOk fr.rules/\RsL fr.rules/\ ∀ d kvs H',H d=none->Same H H'->H' d=some (.dT kvs)->Paired (KvL H') fr.rules kvs->Q (.ref d) H'
noncomputable def lfk:Fm->KK
 | .num n=>[.inr "num",.inl n]
 | .own x=>[.inr "own",.inr x]
 | .part k x=>[.inr "part",.inl k,.inr x]
 | _=>[]
noncomputable def dL:Fm->Prop
 | .bin _ _ _=>False
 | .whn _ _ _=>False
 | _=>True
theorem lX {H:Hp} {g:Fm} {v:V} (l:dL g) (h:Rep H g v): ∃ a,v=.ref a/\H a=some (.tup ((lfk g).map kV)):=by
 cases g with
 | num n=>exact h
 | own x=>exact h
 | part k x=>exact h
 | bin op a b=>exact l.elim
 | whn a b c=>exact l.elim
theorem ff {g:Fm} (w:g.wf):decide (dQ g∈(["num","own","part"]:List Str))=true↔dL g:=by
 cases g with
 | num n=>exact ⟨fun _=>trivial,fun _=>decide_eq_true (by show ("num":Str)∈_;decide +kernel)⟩
 | own x=>exact ⟨fun _=>trivial,fun _=>decide_eq_true (by show ("own":Str)∈_;decide +kernel)⟩
 | part k x=>exact ⟨fun _=>trivial,fun _=>decide_eq_true (by show ("part":Str)∈_;decide +kernel)⟩
 | bin op a b=>
  refine ⟨fun z=>?_,fun z=>z.elim⟩
  have z:op∈(["num","own","part"]:List Str):=of_decide_eq_true z
  have ho:op∈ops:=w.1
  simp only [List.mem_cons,List.not_mem_nil,or_false]at z
  rcases z with z | z | z <;> (rw [z]at ho;exact absurd ho (by decide +kernel))
 | whn a b c=>exact ⟨fun z=>absurd (of_decide_eq_true z) (by show ("when":Str)∉_;decide +kernel),fun z=>z.elim⟩
theorem jG {H:Hp} {g:Fm} {v:V} (l: ¬ dL g) (w:g.wf) (h:Rep H g v): ∃ a us,v=.ref a/\H a=some (.tup (.str (dQ g)::us))/\us.length<=3/\Paired (fun k u=>Rep H k u/\k.wf/\k.size<g.size) (dM g) us:=by
 cases g with
 | num n=>exact (l trivial).elim
 | own x=>exact (l trivial).elim
 | part k x=>exact (l trivial).elim
 | bin op A B=>
  obtain ⟨a,u,v,rfl,ha,r1,r2⟩:=h
  exact ⟨a,[u,v],rfl,ha,(by show 2<=3;decide),.cons ⟨r1,w.2.1,(by show _<A.size+B.size+1;lia)⟩ (.cons ⟨r2,w.2.2,(by show _<A.size+B.size+1;lia)⟩ .nil)⟩
 | whn A B C=>
  obtain ⟨a,u,v,x,rfl,ha,r1,r2,r3⟩:=h
  exact ⟨a,[u,v,x],rfl,ha,(by show 3<=3;decide),.cons ⟨r1,w.1,(by show _<A.size+B.size+C.size+1;lia)⟩ (.cons ⟨r2,w.2.1,(by show _<A.size+B.size+C.size+1;lia)⟩ (.cons ⟨r3,w.2.2,(by show _<A.size+B.size+C.size+1;lia)⟩ .nil))⟩
theorem uI {H:Hp} {M:KK->Option Fm} {g:Fm} {p:Addr} {us:List V} (l: ¬ dL g) (h:H p=some (.tup (.str (dQ g)::us))) (hp:Paired (fun k u=>Rep H (k.sub M) u) (dM g) us):Rep H (g.sub M) (.ref p):=by
 cases g with
 | num n=>exact (l trivial).elim
 | own x=>exact (l trivial).elim
 | part k x=>exact (l trivial).elim
 | bin op A B=>
  cases hp with
  | cons r1 t=>cases t with
   | cons r2 t=>cases t;exact ⟨p,_,_,rfl,h,r1,r2⟩
 | whn A B C=>
  cases hp with
  | cons r1 t=>cases t with
   | cons r2 t=>cases t with
    | cons r3 t=>cases t;exact ⟨p,_,_,_,rfl,h,r1,r2,r3⟩
theorem rM {Z:KK->Option Nat} {g:Fm} (l: ¬ dL g):((g.szw Z:Nat):Int)=1+lO ((dM g).map fun k=>((k.szw Z:Nat):Int)):=by
 cases g with
 | num n=>exact (l trivial).elim
 | own x=>exact (l trivial).elim
 | part k x=>exact (l trivial).elim
 | bin op A B=>
  show ((A.szw Z+B.szw Z+1:Nat):Int)=1+ ((A.szw Z:Int) + ((B.szw Z:Int) +0))
  lia
 | whn A B C=>
  show ((A.szw Z+B.szw Z+C.szw Z+1:Nat):Int)=1+ ((A.szw Z:Int) + ((B.szw Z:Int) + ((C.szw Z:Int) +0)))
  lia
theorem rL {Z:KK->Option Nat} {g:Fm} (l:dL g):g.szw Z=((kyP g).bind Z).getD 1:=by
 cases g with
 | num n=>rfl
 | own x=>rfl
 | part k x=>rfl
 | bin op a b=>exact l.elim
 | whn a b c=>exact l.elim
theorem rN {M:KK->Option Fm} {g:Fm} (l:dL g):g.sub M=((kyP g).bind M).getD g:=by
 cases g with
 | num n=>rfl
 | own x=>rfl
 | part k x=>rfl
 | bin op a b=>exact l.elim
 | whn a b c=>exact l.elim
noncomputable def lfW:Fm->Prop
 | .part k _=>0<=k
 | _=>True
theorem nh {g:Fm} (w:g.wf):lfW g:=by
 cases g with
 | part k x=>exact w.1.1
 | _=>trivial
noncomputable def DZ (kvs:List (KK×V)) (Z:KK->Option Nat):Prop:= ∀ g,dL g->lfW g->aU kvs (lfk g)=((kyP g).bind Z).map fun n=>V.int ((n:Nat):Int)
noncomputable def DM (H:Hp) (kvs:List (KK×V)) (M:KK->Option Fm):Prop:= ∀ g,dL g->lfW g->(∀ h,(kyP g).bind M=some h-> ∃ u,aU kvs (lfk g)=some u/\Rep H h u)/\((kyP g).bind M=none->aU kvs (lfk g)=none)
theorem DM.mono {H H':Hp} (t:TK H H') {kvs:List (KK×V)} {M:KK->Option Fm} (h:DM H kvs M):DM H' kvs M:=fun g l w=>⟨fun x e=>by
 obtain ⟨u,h1,h2⟩:=(h g l w).1 x e
 exact ⟨u,h1,h2.mono t⟩,(h g l w).2⟩
noncomputable def eY (n:Nat):Sp:=fun vs H Q _=> ∃ v d g kvs Z,vs=[v,.ref d]/\Rep H g v/\Fm.wf g/\g.size<=n/\H d=some (.dT kvs)/\DZ kvs Z/\ ∀ H',Same H H'->Q (.int ((g.szw Z:Nat):Int)) H'
noncomputable def eZ (n:Nat):Sp:=fun vs H Q _=> ∃ v d g kvs M,vs=[v,.ref d]/\Rep H g v/\Fm.wf g/\g.size<=n/\H d=some (.dT kvs)/\DM H kvs M/\ ∀ u H',Same H H'->Rep H' (g.sub M) u->Q u H'
theorem se:ay ["at","word"] ["at","word"] (ak kr):=fsc
theorem qt (F:Fun K "_law_target" "_law_target" kr f fd):ar P w K mg base CX0 1 f fd ["at","word"] eL:=by
 refine F.ok se (fun vs H Q E h=>?_) (fun cdv A outer s H vs Q E hr h=>?_)
 ·obtain ⟨i,x,rfl,_⟩:=h
  rfl
 obtain ⟨i,x,rfl,q⟩:=h
 refine ⟨_,ae (bh (aC ft (pv 0) ai (aJ _)) (aj (aB (aK (aa aL (aa (pv 1) ad))))) aN)
  (aj (aB (aK (aa aL (aa (pv 0) (aa (pv 1) ad)))))),?_⟩
 refine ⟨_,rfl,i,0,rfl,rfl,_,rfl,?_⟩
 unfold lk at q
 by_cases c:i<0
 ·rw [decide_eq_true c]
  rw [if_pos c]at q
  exact cH ⟨_,rfl,(by show 2<=sizeLine;decide),fun p hp=>q p hp⟩
 ·rw [decide_eq_false c]
  rw [if_neg c]at q
  exact bu ⟨_,rfl,_,rfl,(by show 3<=sizeLine;decide),fun p hp=>q p hp⟩
noncomputable abbrev NTi:List Str:=["form","told","at","word","formula"]
theorem scToldIn:ay NTi ["form"] (ak kq):=fsc
theorem qr (F:Fun K "_law_told_in" "_law_told_in" kq f fd)
  (GT:ar P w K mg base CX0 1 f2 fd2 ["at","word"] eL) (bT:Binds K fd2 ["at","word"] []) (kT:PySem.W.keepIn K (.ref f2)=true) (mT:mg "_law_target"=some (.ref f2)):ar P w K mg base CX0 2 f fd ["form"] lQ:=by
 refine F.ok scToldIn (fun vs H Q E h=>?_) (fun cdv A outer s H vs Q E hr h=>?_)
 ·obtain ⟨v,fr,rfl,_⟩:=h
  rfl
 obtain ⟨v,fr,rfl,hF,hok,hL,q⟩:=h
 have h12:=hok.few
 have hu:=cW hr
 have hnd:=pj hok hL
 refine ⟨_,ae (am (i:=1) scToldIn.nd rfl (Or.inl rfl) cx)
  (ae (bd PassesOwn.never rfl (cN (aF aW (pv 0) ai (fun _ _=>rfl)))
    (cP rfl (aG (av (i:=2) scToldIn.nd rfl (Or.inl rfl)) (aG (av (i:=3) scToldIn.nd rfl (Or.inl rfl)) (aG (av (i:=4) scToldIn.nd rfl (Or.inl rfl)) ce))))
   (aj (cC hu (pv 1) (al GT hr rfl mT kT bT .nil aq (aa (pv 2) (aa (pv 3) ad))) (pv 4) rfl)))
  (aj (aB (pv 1)))),?_⟩
 refine fun d hd=>?_
 have s0:=ag hd (.dT [])
 have g0:(upd H d (.dT [])) d=some (.dT []):=ab
 generalize upd H d (.dT [])=H0 at s0 g0 ⊢
 obtain ⟨a,pa,ra,rv,rfl,ha,hpa,hra,hR⟩:=hF.mono (au s0)
 refine ⟨_,rfl,a,_,3,.ref ra,rfl,rfl,SqT.of ha,a8 (j:=3) rfl,ra,rfl,⟨rv,SqT.of hra⟩,?_⟩
 have lR:=hR.len
 refine fi (xs:=rv) (fun i σ H'=>i<=rv.length/\ ∃ o2 o3 o4 kvs,σ=[some (.ref a),some (.ref d),o2,o3,o4]/\Same H H'/\H' ra=some (.tup rv)/\RepRs H' fr.rules rv/\H' d=some (.dT kvs)/\kvs.length=i/\Paired (KvL H') (fr.rules.take i) kvs)
  ⟨Nat.zero_le _,none,none,none,[],rfl,s0,hra,hR,g0,rfl,.nil⟩ (fun i σ H' _ h=>by obtain ⟨_,_,_,_,_,_,_,g,_⟩:=h;exact SqT.of g) ?_ ?_
 ·rintro i x σ H1 hx ⟨_,o2,o3,o4,kvs,rfl,S1,gra,hR1,gd,hl,hP⟩
  have hil:i<rv.length:=(List.getElem?_eq_some_iff.mp hx).1
  obtain ⟨r,hr',a',u,rfl,ha',hu'⟩:=aH hR1 hx
  refine ⟨a',_,rfl,SqT.of ha',rfl,_,_,rfl,_,_,rfl,_,_,rfl,rfl,?_⟩
  refine ⟨_,rfl,_,rfl,_,rfl,_,rfl,r.pl,r.word,rfl,fun t ht=>?_⟩
  have s2:=ag ht (.tup ((aP r).map kV))
  have g2:(upd H1 t (.tup ((aP r).map kV))) t=some (.tup ((aP r).map kV)):=ab
  rw [show lk r.pl r.word=aP r from rfl]
  generalize upd H1 t (.tup ((aP r).map kV))=H2 at s2 g2 ⊢
  refine ⟨d,_,rfl,DPut.t (s2 _ _ gd) g2 (ao (by lia)),?_⟩
  have hn:aP r∉kvs.map (·.1):=by
   rw [gk hP,List.map_take]
   exact dB hnd (by rw [List.getElem?_map,hr'];rfl)
  rw [db hn]
  have tk:TK H1 (upd H2 d (.dT (kvs++[(aP r,u)]))):=fun b xs e=>by
   rw [ah (fun z=>by rw [z,gd]at e;cases e)]
   exact s2 _ _ e
  refine ⟨hil,_,_,_,_,rfl,?_,tk _ _ gra,hR1.mono tk,ab,?_,?_⟩
  ·intro y o h
   rw [ah (af h hd)]
   exact s2 _ _ (S1 _ _ h)
  ·rw [List.length_append,hl];rfl
  ·rw [aY hr']
   exact Paired.snoc (Paired.mapP hP fun _ _ h=>h.mono tk) ⟨rfl,hu'.mono tk⟩
 ·rintro σ H1 ⟨_,o2,o3,o4,kvs,rfl,S1,gra,hR1,gd,hl,hP⟩
  rw [<- lR,List.take_length]at hP
  exact ⟨_,rfl,q d kvs H1 hd S1 gd hP⟩
theorem uC:ay ["formula","sizes"] ["formula","sizes"] (ak iL):=fsc
theorem qu {n:Nat} (F:Fun K "_law_size_with" "_law_size_with" iL f fd) (hsum:mg "sum"=none)
  (GS:ar P w K mg base CX0 (n+1) f fd ["formula","sizes"] (eY n)) (bS:Binds K fd ["formula","sizes"] []) (mS:mg "_law_size_with"=some (.ref f)):
  ar P w K mg base CX0 (n+2) f fd ["formula","sizes"] (eY (n+1)):=by
 refine F.ok uC (fun vs H Q E h=>?_) (fun cdv A outer s H vs Q E hr h=>?_)
 ·obtain ⟨v,d,g,kvs,Z,rfl,_⟩:=h
  rfl
 obtain ⟨v,d,g,kvs,Z,rfl,hR,hwf,hsz,gd,hZ,q⟩:=h
 have hu:=cW hr
 refine ⟨_,ae (bh (aC dJ (aF aW (pv 0) ai (fun _ _=>rfl)) (aK (pac aL (pac aL (pac aL ad)))) (by with_unfolding_all rfl)) (aj (aB (eQ hu (pv 1) (pv 0) ai ⟨rfl,rfl,rfl,rfl⟩))) aN)
  (aj (aB (ax be ai (aw (qW rfl) rfl hsum (by decide +kernel) (aa (gc (sc0:=ak iL) (N0:=["formula","sizes"]) (ys:=["sizes"]) (fr:=[1]) rfl (cN (aS dz (pv 0) (aZ ai) ba)) rfl rfl
    cok (fun C s H ex=>al GS hr rfl mS F.kp bS .nil aq (aa (pv 0) (aa (pv 1) ad)))) ad))))),?_⟩
 obtain ⟨a,r,rfl,ha⟩:=fY hR
 refine ⟨_,rfl,a,_,0,.str (dQ g),rfl,rfl,SqT.of ha,cz,(by show 3<=sizeLine;decide),fun p1 h1=>?_⟩
 have s1:=ag h1 (.tup [.str "num",.str "own",.str "part"])
 have g1:(upd H p1 (.tup [.str "num",.str "own",.str "part"])) p1=some (.tup (([("num":Str),"own","part"]:List Str).map V.str)):=ab
 generalize upd H p1 (.tup [.str "num",.str "own",.str "part"])=HX at s1 g1 ⊢
 refine ⟨p1,_,rfl,.inr (SqT.of g1),rfl,bj,_,rfl,?_⟩
 refine (show if inV (.str (dQ g)) ((["num","own","part"]:List Str).map V.str)=true then _ else _ from ?_)
 rw [dO]
 by_cases l:dL g
 ·rw [(ff hwf).mpr l]
  obtain ⟨a',e,hl⟩:=lX l hR
  cases e
  refine cH ⟨_,rfl,d,rfl,.inr ⟨kvs,.inl (s1 _ _ gd)⟩,_,rfl,_,(DGet.t (s1 _ _ gd) (s1 _ _ hl)),?_⟩
  rw [hZ g l (nh hwf),ja,<- rL l]
  exact q HX s1
 ·rw [show decide (dQ g∈(["num","own","part"]:List Str))=false from Bool.eq_false_iff.mpr fun z=>l ((ff hwf).mp z)]
  obtain ⟨a',us,e,ha',hus,hK⟩:=jG l hwf hR
  cases e
  refine bu ⟨_,rfl,1,rfl,a,_,rfl,s1 _ _ ha',fun p5 H5 s5 g5=>?_⟩
  have g5:H5 p5=some (.tup us):=by rw [g5,vz]
  have S5:=s1.trans s5
  refine ⟨p5,rfl,⟨_,SqT.of g5⟩,?_⟩
  refine gy (by lia) hK (io g5) (im g5) (lp g5) (fun _ k v=>v=.int ((k.szw Z:Nat):Int)) (fun _ h=>h) ?_ ?_
  ·rintro k v' H6 kk hk ⟨hRk,hwk,hsk⟩ s6 hkk
   exact ⟨_,rfl,_,rfl,v',d,k,kvs,Z,rfl,hRk.mono (au (S5.trans s6)),hwk,by lia,s6 _ _ (S5 _ _ gd),hZ,fun H7 s7=>hkk _ H7 s7 rfl⟩
  ·intro p7 zs H7 hp7 s7 g7 hz7
   have e7:=jK (g:=fun k:Fm=>V.int ((k.szw Z:Nat):Int)) hz7
   have e8:zs=((dM g).map fun k=>((k.szw Z:Nat):Int)).map V.int:=by rw [e7,List.map_map];rfl
   rw [e8]at g7
   refine ⟨p7,_,rfl,SqL.of g7,_,_,rfl,rfl,?_⟩
   have:=q H7 (S5.trans s7)
   rw [rM l]at this
   exact this
theorem uD:ay ["formula","made"] ["formula","made"] (ak iO):=fsc
theorem qy {n:Nat} (F:Fun K "_law_put_in" "_law_put_in" iO f fd) (G:Gb mg)
  (GS:ar P w K mg base CX0 (n+1) f fd ["formula","made"] (eZ n)) (bS:Binds K fd ["formula","made"] []) (mS:mg "_law_put_in"=some (.ref f)):
  ar P w K mg base CX0 (n+2) f fd ["formula","made"] (eZ (n+1)):=by
 refine F.ok uD (fun vs H Q E h=>?_) (fun cdv A outer s H vs Q E hr h=>?_)
 ·obtain ⟨v,d,g,kvs,M,rfl,_⟩:=h
  rfl
 obtain ⟨v,d,g,kvs,M,rfl,hR,hwf,hsz,gd,hM,q⟩:=h
 have hu:=cW hr
 refine ⟨_,ae (bh (aC dJ (aF aW (pv 0) ai (fun _ _=>rfl)) (aK (pac aL (pac aL (pac aL ad)))) (by with_unfolding_all rfl)) (aj (aB (eQ hu (pv 1) (pv 0) (pv 0) ⟨rfl,rfl,rfl,rfl⟩))) aN)
  (aj (aB (ax gf (aS dz (pv 0) ba (aZ ai)) (aT aM rfl G.tuple (by decide +kernel) (aa (gc (sc0:=ak iO) (N0:=["formula","made"]) (ys:=["made"]) (fr:=[1]) rfl (cN (aS dz (pv 0) (aZ ai) ba)) rfl rfl
    cok (fun C s H ex=>al GS hr rfl mS F.kp bS .nil aq (aa (pv 0) (aa (pv 1) ad)))) ad))))),?_⟩
 obtain ⟨a,r,rfl,ha⟩:=fY hR
 refine ⟨_,rfl,a,_,0,.str (dQ g),rfl,rfl,SqT.of ha,cz,(by show 3<=sizeLine;decide),fun p1 h1=>?_⟩
 have s1:=ag h1 (.tup [.str "num",.str "own",.str "part"])
 have g1:(upd H p1 (.tup [.str "num",.str "own",.str "part"])) p1=some (.tup (([("num":Str),"own","part"]:List Str).map V.str)):=ab
 generalize upd H p1 (.tup [.str "num",.str "own",.str "part"])=HX at s1 g1 ⊢
 refine ⟨p1,_,rfl,.inr (SqT.of g1),rfl,bj,_,rfl,?_⟩
 refine (show if inV (.str (dQ g)) ((["num","own","part"]:List Str).map V.str)=true then _ else _ from ?_)
 rw [dO]
 by_cases l:dL g
 ·rw [(ff hwf).mpr l]
  obtain ⟨a',e,hl⟩:=lX l hR
  cases e
  refine cH ⟨_,rfl,d,rfl,.inr ⟨kvs,.inl (s1 _ _ gd)⟩,_,rfl,_,rfl,_,(DGet.t (s1 _ _ gd) (s1 _ _ hl)),?_⟩
  have es:=rN (M:=M) l
  cases em:(kyP g).bind M with
  | none=>
   rw [em]at es
   rw [(hM g l (nh hwf)).2 em]
   refine q _ HX s1 ?_
   rw [es]
   exact hR.mono (au s1)
  | some h=>
   rw [em]at es
   obtain ⟨u,h1,h2⟩:=(hM g l (nh hwf)).1 h em
   rw [h1]
   refine q _ HX s1 ?_
   rw [es]
   exact h2.mono (au s1)
 ·rw [show decide (dQ g∈(["num","own","part"]:List Str))=false from Bool.eq_false_iff.mpr fun z=>l ((ff hwf).mp z)]
  obtain ⟨a',us,e,ha',hus,hK⟩:=jG l hwf hR
  cases e
  refine bu ⟨_,rfl,1,rfl,a,_,rfl,s1 _ _ ha',fun p4 H4 s4 g4=>?_⟩
  have g4:H4 p4=some (.tup [.str (dQ g)]):=by rw [g4,xR]
  have S4:=s1.trans s4
  refine ⟨_,rfl,1,rfl,a,_,rfl,S4 _ _ ha',fun p5 H5 s5 g5=>?_⟩
  have g5:H5 p5=some (.tup us):=by rw [g5,vz]
  have S5:=S4.trans s5
  refine ⟨p5,rfl,⟨_,SqT.of g5⟩,?_⟩
  refine gy (by lia) hK (io g5) (im g5) (lp g5) (fun H k v=>Rep H (k.sub M) v) (fun t h=>h.mono t) ?_ ?_
  ·rintro k v' H6 kk hk ⟨hRk,hwk,hsk⟩ s6 hkk
   have S6:=S5.trans s6
   exact ⟨_,rfl,_,rfl,v',d,k,kvs,M,rfl,hRk.mono (au S6),hwk,by lia,S6 _ _ gd,hM.mono (au S6),fun u H7 s7 h7=>hkk _ H7 s7 h7⟩
  ·intro p7 zs H7 hp7 s7 g7 hz7
   have lz:(dM g).length=zs.length:=Paired.length hz7
   have lk:(dM g).length=us.length:=Paired.length hK
   refine ⟨p7,_,rfl,.inl ⟨SqL.of g7,fun p8 hp8=>?_⟩⟩
   have s8:=ag hp8 (.tup zs)
   have g8:(upd H7 p8 (.tup zs)) p8=some (.tup zs):=ab
   generalize upd H7 p8 (.tup zs)=H8 at s8 g8 ⊢
   refine ⟨p4,p8,_,_,rfl,rfl,s8 _ _ (s7 _ _ (s5 _ _ g4)),g8,Nat.le_of_lt (ao (by show 1+zs.length<=1000;lia)),fun p9 H9 s9 g9=>?_⟩
   have S79:=s8.trans s9
   refine q _ H9 ((S5.trans s7).trans S79) (uI l g9 (Paired.mapP hz7 fun _ _ h=>h.mono (au S79)))
theorem qv:ar P w K mg base CX0 1 f fd ["formula","sizes"] (eY 0):=by
 have no: ∀ vs H Q E,¬ eY 0 vs H Q E:=fun vs H Q E h=>by
  obtain ⟨v,d,g,kvs,Z,_,_,_,h,_⟩:=h
  have:=g.size_pos
  lia
 exact ⟨fun vs H Q E h=>absurd h (no vs H Q E),fun A outer s H args us vs Q E _ _ _ _ h=>absurd h (no vs H Q E)⟩
theorem mf (F:Fun K "_law_size_with" "_law_size_with" iL f fd) (hsum:mg "sum"=none) (bS:Binds K fd ["formula","sizes"] []) (mS:mg "_law_size_with"=some (.ref f)): ∀ n:Nat,ar P w K mg base CX0 (n+1) f fd ["formula","sizes"] (eY n)
 | 0=>qv
 | n+1=>qu F hsum (mf F hsum bS mS n) bS mS
theorem qz:ar P w K mg base CX0 1 f fd ["formula","made"] (eZ 0):=by
 have no: ∀ vs H Q E,¬ eZ 0 vs H Q E:=fun vs H Q E h=>by
  obtain ⟨v,d,g,kvs,M,_,_,_,h,_⟩:=h
  have:=g.size_pos
  lia
 exact ⟨fun vs H Q E h=>absurd h (no vs H Q E),fun A outer s H args us vs Q E _ _ _ _ h=>absurd h (no vs H Q E)⟩
theorem mh (F:Fun K "_law_put_in" "_law_put_in" iO f fd) (G:Gb mg) (bS:Binds K fd ["formula","made"] []) (mS:mg "_law_put_in"=some (.ref f)): ∀ n:Nat,ar P w K mg base CX0 (n+1) f fd ["formula","made"] (eZ n)
 | 0=>qz
 | n+1=>qy F G (mh F G bS mS n) bS mS
end My
namespace L2
open PySem PySem.Spec PyProof.Rows
theorem gP {X:Cx}:c5 X (.builtin "len") (fun xs H Q=> ∃ a kvs,xs=[V.ref a]/\Rd H a (.dT kvs)/\Q (.int (kvs.length:Int)) H):=by
 intro pins s σ H xs us Q I r h
 obtain ⟨a,kvs,rfl,ha,q⟩:=h
 rcases ha with ha | ⟨o,ha⟩
 ·obtain ⟨u,rfl,ru⟩:=fq r
  cases ru
  obtain ⟨_,_,xs,_,o,es,ep,h1,_⟩:=(show ObjOk X.prog X.w H s.heap a (.dT kvs)from I.hok a _ ha)
  have I2:=I.freeze ha h1
  have ha2:(upd H a (.frz o (.dT kvs))) a=some (.frz o (.dT kvs)):=ab
  obtain ⟨ys,kt,lo,hn,m,_,_⟩:=cX I2 ha2
  have hz:=(show ObjOk X.prog X.w (upd H a (.frz o (.dT kvs))) s.heap a (.frz o (.dT kvs))from I2.hok a _ ha2).2.1
  have hl:ys.length=kvs.length:=(Paired.length kt).symm
  refine HT.len_des lo (gn m) (by rw [List.length_map];lia) ?_
  rw [List.length_map,hl]
  exact ⟨.int kvs.length,H,I.tok _,⟨_,rfl⟩,q⟩
 ·exact jZ pins s σ H _ _ Q I r ⟨a,o,kvs,rfl,ha,q⟩
section
variable {X:Cx}
theorem nU (hu:X.A.units<cLine):OpR X (compareOp .Eq) (fun x y H Q=> ∃ a b xs,x=.ref a/\y=.ref b/\SqL X.K H a xs/\SqL X.K H b []/\Q (.bl xs.isEmpty) H):=by
 intro pins s σ H x y v u Q I rx ry h
 obtain ⟨a,b,xs,rfl,rfl,ha,hb,q⟩:=h
 cases rx
 cases ry
 obtain ⟨its,r,pl,_⟩:=I.list ha
 obtain ⟨its2,r2,pl2,_⟩:=I.list hb
 cases r2
 cases r with
 | nil=>exact SeqAt.eq_listAt (e:=fun _=>true) pl.isList pl2.isList rfl hu (fun j h1 _=>absurd h1 (Nat.not_lt_zero _)) ⟨.bl _,H,I,rfl,q⟩
 | cons r1 t=>exact SeqAt.eq_list_lengthsAt pl.isList pl2.isList (by simp) hu ⟨.bl _,H,I,rfl,q⟩
end
end L2
namespace My
open PySem L2
theorem ij {g:Fm} (l:dL g) (w:lfW g) {i:Int} {x:Str} (h:i= -1\/0<=i):lfk g=lk i x↔kyP g=some (pk i x):=by
 unfold lk
 cases g with
 | num n=>
  refine ⟨fun e=>?_,fun e=>by cases e⟩
  by_cases c:i<0
  ·rw [if_pos c]at e
   have e:=(List.cons.inj e).1
   exact absurd (Sum.inr.inj e) (by decide +kernel)
  ·rw [if_neg c]at e
   have e:=(List.cons.inj e).1
   exact absurd (Sum.inr.inj e) (by decide +kernel)
 | own y=>
  by_cases c:i<0
  ·have hi:i= -1:=by lia
   subst hi
   rw [if_pos c]
   exact ⟨fun e=>by
    have e2:=Sum.inr.inj (List.cons.inj (List.cons.inj e).2).1
    rw [e2]
    rfl,fun e=>by
    have e2:=Sum.inr.inj (List.cons.inj (List.cons.inj (Option.some.inj e)).2).1
    rw [e2]
    rfl⟩
  ·rw [if_neg c]
   refine ⟨fun e=>absurd (List.cons.inj e).1 (fun z=>absurd (Sum.inr.inj z) (by decide +kernel)),fun e=>?_⟩
   have e2:=Sum.inl.inj (List.cons.inj (Option.some.inj e)).1
   lia
 | part k y=>
  have hk:0<=k:=w
  by_cases c:i<0
  ·rw [if_pos c]
   refine ⟨fun e=>absurd (List.cons.inj e).1 (fun z=>absurd (Sum.inr.inj z) (by decide +kernel)),fun e=>?_⟩
   have e2:=Sum.inl.inj (List.cons.inj (Option.some.inj e)).1
   lia
  ·rw [if_neg c]
   exact ⟨fun e=>by
    have e1:=Sum.inl.inj (List.cons.inj (List.cons.inj e).2).1
    have e2:=Sum.inr.inj (List.cons.inj (List.cons.inj (List.cons.inj e).2).2).1
    rw [e1,e2]
    rfl,fun e=>by
    have e1:=Sum.inl.inj (List.cons.inj (Option.some.inj e)).1
    have e2:=Sum.inr.inj (List.cons.inj (List.cons.inj (Option.some.inj e)).2).1
    rw [e1,e2]
    rfl⟩
 | bin op a b=>exact l.elim
 | whn a b c=>exact l.elim
noncomputable def gH {α:Type} (Z:KK->Option α) (k:KK) (v:α) (j:KK):Option α:=if j=k then some v else Z j
theorem wM {kvs:List (KK×V)} {Z:KK->Option Nat} (h:DZ kvs Z) {r:Rul} (hr:r.pl= -1\/0<=r.pl) (n:Nat):DZ (bp kvs (aP r) (.int ((n:Nat):Int))) (gH Z (aE r) n):=fun g l w=>by
 rw [cK]
 by_cases c:lfk g=aP r
 ·rw [if_pos c,(ij l w hr).mp c]
  have e:(some (pk r.pl r.word)).bind (gH Z (aE r) n)=some n:=if_pos rfl
  rw [e]
  rfl
 ·rw [if_neg c,h g l w]
  cases e:kyP g with
  | none=>rfl
  | some k=>
   show (Z k).map _=(if k=aE r then some n else Z k).map _
   rw [if_neg fun z=>c ((ij l w hr).mpr (by rw [e,z];rfl))]
theorem wO {H:Hp} {kvs:List (KK×V)} {M:KK->Option Fm} (h:DM H kvs M) {r:Rul} (hr:r.pl= -1\/0<=r.pl) {f:Fm} {u:V} (hu:Rep H f u):DM H (bp kvs (aP r) u) (gH M (aE r) f):=fun g l w=>by
 rw [cK]
 by_cases c:lfk g=aP r
 ·rw [if_pos c,(ij l w hr).mp c]
  have e:(some (pk r.pl r.word)).bind (gH M (aE r) f)=some f:=if_pos rfl
  rw [e]
  exact ⟨fun x e=>⟨u,rfl,by cases e;exact hu⟩,fun e=>by cases e⟩
 ·rw [if_neg c]
  have e:(kyP g).bind (gH M (aE r) f)=(kyP g).bind M:=by
   cases e:kyP g with
   | none=>rfl
   | some k=>exact if_neg fun z=>c ((ij l w hr).mpr (by rw [e,z];rfl))
  rw [e]
  exact h g l w
structure Stt (rs L:List Rul) (Z:KK->Option Nat):Prop where
 sub: ∀ r∈L,r∈rs
 top: ∀ (i:Nat) r,L[i]? =some r-> ∀ k∈r.fm.pks,k∈rs.map aE->k∈(L.take i).map aE
 nd:(L.map aP).Nodup
 z: ∀ k,(Z k).isSome=true↔k∈L.map aE
structure Mdt (rs:List Rul) (Z:KK->Option Nat) (M:KK->Option Fm):Prop where
 zm: ∀ k,Z k=(M k).map Fm.size
 mko:xV rs M
 le: ∀ k g,M k=some g->g.size<=400
theorem uz (rs:List Rul):Stt rs [] fun _=>none:=⟨fun r h=>(by cases h),fun i r h=>(by simp at h),List.nodup_nil,fun k=>⟨fun z=>(by cases z),fun z=>(by cases z)⟩⟩
theorem vb (rs:List Rul):Mdt rs (fun _=>none) fun _=>none:=⟨fun _=>rfl,fun _ _ e=>(by cases e),fun _ _ e=>(by cases e)⟩
theorem wN:DZ [] fun _=>none:=fun g _ _=>by cases kyP g <;> rfl
theorem wP (H:Hp):DM H [] fun _=>none:=fun g _ _=>⟨fun x e=>(by cases h:kyP g <;> rw [h]at e <;> cases e),fun _=>rfl⟩
theorem xP {H:Hp} {kvs:List (KK×V)} {M:KK->Option Fm} (h:DM H kvs M) {r:Rul} (hr:r.pl= -1\/0<=r.pl) {g:Fm} (e:M (aE r)=some g): ∃ u,aU kvs (aP r)=some u/\Rep H g u:=by
 rcases hr with hr | hr
 ·have e1:aP r=lfk (.own r.word):=by unfold aP lk;rw [if_pos (by lia)];rfl
  have e2:aE r=pk (-1) r.word:=by unfold aE;rw [hr];rfl
  rw [e1]
  exact (h (.own r.word) trivial trivial).1 g (by rw [<- e,e2];rfl)
 ·have e1:aP r=lfk (.part r.pl r.word):=by unfold aP lk;rw [if_neg (by lia)];rfl
  rw [e1]
  exact (h (.part r.pl r.word) trivial hr).1 g e
theorem uy {rs L:List Rul} {Z:KK->Option Nat} (h:Stt rs L Z) {r:Rul} (hr:r∈rs) (hn:aP r∉L.map aP) (hw: ∀ k∈r.fm.pks,k∈rs.map aE->(Z k).isSome=true) (n:Nat):Stt rs (L++[r]) (gH Z (aE r) n):=by
 refine ⟨fun x hx=>(List.mem_append.mp hx).elim (h.sub x) fun z=>by rw [List.mem_singleton.mp z];exact hr,fun i x hx k hk hk'=>?_,?_,fun k=>?_⟩
 ·have hil:=(List.getElem?_eq_some_iff.mp hx).1
  rw [List.length_append,List.length_singleton]at hil
  by_cases c:i<L.length
  ·rw [List.getElem?_append_left c]at hx
   rw [List.take_append_of_le_length (by lia)]
   exact h.top i x hx k hk hk'
  ·have e:i=L.length:=by lia
   subst e
   rw [List.getElem?_append_right (Nat.le_refl _),Nat.sub_self]at hx
   cases hx
   rw [List.take_left]
   exact (h.z k).mp (hw k hk hk')
 ·rw [List.map_append,List.nodup_append]
  exact ⟨h.nd,List.pairwise_singleton _ _,fun a ha b hb e=>hn (by rw [List.map_singleton,List.mem_singleton]at hb;rw [<- hb,<- e];exact ha)⟩
 ·rw [List.map_append,List.mem_append,List.map_singleton,List.mem_singleton,<- h.z k]
  unfold gH
  by_cases c:k=aE r
  ·rw [if_pos c];exact ⟨fun _=>.inr c,fun _=>rfl⟩
  ·rw [if_neg c];exact ⟨.inl,fun z=>z.elim id fun z=>absurd z c⟩
theorem va {rs:List Rul} {Z:KK->Option Nat} {M:KK->Option Fm} (ok:RsOk rs) (h:Mdt rs Z M) {r:Rul} (hr:r∈rs) (hw: ∀ k∈r.fm.pks,k∈rs.map aE->(Z k).isSome=true) (h4:r.fm.szw Z<=400):Mdt rs (gH Z (aE r) (r.fm.szw Z)) (gH M (aE r) (r.fm.sub M)):=by
 have ez:Z=fun k=>(M k).map Fm.size:=funext h.zm
 have es:r.fm.szw Z=(r.fm.sub M).size:=by rw [ez];exact dX _
 refine ⟨fun k=>?_,fun k g e=>?_,fun k g e=>?_⟩
 ·unfold gH
  by_cases c:k=aE r
  ·rw [if_pos c,if_pos c,es];rfl
  ·rw [if_neg c,if_neg c];exact h.zm k
 ·unfold gH at e
  by_cases c:k=aE r
  ·rw [if_pos c]at e
   cases e
   subst c
   refine ⟨_,gB ok hr,dU h.mko fun k hk ht=>?_⟩
   have:=hw k hk (jw ht)
   rw [h.zm k]at this
   cases e:M k with
   | none=>rw [e]at this;cases this
   | some _=>rfl
  ·rw [if_neg c]at e;exact h.mko k g e
 ·unfold gH at e
  by_cases c:k=aE r
  ·rw [if_pos c]at e
   cases e
   lia
  ·rw [if_neg c]at e;exact h.le k g e
theorem oN {rs L:List Rul} {Z:KK->Option Nat} (ok:RsOk rs) (hL:RsL rs) (h:Stt rs L Z) (hn:rs.length<=L.length): ∀ r∈rs,aE r∈L.map aE:=by
 intro r hr
 by_cases c:aP r∈L.map aP
 ·obtain ⟨r',h1,h2⟩:=List.mem_map.mp c
  refine List.mem_map.mpr ⟨r',h1,?_⟩
  rw [<- eS hL (h.sub r' h1),<- eS hL hr,h2]
 ·have:=de (a:=aP r::L.map aP) (b:=rs.map aP) (List.nodup_cons.mpr ⟨c,h.nd⟩) fun x hx=>by
   rcases List.mem_cons.mp hx with rfl | hx
   ·exact List.mem_map.mpr ⟨r,hr,rfl⟩
   ·obtain ⟨r',h1,rfl⟩:=List.mem_map.mp hx
    exact List.mem_map.mpr ⟨r',h.sub r' h1,rfl⟩
  rw [List.length_cons,List.length_map,List.length_map]at this
  lia
theorem uB {rs L:List Rul} {Z:KK->Option Nat} (ok:RsOk rs) (hL:RsL rs) (h:Stt rs L Z) (hn:rs.length<=L.length):Acy rs:=by
 have hall:=oN ok hL h hn
 refine ⟨L.map aE,fun k hk=>?_,fun k hk=>?_,fun i k hk o ho=>?_⟩
 ·obtain ⟨r,hr,rfl⟩:=List.mem_map.mp hk
  exact hall r hr
 ·obtain ⟨r,hr,rfl⟩:=List.mem_map.mp hk
  exact List.mem_map.mpr ⟨r,h.sub r hr,rfl⟩
 ·rw [List.getElem?_map]at hk
  obtain ⟨r,hr,rfl⟩:=Option.map_eq_some_iff.mp hk
  obtain ⟨h1,h2⟩:=(sC ok (h.sub r (List.mem_of_getElem? hr)) o).mp ho
  rw [<- List.map_take]
  exact h.top i r hr o h1 h2
theorem vd {rs L:List Rul} {Z:KK->Option Nat} {M:KK->Option Fm} (ok:RsOk rs) (hL:RsL rs) (h:Stt rs L Z) (hm:Mdt rs Z M) (hn:rs.length<=L.length): ∃ U,UOk rs U/\ ∀ r∈rs,M (aE r)=some (U (aE r)):=by
 have hs: ∀ r∈rs,∃ g,M (aE r)=some g:=fun r hr=>by
  have:=(h.z _).mpr (oN ok hL h hn r hr)
  rw [hm.zm]at this
  cases e:M (aE r)with
  | none=>rw [e]at this;cases this
  | some g=>exact ⟨g,rfl⟩
 refine ⟨fun k=>(M k).getD (.num 0),⟨fun r hr=>?_,fun r hr=>?_⟩,fun r hr=>?_⟩
 ·obtain ⟨g,e⟩:=hs r hr
  obtain ⟨f,h1,h2⟩:=hm.mko _ _ e
  rw [gB ok hr]at h1
  cases h1
  show Unf rs r.fm ((M (aE r)).getD _)
  rw [e]
  exact h2
 ·obtain ⟨g,e⟩:=hs r hr
  show ((M (aE r)).getD _).size<=400
  rw [e]
  exact hm.le _ _ e
 ·obtain ⟨g,e⟩:=hs r hr
  show M (aE r)=some ((M (aE r)).getD _)
  rw [e]
  rfl
noncomputable def LR (H:Hp) (v:V) (p1:Addr) (rs:List (List Key)) (m:Nat) (σ:St) (H':Hp):Prop:= ∃ (pw:Addr) (ws done rest:List V) (dk rs':List (List Key)) (o:Option V),
 σ=[some v,some (.ref p1),some (.ref pw),o]/\p1≠pw/\H' p1=some (.lst done)/\H' pw=some (.lst ws)/\Same H H'/\Tw H ws rest rs'/\KsOf H' done dk/\dd dk rs'=dd [] rs/\done.length+rest.length<=1000/\m=rest.length
theorem scLReads:ay ["formula","found","waiting","one"] ["formula"] (ak kG):=fsc
theorem dy (k x:Str):decide (V.str k=V.str x)=decide (k=x):=by
 by_cases h:k=x
 ·subst h;rw [decide_eq_true rfl,decide_eq_true rfl]
 ·rw [decide_eq_false h,decide_eq_false fun e=>h (V.str.inj e)]
theorem qF (F:Fun K "_law_reads" "_law_reads" kG f fd) (hlist:mg "list"=none):ar P w K mg base CX0 1 f fd ["formula"] ic:=by
 refine F.ok scLReads (fun vs H Q E h=>?_) (fun cdv A outer s H vs Q E hr h=>?_)
 ·obtain ⟨v,b,_,rfl,_⟩:=h
  rfl
 obtain ⟨v,out,rs,rfl,hT,hout,q⟩:=h
 have hu:=hr.units
 refine ⟨_,ae (am (i:=1) scLReads.nd rfl (Or.inl rfl) (bc ad))
  (ae (am (i:=2) scLReads.nd rfl (Or.inl rfl) (bc (aa (pv 0) ad)))
  (ae (fZ PassesOwn.never (aC (qq hr.units0) (pv 2) (bc ad) (aJ _))
   (ae (am (i:=3) scLReads.nd rfl (Or.inl rfl) (aF aX (pv 2) ai (fun _ _=>rfl)))
   (ae (am (i:=2) scLReads.nd rfl (Or.inl rfl) (aS cB (pv 2) (aZ ai) ba))
   (aj (bh (PW.pt (oY (aC cq (aF aW (pv 3) ai (fun _ _=>rfl)) aL (aJ _)) (kX (aC cq (aF aW (pv 3) ai (fun _ _=>rfl)) aL (aJ _)))))
    (aj (bh (aC (me (Nat.lt_of_le_of_lt (Nat.add_le_add_left (show 1<=16 by decide) _) (cW hr))) (pv 3) (pv 1) (by with_unfolding_all rfl))
     (aj (bH (dj PySem.F.plainAttrs_list PySem.F.slot_list_append PySem.F.type_list_append bi (pv 1) (aa (pv 3) ad)))) aN))
    (aj (bh (aC pe (aF aW (pv 3) ai (fun _ _=>rfl)) aL (aJ _))
     (aj (am (i:=2) scLReads.nd rfl (Or.inl rfl) (ax gJ (aT ly rfl hlist (by decide +kernel) (aa (aS nA (pv 3) (aZ ai) ba) ad)) (pv 2)))) aN)))))))
  (aj (aB (pv 1))))),?_⟩
 refine ⟨(by show 0<=sizeLine;decide),fun p1 h1=>?_⟩
 refine ⟨_,rfl,(by show 1<=sizeLine;decide),fun p2 h2=>?_⟩
 dsimp only [vR,lN,eD,tC]
 have n21:p1≠p2:=fun e=>by
  subst e
  rw [ab]at h2
  cases h2
 have h2':H p2=none:=by rw [ah (Ne.symm n21)]at h2;exact h2
 refine ⟨LR H v p1 rs,⟨_,p2,[v],[],out,[],rs,none,rfl,n21,by rw [ah n21,ab],ab,(ag h1 _).trans (ag h2 _),hT,.nil,rfl,by simpa using hout,rfl⟩,?_⟩
 rintro m σ H' ⟨pw,ws,done,rest,dk,rs',o,rfl,n1w,g1,g2,sm,hW,hk,hdd,hl,rfl⟩
 refine ⟨_,rfl,(by show 0<=sizeLine;decide),fun p3 h3=>?_⟩
 have n13:p1≠p3:=af g1 h3
 have nw3:pw≠p3:=af g2 h3
 have sm3:=sm.trans (ag h3 (.lst []))
 have g1':(upd H' p3 (.lst [])) p1=some (.lst done):=by rw [ah n13];exact g1
 have g2':(upd H' p3 (.lst [])) pw=some (.lst ws):=by rw [ah nw3];exact g2
 have g3':(upd H' p3 (.lst [])) p3=some (.lst []):=ab
 have hk':KsOf (upd H' p3 (.lst [])) done dk:=hk.mono fun b xs h=>by rw [ah (af h h3)];exact h
 generalize upd H' p3 (.lst [])=H3 at sm3 g1' g2' g3' hk' ⊢
 refine ⟨pw,p3,ws,rfl,rfl,SqL.of g2',SqL.of g3',_,rfl,?_⟩
 cases ws with
 | nil=>
  refine bu ?_
  cases hW
  refine ⟨_,rfl,?_⟩
  have e:dk=dd [] rs:=hdd
  subst e
  exact q p1 done H3 h1 sm3 g1' hk'
 | cons x vs=>
  refine cH ⟨fun σ' H''=> ∃ m',m'<rest.length/\LR H v p1 rs m' σ' H'',fun σ' H'' h=>h,?_⟩
  refine ⟨_,rfl,pw,_,0,x,rfl,rfl,SqL.of g2',cz,?_⟩
  refine ⟨_,rfl,1,rfl,pw,_,rfl,SqL.of g2',fun p4 h4=>?_⟩
  rw [vz]
  have n14:p1≠p4:=af g1' h4
  have sm4:=sm3.trans (ag h4 (.lst vs))
  have g1'':(upd H3 p4 (.lst vs)) p1=some (.lst done):=by rw [ah n14];exact g1'
  have g4:(upd H3 p4 (.lst vs)) p4=some (.lst vs):=ab
  have hk'':KsOf (upd H3 p4 (.lst vs)) done dk:=hk'.mono fun b xs h=>by rw [ah (af h h4)];exact h
  generalize upd H3 p4 (.lst vs)=H4 at sm4 g1'' g4 hk'' ⊢
  cases hW with
  | @rd a ks _ rest' rs'' ha hrk t=>
   rw [List.length_cons]at hl ⊢
   obtain ⟨k,r,e,hk2,_,_⟩:=kQ hrk
   have ha4:=sm4 _ _ ha
   have ha4':H4 a=some (.tup (.str k::r)):=by rw [<- e];exact ha4
   have ed:dd dk (ks::rs'')=dd (if ks∈dk then dk else dk++[ks]) rs'':=rfl
   rw [ed]at hdd
   have old:ks∈dk->LR H v p1 rs rest'.length [some v,some (.ref p1),some (.ref p4),some (.ref a)] H4:=fun hm=>by
    rw [if_pos hm]at hdd
    exact ⟨p4,vs,done,rest',dk,rs'',_,rfl,n14,g1'',g4,sm4,t,hk'',hdd,by lia,rfl⟩
   have new: ¬ ks∈dk->LR H v p1 rs rest'.length [some v,some (.ref p1),some (.ref p4),some (.ref a)] (upd H4 p1 (.lst (done++[.ref a]))):=fun hm=>by
    rw [if_neg hm]at hdd
    refine ⟨p4,vs,done++[.ref a],rest',dk++[ks],rs'',_,rfl,n14,ab,by rw [ah (Ne.symm n14)];exact g4,fun c oo h=>by rw [ah (af h h1)];exact sm4 c oo h,t,?_,hdd,by rw [List.length_append,List.length_singleton];lia,rfl⟩
    refine Paired.snoc (hk''.mono fun b xs h=>?_) ⟨a,rfl,?_⟩
    ·rw [ah (fun z=>by subst z;rw [g1'']at h;cases h)];exact h
    ·rw [ah (fun z=>by subst z;rw [g1'']at ha4;cases ha4)];exact ha4
   have goal: ∀ {A' B':Hp->Prop},(∀ m',m'<rest'.length+1->LR H v p1 rs m' [some v,some (.ref p1),some (.ref p4),some (.ref a)] H4->B' H4)->(∀ m',m'<rest'.length+1->LR H v p1 rs m' [some v,some (.ref p1),some (.ref p4),some (.ref a)] (upd H4 p1 (.lst (done++[.ref a])))->A' H4)->
     if (if true=true then !decide (ks∈dk)else decide (ks∈dk))=true then A' H4 else B' H4:=fun hB hA=>by
    rw [if_pos rfl]
    by_cases hm:ks∈dk
    ·rw [decide_eq_true hm]
     exact bu (hB _ (Nat.lt_succ_self _) (old hm))
    ·rw [decide_eq_false hm]
     exact cH (hA _ (Nat.lt_succ_self _) (new hm))
   refine ⟨_,rfl,a,_,0,_,rfl,rfl,SqT.of ha4',cz,rfl,_,rfl,?_⟩
   rw [dy]
   rcases hk2 with rfl | rfl
   ·rw [decide_eq_true rfl]
    refine cH (cH ?_)
    refine ⟨_,rfl,_,rfl,a,p1,ks,done,dk,rfl,rfl,ha4,SqL.of g1'',hk'',_,rfl,?_⟩
    refine goal (fun m' h1 h2=>⟨m',h1,h2⟩) (fun m' h1 h2=>?_)
    exact ⟨_,rfl,.inl ⟨rfl,_,SqL.of g1''⟩,_,rfl,p1,done,.ref a,rfl,rfl,g1'',ao (by lia),m',h1,h2⟩
   ·rw [decide_eq_false (by decide +kernel)]
    refine bu ?_
    refine ⟨_,rfl,a,_,0,_,rfl,rfl,SqT.of ha4',cz,rfl,_,rfl,?_⟩
    rw [dy,decide_eq_true rfl]
    refine cH ?_
    refine ⟨_,rfl,_,rfl,a,p1,ks,done,dk,rfl,rfl,ha4,SqL.of g1'',hk'',_,rfl,?_⟩
    refine goal (fun m' h1 h2=>⟨m',h1,h2⟩) (fun m' h1 h2=>?_)
    exact ⟨_,rfl,.inl ⟨rfl,_,SqL.of g1''⟩,_,rfl,p1,done,.ref a,rfl,rfl,g1'',ao (by lia),m',h1,h2⟩
  | @num a r _ rest' _ ha _ t=>
   rw [List.length_cons]at hl ⊢
   have ha4:=sm4 _ _ ha
   refine ⟨_,rfl,a,_,0,_,rfl,rfl,SqT.of ha4,cz,rfl,_,rfl,?_⟩
   rw [dy,decide_eq_false (by decide +kernel)]
   refine bu ⟨_,rfl,a,_,0,_,rfl,rfl,SqT.of ha4,cz,rfl,_,rfl,?_⟩
   rw [dy,decide_eq_false (by decide +kernel)]
   refine bu ⟨_,rfl,a,_,0,_,rfl,rfl,SqT.of ha4,cz,rfl,_,rfl,?_⟩
   rw [dy,decide_eq_true rfl]
   refine bu ?_
   exact ⟨_,Nat.lt_succ_self _,p4,vs,done,rest',dk,rs',_,rfl,n14,g1'',g4,sm4,t,hk'',hdd,by lia,rfl⟩
  | @inn a k r _ rest' _ ha hi hk3 hr3 t=>
   rw [List.length_cons]at hl ⊢
   have ha4:=sm4 _ _ ha
   have k1: ¬ k="own":=fun e=>by rw [e,dN]at hi;cases hi
   have k2: ¬ k="part":=fun e=>by rw [e,du]at hi;cases hi
   have k3: ¬ k="num":=fun e=>by rw [e,fh]at hi;cases hi
   refine ⟨_,rfl,a,_,0,_,rfl,rfl,SqT.of ha4,cz,rfl,_,rfl,?_⟩
   rw [dy,decide_eq_false k1]
   refine bu ⟨_,rfl,a,_,0,_,rfl,rfl,SqT.of ha4,cz,rfl,_,rfl,?_⟩
   rw [dy,decide_eq_false k2]
   refine bu ⟨_,rfl,a,_,0,_,rfl,rfl,SqT.of ha4,cz,rfl,_,rfl,?_⟩
   rw [dy,decide_eq_false k3]
   refine cH ?_
   refine ⟨_,rfl,1,rfl,a,_,rfl,SqT.of ha4,qJ _ _,fun p5 h5=>?_⟩
   rw [vz]
   have s5:=ag h5 (.tup r)
   have g5:(upd H4 p5 (.tup r)) p5=some (.tup r):=ab
   have g15:=s5 _ _ g1''
   have g45:=s5 _ _ g4
   have hk5:KsOf (upd H4 p5 (.tup r)) done dk:=hk''.mono fun b xs h=>s5 _ _ h
   have sm5:=sm4.trans s5
   generalize upd H4 p5 (.tup r)=H5 at s5 g5 g15 g45 hk5 sm5 ⊢
   refine ⟨p5,r,rfl,.inr (SqT.of g5),fun p6 h6=>?_⟩
   have s6:=ag h6 (.lst r)
   have g6:(upd H5 p6 (.lst r)) p6=some (.lst r):=ab
   have g16:=s6 _ _ g15
   have g46:=s6 _ _ g45
   have hk6:KsOf (upd H5 p6 (.lst r)) done dk:=hk5.mono fun b xs h=>s6 _ _ h
   have sm6:=sm5.trans s6
   generalize upd H5 p6 (.lst r)=H6 at s6 g6 g16 g46 hk6 sm6 ⊢
   have hlen:=t.len
   rw [List.length_append]at hlen
   refine ⟨_,rfl,p6,p4,r,vs,rfl,rfl,g6,g46,Nat.le_of_lt (ao (by lia)),fun p7 h7=>?_⟩
   have s7:=ag h7 (.lst (r++vs))
   have n17:p1≠p7:=af g16 h7
   exact ⟨_,Nat.lt_succ_self _,p7,r++vs,done,rest',dk,rs',_,rfl,n17,s7 _ _ g16,ab,sm6.trans s7,t,hk6.mono fun b xs h=>s7 _ _ h,hdd,by lia,rfl⟩
noncomputable def StH (rs:List Rul) (kv:List (KK×V)) (d sd md:Addr) (HB H':Hp) (gr:Bool):Prop:=
 ∃ skv mkv L Z M,Rd H' d (.dT kv)/\H' sd=some (.dT skv)/\H' md=some (.dT mkv)/\Kp d HB H'/\skv.map (·.1)=L.map aP/\DZ skv Z/\Stt rs L Z/\mkv.length<=L.length/\(gr=false->Mdt rs Z M/\DM H' mkv M)
theorem qU {rs:List Rul} {kv:List (KK×V)} {d sd md:Addr} {HB H':Hp} {gr:Bool} (h:StH rs kv d sd md HB H' gr) (nds:sd≠d) (ndm:md≠d):
  (H' d=some (.dT kv)/\ ∀ o,StH rs kv d sd md HB (upd H' d (.frz o (.dT kv))) gr)\/ ∃ o,H' d=some (.frz o (.dT kv)):=by
 obtain ⟨skv,mkv,L,Z,M,h1,h2,h3,h4,h5,h6,h7,h8,h9⟩:=id h
 rcases h1 with h1 | ⟨o,h1⟩
 ·refine .inl ⟨h1,fun o=>⟨skv,mkv,L,Z,M,.inr ⟨o,ab⟩,by rw [ah nds];exact h2,by rw [ah ndm];exact h3,fun b u e n=>by rw [ah n];exact h4 b u e n,h5,h6,h7,h8,fun e=>⟨(h9 e).1,(h9 e).2.mono fun b xs e=>?_⟩⟩⟩
  rw [ah (fun z=>by rw [z,h1]at e;cases e)]
  exact e
 ·exact .inr ⟨o,h1⟩
noncomputable def gS:Sp:=fun vs H Q _=> ∃ d kv rs,vs=[.ref d]/\H d=some (.dT kv)/\Paired (KvL H) rs kv/\RsOk rs/\RsL rs/\ ∀ (p md:Addr) (wd:Str) mkv H',Kp d H H'->H' p=some (.tup [.str wd,.ref md])->H' md=some (.dT mkv)->
 (wd="tangled"\/wd="great"\/(wd="made"/\ ∃ U,Acy rs/\UOk rs U/\ ∀ r∈rs,∃ u,aU mkv (aP r)=some u/\Rep H' (U (aE r)) u))->Q (.ref p) H'
theorem wA {H:Hp} {rs:List Rul} {kv:List (KK×V)} (nd:(rs.map aP).Nodup) (h:Paired (KvL H) rs kv) {j:Nat} {k:KK} (hk:(kv.map (·.1))[j]? =some k): ∃ r,rs[j]? =some r/\k=aP r/\ ∃ u,aU kv (aP r)=some u/\Rep H r.fm u:=by
 rw [List.getElem?_map]at hk
 obtain ⟨e,he,rfl⟩:=Option.map_eq_some_iff.mp hk
 obtain ⟨r,hr,h1,h2⟩:=aH h he
 obtain ⟨k,u⟩:=e
 have h1:k=aP r:=h1
 subst h1
 exact ⟨r,hr,rfl,u,eW (by rw [gk h];exact nd) he,h2⟩
theorem uA {rs L:List Rul} {Z:KK->Option Nat} (ok:RsOk rs) (h:Stt rs L Z):L.length<=12:=by
 have:=de (a:=L.map aP) (b:=rs.map aP) h.nd fun x hx=>by
  obtain ⟨r',h1,rfl⟩:=List.mem_map.mp hx
  exact List.mem_map.mpr ⟨r',h.sub r' h1,rfl⟩
 rw [List.length_map,List.length_map]at this
 have:=ok.few
 lia
theorem tG {rs L:List Rul} {Z:KK->Option Nat} {kv skv:List (KK×V)} (hL:RsL rs) (hk:kv.map (·.1)=rs.map aP) (hs:skv.map (·.1)=L.map aP) (hS:Stt rs L Z) {r:Rul} (hw:r.fm.wf)
  (h:(dd [] r.fm.rdk).filter (fun k=>(aU kv k).isSome&& !(aU skv k).isSome)=[]): ∀ k∈r.fm.pks,k∈rs.map aE->(Z k).isSome=true:=by
 intro k hk1 hk2
 rw [<- ef]at hk1
 obtain ⟨ks,hks,rfl⟩:=List.mem_map.mp hk1
 obtain ⟨r',hr',e⟩:=List.mem_map.mp hk2
 have e2:ks=aP r':=pq (fG hw ks hks) (xA _ _) (by rw [<- e];exact (eS hL hr').symm)
 subst e2
 have hm:aP r'∈dd [] r.fm.rdk:=dd_iff.mpr (.inr hks)
 have h1:(aU kv (aP r')).isSome=true:=by
  cases hv:aU kv (aP r')with
  | none=>
   have:=iA hv
   rw [hk]at this
   exact absurd (List.mem_map.mpr ⟨r',hr',rfl⟩) this
  | some _=>rfl
 have h2:(aU skv (aP r')).isSome=true:=by
  cases hv:(aU skv (aP r')).isSome with
  | true=>rfl
  | false=>
   have:aP r'∈(dd [] r.fm.rdk).filter (fun k=>(aU kv k).isSome&& !(aU skv k).isSome):=List.mem_filter.mpr ⟨hm,by rw [h1,hv];rfl⟩
   rw [h]at this
   cases this
 rw [hS.z]
 cases hv:aU skv (aP r')with
 | none=>rw [hv]at h2;cases h2
 | some u=>
  have:=j6 hv
  rw [hs]at this
  obtain ⟨x,hx,ex⟩:=List.mem_map.mp this
  refine List.mem_map.mpr ⟨x,hx,?_⟩
  rw [<- eS hL (hS.sub x hx),ex]
theorem vh {H:Hp} {ys:List V} {kss:List KK} (h:KsOf H ys kss):Paired (fun ks y=> ∃ b,y=V.ref b/\H b=some (.tup (List.map kV ks))) kss ys:=by
 induction h with
 | nil=>exact .nil
 | cons a _ ih=>exact .cons a ih
noncomputable abbrev NSt:List Str:=["told","sizes","made","great","turn","target","waits"]
theorem scStraightT:ay NSt ["told"] (ak ee):=fsc
theorem lg (F:Fun K "_law_straight_told" "_law_straight_told" ee f fd) (G:Gb mg)
  (GR:ar P w K mg base CX0 1 f2 fd2 ["formula"] ic) (bR:Binds K fd2 ["formula"] []) (kR:PySem.W.keepIn K (.ref f2)=true) (mR:mg "_law_reads"=some (.ref f2))
  (GZ:ar P w K mg base CX0 16 f3 fd3 ["formula","sizes"] (eY 15)) (bZ:Binds K fd3 ["formula","sizes"] []) (kZ:PySem.W.keepIn K (.ref f3)=true) (mZ:mg "_law_size_with"=some (.ref f3))
  (GP:ar P w K mg base CX0 16 f4 fd4 ["formula","made"] (eZ 15)) (bP:Binds K fd4 ["formula","made"] []) (kP:PySem.W.keepIn K (.ref f4)=true) (mP:mg "_law_put_in"=some (.ref f4)):
  ar P w K mg base CX0 17 f fd ["told"] gS:=by
 refine F.ok scStraightT (fun vs H Q E h=>?_) (fun cdv A outer s H vs Q E hr h=>?_)
 ·obtain ⟨d,kv,rs,rfl,_⟩:=h
  rfl
 obtain ⟨d,kv,rs,rfl,gd,hP,hok,hL,q⟩:=h
 have h12:=hok.few
 have hu:=cW hr
 have hr1:=hr.mono (show 1<=16 by decide)
 have hnd:=pj hok hL
 have hkeys:=gk hP
 have lkv:rs.length=kv.length:=Paired.length hP
 refine ⟨_,ae (am (i:=1) scStraightT.nd rfl (Or.inr rfl) cx)
  (ae (am (i:=2) scStraightT.nd rfl (Or.inl rfl) cx)
  (ae (am (i:=3) scStraightT.nd rfl (Or.inl rfl) gW)
  (ae (bd PassesOwn.never rfl (bq rfl G.range (aa (aw gP rfl G.len PySem.boot_len (aa (pv 0) ad)) ad)) (av (i:=4) scStraightT.nd rfl (Or.inl rfl))
   (aj (bd PassesOwn.never rfl (iS (pv 0)) (av (i:=5) scStraightT.nd rfl (Or.inl rfl))
    (ae (l8 (i:=6) (sc0:=ak ee) (N0:=NSt) (ys:=["told","sizes"]) (fr:=[0,1]) rfl scStraightT.nd rfl (Or.inl rfl) (cO (al GR hr1 rfl mR kR bR .nil aq (aa (bV hu (pv 0) (pv 5) (fun _ _=>rfl)) ad))) rfl rfl
      cok
      (fun C s H ex=>PW.pt (gG (kY (sO hu (pv 0) (pv 1))) (fc (kY (jI hu (pv 0) (pv 2)))))) (fun C s H ex=>pv 0))
    (aj (bh (PW.pt (gG (kY (jI hu (pv 5) (pv 1))) (fc (aC (nU hr.units0) (pv 6) (bc ad) (aJ _)))))
     (ae (cC hu (pv 1) (pv 5) (al GZ hr rfl mZ kZ bZ .nil aq (aa (bV hu (pv 0) (pv 5) (fun _ _=>rfl)) (aa (pv 1) ad))) rfl)
     (ae (bh (aC iY (bV hu (pv 1) (pv 5) (fun _ _=>rfl)) ai (aJ _)) (aj (am (i:=3) scStraightT.nd rfl (Or.inl rfl) gW)) aN)
     (aj (bh (nL (fI (pv 3))) (aj (cC hu (pv 2) (pv 5) (al GP hr rfl mP kP bP .nil aq (aa (bV hu (pv 0) (pv 5) (fun _ _=>rfl)) (aa (pv 2) ad))) rfl)) aN)))) aN))))))
  (ae (bh (aC ft (aw gP rfl G.len PySem.boot_len (aa (pv 1) ad)) (aw gP rfl G.len PySem.boot_len (aa (pv 0) ad)) (aJ _)) (aj (aB (aK (aa aL (aa (pv 2) ad))))) aN)
  (aj (aB (aK (aa (aF aX (bc (pac aL (pac aL ad))) (aT dS rfl G.int (by decide +kernel) (aa (pv 3) ad)) (fun _ _=>rfl)) (aa (pv 2) ad))))))))),?_⟩
 refine fun sd hsd=>?_
 have nds:sd≠d:=fun z=>by rw [z,gd]at hsd;cases hsd
 have s0:=ag hsd (.dT [])
 have g0:(upd H sd (.dT [])) sd=some (.dT []):=ab
 generalize upd H sd (.dT [])=H0 at s0 g0 ⊢
 refine fun md hmd=>?_
 have hmd0:H md=none:=s0.free hmd
 have ndm:md≠d:=fun z=>by rw [z,gd]at hmd0;cases hmd0
 have nsm:sd≠md:=af g0 hmd
 have s1:=ag hmd (.dT [])
 have g1:(upd H0 md (.dT [])) md=some (.dT []):=ab
 generalize upd H0 md (.dT [])=H1 at s1 g1 ⊢
 have S1:=s0.trans s1
 have hS1:StH rs kv d sd md H H1 false:=⟨[],[],[],fun _=>none,fun _=>none,.inl (S1 _ _ gd),s1 _ _ g0,g1,Kp.refl.same S1,rfl,wN,uz rs,Nat.le_refl _,fun _=>⟨vb rs,wP H1⟩⟩
 refine ⟨_,rfl,d,kv,rfl,.inl (S1 _ _ gd),_,rfl,by lia,by lia,?_⟩
 refine cR (fun i σ H'=> ∃ gr o4 o5 o6,σ=[some (.ref d),some (.ref sd),some (.ref md),some (.bl gr),o4,o5,o6]/\StH rs kv d sd md H H' gr) ⟨false,none,none,none,rfl,hS1⟩ ?_ ?_
 ·rintro i σ H2 hi ⟨gr,o4,o5,o6,rfl,hS2⟩
  refine ⟨_,rfl,d,kv,rfl,?_⟩
  rcases qU hS2 nds ndm with ⟨h1,h2⟩ | ⟨o,h1⟩
  refine .inl ⟨h1,fun o=>?_⟩
  have gd3:(upd H2 d (.frz o (.dT kv))) d=some (.frz o (.dT kv)):=ab
  have hS3:=h2 o
  generalize upd H2 d (.frz o (.dT kv))=H3 at gd3 hS3 ⊢
  rotate_left
  refine .inr ⟨o,h1,?_⟩
  have gd3:=h1
  have hS3:=hS2
  generalize H2=H3 at gd3 hS3 ⊢
  all_goals
   refine jR (kvs:=kv) (fun j σ H'=> ∃ gr o5 o6,σ=[some (.ref d),some (.ref sd),some (.ref md),some (.bl gr),some (.int (0+ (i:Int))),o5,o6]/\H' d=some (.frz o (.dT kv))/\StH rs kv d sd md H H' gr) ⟨gr,o5,o6,rfl,gd3,hS3⟩ (fun j σ H' _ h=>by obtain ⟨_,_,_,_,h,_⟩:=h;exact h) ?_ ?_
   ·rintro j k b σ H4 hkj hb ⟨gr,o5,o6,rfl,gd4,skv,mkv,L,Z,M,_,gs4,gm4,k4,hsk,hZ,hS,hml,hgr⟩
    obtain ⟨r,hrj,rfl,u,hval,hRu⟩:=wA hnd hP hkj
    have hrm:=List.mem_of_getElem? hrj
    obtain ⟨hwf,hsz⟩:=hok.fm r hrm
    have hpl:=hL r hrm
    have hL12:=uA hok hS
    have lsk:skv.length=L.length:=by have:=congrArg List.length hsk;rw [List.length_map,List.length_map]at this;exact this
    have tk4:TK H H4:=fun b xs h=>k4 _ _ h fun z=>by rw [z,gd]at h;cases h
    have hR4:=hRu.mono tk4
    obtain ⟨out,hTw,hol⟩:=Tw.of1 hR4 hwf
    refine ⟨_,rfl,_,rfl,d,u,rfl,(by rw [<- hval];exact .inr (.inl ⟨kv,aP r,b,.inr ⟨o,gd4⟩,rfl,hb,rfl⟩)),u,out,r.fm.rdk,rfl,hTw,by lia,fun rl ys H5 hrl s5 grl hys=>⟨rl,rfl,⟨_,SqL.of grl⟩,?_⟩⟩
    have lys:ys.length<=15:=by
     have h1:ys.length=(dd [] r.fm.rdk).length:=Paired.length hys
     have h2:=oA (rs:=r.fm.rdk) (acc:=[])
     have h3:=eg r.fm
     have h2:(dd [] r.fm.rdk).length<=0+r.fm.rdk.length:=h2
     lia
    refine pO (by lia) (vh hys) (lx grl) (lu grl) (on grl) (fun k=>(aU kv k).isSome&& !(aU skv k).isSome) (fun _ _ _=>True) (fun _ h=>h) ?_ ?_ ?_
    ·rintro ks y H6 kk _ ⟨b',rfl,hb'⟩ s6 hk
     have S6:=s5.trans s6
     refine ⟨_,rfl,_,rfl,d,aU kv ks,rfl,.inr (.inl ⟨kv,ks,b',.inr ⟨o,S6 _ _ gd4⟩,rfl,s6 _ _ hb',rfl⟩),_,rfl,?_⟩
     have hk:=hk H6 (Same.refl _)
     cases hv:(aU kv ks).isSome with
     | false=>
      simp only [hv,Bool.false_and]at hk
      exact bu hk
     | true=>
      simp only [hv,Bool.true_and]at hk
      exact cH ⟨_,rfl,_,rfl,sd,aU skv ks,rfl,DGet.t (S6 _ _ gs4) (s6 _ _ hb'),_,rfl,hk⟩
    ·rintro ks y H6 kk _ ⟨b',rfl,hb'⟩ _ s6 hk
     exact ⟨_,rfl,hk _ _ (Same.refl _) trivial⟩
    intro wl zs H6 hwl s6 gwl hzs
    have S6:=s5.trans s6
    have gd6:=S6 _ _ gd4
    have gs6:=S6 _ _ gs4
    have gm6:=S6 _ _ gm4
    have hb6:=S6 _ _ hb
    have lzs:=Paired.length hzs
    have keep: ∀ H7,Same H6 H7->StH rs kv d sd md H H7 gr:=fun H7 s7=>by
     have S7:=S6.trans s7
     exact ⟨skv,mkv,L,Z,M,.inr ⟨o,S7 _ _ gd4⟩,S7 _ _ gs4,S7 _ _ gm4,k4.same S7,hsk,hZ,hS,hml,fun e=>⟨(hgr e).1,(hgr e).2.mono (au S7)⟩⟩
    refine ⟨_,rfl,_,rfl,sd,aU skv (aP r),rfl,DGet.t gs6 hb6,_,rfl,?_⟩
    cases hv:aU skv (aP r)with
    | some x=>exact bu (bu ⟨gr,_,_,rfl,gd6,keep H6 (Same.refl _)⟩)
    | none=>
    refine cH ⟨_,rfl,(by show 0<=sizeLine;decide),fun p7 hp7=>?_⟩
    have s7:=ag hp7 (.lst [])
    have g7:(upd H6 p7 (.lst [])) p7=some (.lst []):=ab
    generalize upd H6 p7 (.lst [])=H7 at s7 g7 ⊢
    refine ⟨wl,p7,zs,rfl,rfl,SqL.of (s7 _ _ gwl),SqL.of g7,_,rfl,?_⟩
    cases zs with
    | cons z0 zs=>exact bu ⟨gr,_,_,rfl,s7 _ _ gd6,keep H7 s7⟩
    | nil=>
    have hno:=tG hL hkeys hsk hS hwf (List.eq_nil_of_length_eq_zero lzs)
    have hnL:aP r∉L.map aP:=by rw [<- hsk];exact iA hv
    have S7:=S6.trans s7
    have gd7:=S7 _ _ gd4
    have gs7:=S7 _ _ gs4
    have hb7:=S7 _ _ hb
    refine cH ⟨_,rfl,_,rfl,d,u,rfl,(by rw [<- hval];exact .inr (.inl ⟨kv,aP r,b,.inr ⟨o,gd7⟩,rfl,hb7,rfl⟩)),_,rfl,u,sd,r.fm,skv,Z,rfl,hR4.mono (au S7),hwf,hsz,gs7,hZ,fun H8 s8=>?_⟩
    have S8:=S7.trans s8
    have gs8:=S8 _ _ gs4
    refine ⟨_,rfl,_,rfl,sd,_,rfl,DPut.t (k:=aP r) gs8 (S8 _ _ hb) (ao (by lia)),?_⟩
    have gd9:(upd H8 sd (.dT (bp skv (aP r) (.int ((r.fm.szw Z:Nat):Int))))) d=some (.frz o (.dT kv)):=by rw [ah (Ne.symm nds)];exact S8 _ _ gd4
    have gs9:(upd H8 sd (.dT (bp skv (aP r) (.int ((r.fm.szw Z:Nat):Int))))) sd=some (.dT (bp skv (aP r) (.int ((r.fm.szw Z:Nat):Int)))):=ab
    have gm9:(upd H8 sd (.dT (bp skv (aP r) (.int ((r.fm.szw Z:Nat):Int))))) md=some (.dT mkv):=by rw [ah (Ne.symm nsm)];exact S8 _ _ gm4
    have k9:Kp d H (upd H8 sd (.dT (bp skv (aP r) (.int ((r.fm.szw Z:Nat):Int))))):=fun b u h n=>by rw [ah (af h hsd)];exact S8 _ _ (k4 _ _ h n)
    have tk9:TK H4 (upd H8 sd (.dT (bp skv (aP r) (.int ((r.fm.szw Z:Nat):Int))))):=fun b xs h=>by rw [ah (fun z=>by rw [z,gs4]at h;cases h)];exact S8 _ _ h
    generalize upd H8 sd (.dT (bp skv (aP r) (.int ((r.fm.szw Z:Nat):Int))))=H9 at gd9 gs9 gm9 k9 tk9 ⊢
    have hb9:=tk9 _ _ hb
    have hv9:aU (bp skv (aP r) (.int ((r.fm.szw Z:Nat):Int))) (aP r)=some (.int ((r.fm.szw Z:Nat):Int)):=by rw [cK,if_pos rfl]
    have hsk9:(bp skv (aP r) (.int ((r.fm.szw Z:Nat):Int))).map (·.1)=(L++[r]).map aP:=by
     rw [db (by rw [hsk];exact hnL),List.map_append,List.map_append,hsk]
     rfl
    have hS9:=uy hS hrm hnL hno (r.fm.szw Z)
    have hZ9:=wM hZ hpl (r.fm.szw Z)
    have grt: ∀ o5 o6,∃ gr' o5' o6',[some (V.ref d),some (.ref sd),some (.ref md),some (.bl true),some (.int (0+ (i:Int))),o5,o6]=[some (V.ref d),some (.ref sd),some (.ref md),some (.bl gr'),some (.int (0+ (i:Int))),o5',o6']/\H9 d=some (.frz o (.dT kv))/\StH rs kv d sd md H H9 gr':=fun o5 o6=>
     ⟨true,o5,o6,rfl,gd9,_,mkv,L++[r],_,M,.inr ⟨o,gd9⟩,gs9,gm9,k9,hsk9,hZ9,hS9,by rw [List.length_append];lia,fun e=>by cases e⟩
    refine ⟨_,rfl,_,rfl,sd,_,rfl,(by rw [<- hv9];exact DGet.t gs9 hb9),_,400,rfl,rfl,_,rfl,?_⟩
    by_cases c4:(400:Int) < ((r.fm.szw Z:Nat):Int)
    ·rw [decide_eq_true (show ((r.fm.szw Z:Nat):Int) >400 from c4)]
     exact cH ⟨_,rfl,_,rfl,bu (grt _ _)⟩
    ·rw [decide_eq_false (show ¬ ((r.fm.szw Z:Nat):Int) >400 from c4)]
     refine bu ⟨_,rfl,_,rfl,?_⟩
     cases gr with
     | true=>exact bu (grt _ _)
     | false=>
      obtain ⟨hM,hD⟩:=hgr rfl
      have hM9:=va hok hM hrm hno (by lia)
      refine cH ⟨_,rfl,_,rfl,d,u,rfl,(by rw [<- hval];exact .inr (.inl ⟨kv,aP r,b,.inr ⟨o,gd9⟩,rfl,hb9,rfl⟩)),_,rfl,u,md,r.fm,mkv,M,rfl,hR4.mono tk9,hwf,hsz,gm9,hD.mono tk9,fun u2 HA sA hA=>?_⟩
      have gmA:=sA _ _ gm9
      refine ⟨_,rfl,_,rfl,md,_,rfl,DPut.t (k:=aP r) gmA (sA _ _ hb9) (ao (by lia)),?_⟩
      have tkB:TK HA (upd HA md (.dT (bp mkv (aP r) u2))):=fun b xs h=>by rw [ah (fun z=>by rw [z,gmA]at h;cases h)];exact h
      have gdB:(upd HA md (.dT (bp mkv (aP r) u2))) d=some (.frz o (.dT kv)):=by rw [ah (Ne.symm ndm)];exact sA _ _ gd9
      have hlp:=bU mkv (aP r) u2
      refine ⟨false,_,_,rfl,gdB,_,_,L++[r],_,gH M (aE r) (r.fm.sub M),.inr ⟨o,gdB⟩,by rw [ah nsm];exact sA _ _ gs9,ab,fun b u h n=>by rw [ah (af h hmd0)];exact sA _ _ (k9 _ _ h n),hsk9,hZ9,hS9,by rw [List.length_append];show _<=L.length+1;lia,fun _=>⟨hM9,wO ((hD.mono tk9).mono ((au sA).trans tkB)) hpl (hA.mono tkB)⟩⟩
   ·rintro σ H4 ⟨gr,o5,o6,rfl,gd4,hS4⟩
    exact ⟨gr,_,o5,o6,rfl,hS4⟩
 ·rintro σ H2 ⟨gr,o4,o5,o6,rfl,skv,mkv,L,Z,M,gd2,gs2,gm2,k2,hsk,hZ,hS,hml,hgr⟩
  have lsk:skv.length=L.length:=by have:=congrArg List.length hsk;rw [List.length_map,List.length_map]at this;exact this
  refine ⟨_,rfl,sd,skv,rfl,.inl gs2,_,rfl,d,kv,rfl,gd2,_,_,rfl,rfl,_,rfl,?_⟩
  by_cases c:(skv.length:Int) < (kv.length:Int)
  ·rw [decide_eq_true c]
   refine cH ⟨_,rfl,(by show 2<=sizeLine;decide),fun p hp=>?_⟩
   have s3:=ag hp (.tup [.str "tangled",.ref md])
   exact q p md "tangled" mkv _ (k2.same s3) ab (s3 _ _ gm2) (.inl rfl)
  ·rw [decide_eq_false c]
   refine bu ⟨(by show 2<=sizeLine;decide),fun p3 hp3=>?_⟩
   have s3:=ag hp3 (.lst [.str "made",.str "great"])
   have g3:(upd H2 p3 (.lst [.str "made",.str "great"])) p3=some (.lst [.str "made",.str "great"]):=ab
   generalize upd H2 p3 (.lst [.str "made",.str "great"])=H3 at s3 g3 ⊢
   cases gr with
   | true=>
    refine ⟨_,rfl,.inr ⟨true,rfl,p3,_,1,.str "great",rfl,rfl,SqL.of g3,a8 (j:=1) rfl,_,rfl,(by show 2<=sizeLine;decide),fun p hp=>?_⟩⟩
    have s4:=ag hp (.tup [.str "great",.ref md])
    exact q p md "great" mkv _ ((k2.same s3).same s4) ab (s4 _ _ (s3 _ _ gm2)) (.inr (.inl rfl))
   | false=>
    refine ⟨_,rfl,.inr ⟨false,rfl,p3,_,0,.str "made",rfl,rfl,SqL.of g3,cz,_,rfl,(by show 2<=sizeLine;decide),fun p hp=>?_⟩⟩
    have s4:=ag hp (.tup [.str "made",.ref md])
    obtain ⟨hM,hD⟩:=hgr rfl
    obtain ⟨U,hU,hMU⟩:=vd hok hL hS hM (by lia)
    refine q p md "made" mkv _ ((k2.same s3).same s4) ab (s4 _ _ (s3 _ _ gm2)) (.inr (.inr ⟨rfl,U,uB hok hL hS (by lia),hU,fun r hrm=>?_⟩))
    have tk:TK H2 (upd H3 p (.tup [.str "made",.ref md])):=(au s3).trans (au s4)
    exact xP (hD.mono tk) (hL r hrm) (hMU r hrm)
noncomputable def StrR (H:Hp) (fr:Frm) (v:V):Prop:= ∃ U,fz fr U/\RepF H (unF U fr) v
theorem StrR.mono {H H':Hp} (t:TK H H') {fr:Frm} {v:V}:StrR H fr v->StrR H' fr v:=fun ⟨U,h1,h2⟩=>⟨U,h1,h2.mono t⟩
theorem uq {fr:Frm} {U U':KK->Fm} (h:UOk fr.rules U) (h':UOk fr.rules U'):unF U fr=unF U' fr:=by
 unfold unF
 congr 1
 exact List.map_congr_left fun r hr=>by
  unfold unR
  rw [(h.un r hr).det (h'.un r hr)]
open Classical in
noncomputable def lK (fr:Frm):KK->Fm:=if h: ∃ U,fz fr U then h.choose else fun _=>.num 0
theorem ur {fr:Frm} {U:KK->Fm} (h:fz fr U):fz fr (lK fr):=by
 have hx: ∃ U,fz fr U:=⟨U,h⟩
 unfold lK
 rw [dif_pos hx]
 exact hx.choose_spec
theorem lP {H:Hp} {fr:Frm} {v:V} (h:StrR H fr v):fz fr (lK fr)/\RepF H (unF (lK fr) fr) v:=by
 obtain ⟨U,h1,h2⟩:=h
 have:=ur h1
 exact ⟨this,by rw [uq this.un h1.un];exact h2⟩
noncomputable def gU:Sp:=fun vs H Q _=> ∃ bv bk,vs=[bv]/\RepB H bk bv/\bk.forms.length<=12/\(∀ fr∈bk.forms,RsOk fr.rules/\RsL fr.rules)/\ ∀ (p:Addr) (wd:Str) (x:V) H',Same H H'->H' p=some (.tup [.str wd,x])->
 (wd="made"->(∀ fr∈bk.forms,fz fr (lK fr))/\RepB H' (rP lK bk) x)->Q (.ref p) H'
theorem iE (k x:Str):decide (V.str k=V.str x)=decide (k=x):=by
 by_cases h:k=x
 ·subst h;rw [decide_eq_true rfl,decide_eq_true rfl]
 ·rw [decide_eq_false h,decide_eq_false fun e=>h (V.str.inj e)]
theorem iW {α β:Type} {F:α->β->Prop} {G:α->Prop}: ∀ {l:List α} {r:List β},Paired F l r->(∀ a b,F a b->G a)-> ∀ a∈l,G a
 | _,_,.nil,_,a,h=>by cases h
 | _,_,.cons x t,g,a,h=>by
  rcases List.mem_cons.mp h with rfl | h
  ·exact g _ _ x
  ·exact iW t g a h
noncomputable abbrev NSl:List Str:=["book","forms","word","form","found","made","rules","at","name","formula"]
theorem scStraightL:ay NSl ["book"] (ak fF):=fsc
theorem lh (F:Fun K "_law_straight" "_law_straight" fF f fd) (G:Gb mg)
  (GT:ar P w K mg base CX0 1 f2 fd2 ["at","word"] eL) (bT:Binds K fd2 ["at","word"] []) (kT:PySem.W.keepIn K (.ref f2)=true) (mT:mg "_law_target"=some (.ref f2))
  (GI:ar P w K mg base CX0 2 f3 fd3 ["form"] lQ) (bI:Binds K fd3 ["form"] []) (kI:PySem.W.keepIn K (.ref f3)=true) (mI:mg "_law_told_in"=some (.ref f3))
  (GS:ar P w K mg base CX0 17 f4 fd4 ["told"] gS) (bS:Binds K fd4 ["told"] []) (kS:PySem.W.keepIn K (.ref f4)=true) (mS:mg "_law_straight_told"=some (.ref f4)):
  ar P w K mg base CX0 18 f fd ["book"] gU:=by
 refine F.ok scStraightL (fun vs H Q E h=>?_) (fun cdv A outer s H vs Q E hr h=>?_)
 ·obtain ⟨bv,bk,rfl,_⟩:=h
  rfl
 obtain ⟨bv,bk,rfl,hB,hf12,hok,q⟩:=h
 have hu:=cW hr
 have hr1:=hr.mono (show 1<=17 by decide)
 have hr2:=hr.mono (show 2<=17 by decide)
 refine ⟨_,ae (am (i:=1) scStraightL.nd rfl (Or.inl rfl) (bc ad))
  (ae (am (i:=2) scStraightL.nd rfl (Or.inl rfl) aL)
  (ae (bd PassesOwn.never rfl (cN (aF aW (pv 0) ai (fun _ _=>rfl))) (av (i:=3) scStraightL.nd rfl (Or.inl rfl))
   (ae (nM (al GS hr rfl mS kS bS .nil aq (aa (al GI hr2 rfl mI kI bI .nil aq (aa (pv 3) ad)) ad)) (cP rfl (aG (av (i:=4) scStraightL.nd rfl (Or.inl rfl)) (aG (av (i:=5) scStraightL.nd rfl (Or.inl rfl)) ce))))
   (ae (bh (aC cq (pv 4) aL (aJ _)) (aj (aB (aK (aa aL (aa (aF aW (pv 3) ai (fun _ _=>rfl)) ad))))) aN)
   (ae (bh (aC cq (pv 4) aL (aJ _)) (aj (am (i:=2) scStraightL.nd rfl (Or.inl rfl) aL)) aN)
   (ae (am (i:=6) scStraightL.nd rfl (Or.inl rfl) (bc ad))
   (ae (bd PassesOwn.never rfl (cN (aF aW (pv 3) ai (fun _ _=>rfl))) (cP rfl (aG (av (i:=7) scStraightL.nd rfl (Or.inl rfl)) (aG (av (i:=8) scStraightL.nd rfl (Or.inl rfl)) (aG (av (i:=9) scStraightL.nd rfl (Or.inl rfl)) ce))))
    (aj (bH (dj PySem.F.plainAttrs_list PySem.F.slot_list_append PySem.F.type_list_append bi (pv 6) (aa (aK (aa (pv 7) (aa (pv 8) (aa (eQ hu (pv 5) (al GT hr1 rfl mT kT bT .nil aq (aa (pv 7) (aa (pv 8) ad))) (pv 9) ⟨rfl,rfl,rfl,rfl⟩) ad)))) ad)))))
   (aj (bH (dj PySem.F.plainAttrs_list PySem.F.slot_list_append PySem.F.type_list_append bi (pv 1) (aa
    (ax gf (aS dz (pv 3) ba (aZ ai)) (aK (aa (aT aM rfl G.tuple (by decide +kernel) (aa (pv 6) ad)) ad))) ad))))))))))
  (aj (aB (aK (aa (pv 2) (aa (aK (aa (aF aW (pv 0) ai (fun _ _=>rfl)) (aa (aF aW (pv 0) ai (fun _ _=>rfl)) (aa (aT aM rfl G.tuple (by decide +kernel) (aa (pv 1) ad)) ad)))) ad))))))),?_⟩
 obtain ⟨a,sa,fa,fv,rfl,ha,hSa,hfa,hF⟩:=id hB
 have lF:=hF.len
 refine ⟨(by show 0<=sizeLine;decide),fun fl hfl=>?_⟩
 have s0:=ag hfl (.lst [])
 have g0:(upd H fl (.lst [])) fl=some (.lst []):=ab
 generalize upd H fl (.lst [])=H0 at s0 g0 ⊢
 refine ⟨_,rfl,a,_,2,.ref fa,rfl,rfl,SqT.of (s0 _ _ ha),a8 (j:=2) rfl,fa,rfl,⟨fv,SqT.of (s0 _ _ hfa)⟩,?_⟩
 refine fi (xs:=fv) (fun i σ H'=>i<=fv.length/\ ∃ wd o3 o4 o5 o6 o7 o8 o9 zs,σ=[some (.ref a),some (.ref fl),some (.str wd),o3,o4,o5,o6,o7,o8,o9]/\Same H H'/\H' fl=some (.lst zs)/\zs.length=i/\(wd="made"->Paired (StrR H') (bk.forms.take i) zs))
  ⟨Nat.zero_le _,"made",none,none,none,none,none,none,none,[],rfl,s0,g0,rfl,fun _=>.nil⟩ (fun i σ H' _ h=>by obtain ⟨_,_,_,_,_,_,_,_,_,_,_,s',_⟩:=h;exact SqT.of (s' _ _ hfa)) ?_ ?_
 ·rintro i v σ H3 hv ⟨_,wd,o3,o4,o5,o6,o7,o8,o9,zs,rfl,S3,gfl3,hl3,hmade⟩
  have hil:i<fv.length:=(List.getElem?_eq_some_iff.mp hv).1
  obtain ⟨fr,hfr,hRF⟩:=aH hF hv
  obtain ⟨hrs,hrl⟩:=hok fr (List.mem_of_getElem? hfr)
  have h12:=hrs.few
  have hRF3:=hRF.mono (au S3)
  refine ⟨_,rfl,v,fr,rfl,hRF3,hrs,hrl,fun d kv H4 hd s4 gd hkv=>?_⟩
  refine ⟨d,kv,fr.rules,rfl,gd,hkv,hrs,hrl,fun p md wd' mkv H5 k5 g5 gm5 hw=>?_⟩
  have s35:Same H3 H5:=fun b u h=>k5 _ _ (s4 _ _ h) (af h hd)
  have hRF5:=hRF3.mono (au s35)
  obtain ⟨fa1,pa,ra,rv,rfl,hfa1,hpa,hra,hRr⟩:=id hRF5
  have lR:=hRr.len
  refine ⟨p,_,rfl,SqT.of g5,rfl,_,_,rfl,_,_,rfl,rfl,?_⟩
  refine ⟨_,rfl,rfl,_,rfl,?_⟩
  rw [iE]
  by_cases c1:wd'="tangled"
  ·rw [decide_eq_true c1]
   refine cH ⟨_,rfl,fa1,_,0,.str fr.name,rfl,rfl,SqT.of hfa1,cz,(by show 2<=sizeLine;decide),fun p6 hp6=>?_⟩
   exact q p6 "tangled" _ _ ((S3.trans s35).trans (ag hp6 _)) ab (fun e=>absurd e (by decide +kernel))
  rw [decide_eq_false c1]
  refine bu ⟨_,rfl,rfl,_,rfl,?_⟩
  rw [iE]
  have rest: ∀ wd2:Str,(wd2="made"->wd="made"/\wd'="made")-> ∀ (T:Prop),True:=fun _ _ _=>trivial
  obtain ⟨wd2,hw2,hgoal⟩: ∃ wd2:Str,(wd2="made"->wd="made"/\wd'="made")/\((wd'="great"/\wd2="great")\/(wd'≠"great"/\wd2=wd)):=by
   by_cases c2:wd'="great"
   ·exact ⟨"great",fun e=>absurd e (by decide +kernel),.inl ⟨c2,rfl⟩⟩
   ·refine ⟨wd,fun e=>⟨e,?_⟩,.inr ⟨c2,rfl⟩⟩
    rcases hw with h | h | ⟨h,_⟩
    ·exact absurd h c1
    ·exact absurd h c2
    ·exact h
  rcases hgoal with ⟨c2,rfl⟩ | ⟨c2,rfl⟩
  rw [decide_eq_true c2]
  refine cH ?_
  rotate_left
  rw [decide_eq_false c2]
  refine bu ?_
  all_goals
   refine ⟨(by show 0<=sizeLine;decide),fun rl hrl0=>?_⟩
   have s6:=ag hrl0 (.lst [])
   have g6:(upd H5 rl (.lst [])) rl=some (.lst []):=ab
   have nmr:md≠rl:=af gm5 hrl0
   have nfr:fl≠rl:=af (s35 _ _ gfl3) hrl0
   generalize upd H5 rl (.lst [])=H6 at s6 g6 ⊢
   refine ⟨_,rfl,fa1,_,3,.ref ra,rfl,rfl,SqT.of (s6 _ _ hfa1),a8 (j:=3) rfl,ra,rfl,⟨rv,SqT.of (s6 _ _ hra)⟩,?_⟩
   have keepT: ∀ H',Kp rl H6 H'->TK H6 H':=fun H' k b xs h=>k _ _ h fun z=>by rw [z,g6]at h;cases h
   refine fi (xs:=rv) (fun j σ H'=>j<=rv.length/\ ∃ o7 o8 o9 ws,σ=[some (.ref a),some (.ref fl),some (.str _),some (.ref fa1),some (.str wd'),some (.ref md),some (.ref rl),o7,o8,o9]/\Kp rl H6 H'/\H' rl=some (.lst ws)/\ws.length=j/\ ∀ U,(∀ r∈fr.rules,∃ u,aU mkv (aP r)=some u/\Rep H5 (U (aE r)) u)->Paired (fun r v=>RepR H' (unR U r) v) (fr.rules.take j) ws)
    ⟨Nat.zero_le _,o7,o8,o9,[],rfl,Kp.refl,g6,rfl,fun _ _=>.nil⟩ (fun j σ H' _ h=>by obtain ⟨_,_,_,_,_,_,k',_⟩:=h;exact SqT.of (keepT _ k' _ _ (s6 _ _ hra))) ?_ ?_
   ·rintro j x σ H7 hx ⟨_,o7,o8,o9,ws,rfl,k7,g7,hl7,hP7⟩
    have hjl:j<rv.length:=(List.getElem?_eq_some_iff.mp hx).1
    obtain ⟨r,hrj,a7,u7,rfl,ha7,hu7⟩:=aH hRr hx
    have ha7':=keepT _ k7 _ _ (s6 _ _ ha7)
    have gm7:=k7 _ _ (s6 _ _ gm5) nmr
    refine ⟨a7,_,rfl,SqT.of ha7',rfl,_,_,rfl,_,_,rfl,_,_,rfl,rfl,?_⟩
    refine ⟨_,rfl,.inl ⟨rfl,_,SqL.of g7⟩,_,rfl,_,rfl,_,rfl,md,rfl,.inr ⟨mkv,.inl gm7⟩,_,rfl,_,rfl,r.pl,r.word,rfl,fun t ht=>?_⟩
    have s8:=ag ht (.tup ((aP r).map kV))
    have g8:(upd H7 t (.tup ((aP r).map kV))) t=some (.tup ((aP r).map kV)):=ab
    rw [show lk r.pl r.word=aP r from rfl]
    generalize upd H7 t (.tup ((aP r).map kV))=H8 at s8 g8 ⊢
    refine ⟨_,rfl,aU mkv (aP r),DGet.t (s8 _ _ gm7) g8,(by show 3<=sizeLine;decide),fun p9 hp9=>?_⟩
    have s9:=ag hp9 (.tup [.int r.pl,.str r.word,(aU mkv (aP r)).getD u7])
    have g9:(upd H8 p9 (.tup [.int r.pl,.str r.word,(aU mkv (aP r)).getD u7])) p9=some (.tup [.int r.pl,.str r.word,(aU mkv (aP r)).getD u7]):=ab
    generalize upd H8 p9 (.tup [.int r.pl,.str r.word,(aU mkv (aP r)).getD u7])=H9 at s9 g9 ⊢
    have S79:=s8.trans s9
    have g79:=S79 _ _ g7
    refine ⟨rl,_,_,rfl,rfl,g79,ao (by lia),?_⟩
    have tkA:TK H9 (upd H9 rl (.lst (ws++[.ref p9]))):=TK.lst g79
    refine ⟨hjl,_,_,_,_,rfl,fun b u h n=>by rw [ah n];exact S79 _ _ (k7 _ _ h n),ab,by rw [List.length_append,hl7];rfl,fun U hU=>?_⟩
    rw [aY hrj]
    refine Paired.snoc (Paired.mapP (hP7 U hU) fun _ _ h=>RepR.mono ((au S79).trans tkA) h) ?_
    obtain ⟨u,h1,h2⟩:=hU r (List.mem_of_getElem? hrj)
    rw [h1]at g9
    exact ⟨p9,u,rfl,tkA _ _ g9,h2.mono (((au s6).trans (keepT _ k7)).trans ((au S79).trans tkA))⟩
   ·rintro σ H7 ⟨_,o7,o8,o9,ws,rfl,k7,g7,hl7,hP7⟩
    rw [<- lR,List.take_length]at hP7
    have tk57:TK H5 H7:=(au s6).trans (keepT _ k7)
    have gfl7:=k7 _ _ (s6 _ _ (s35 _ _ gfl3)) nfr
    refine ⟨_,rfl,.inl ⟨rfl,_,SqL.of gfl7⟩,_,rfl,3,rfl,fa1,_,rfl,tk57 _ _ hfa1,fun p8 H8 s8 g8=>?_⟩
    have g8:H8 p8=some (.tup [.str fr.name,.str fr.own.name,.ref pa]):=g8
    refine ⟨_,rfl,rl,_,rfl,.inl ⟨SqL.of (s8 _ _ g7),fun p9 hp9=>?_⟩⟩
    have s9:=ag hp9 (.tup ws)
    have g9:(upd H8 p9 (.tup ws)) p9=some (.tup ws):=ab
    generalize upd H8 p9 (.tup ws)=H9 at s9 g9 ⊢
    refine ⟨(by show 1<=sizeLine;decide),fun p10 hp10=>?_⟩
    have s10:=ag hp10 (.tup [.ref p9])
    have g10:(upd H9 p10 (.tup [.ref p9])) p10=some (.tup [.ref p9]):=ab
    generalize upd H9 p10 (.tup [.ref p9])=H10 at s10 g10 ⊢
    refine ⟨p8,p10,_,_,rfl,rfl,s10 _ _ (s9 _ _ g8),g10,(by show 3+1<=sizeLine;decide),fun p11 H11 s11 g11=>?_⟩
    have S711:Same H7 H11:=fun b u h=>s11 _ _ (s10 _ _ (s9 _ _ (s8 _ _ h)))
    have gfl11:=S711 _ _ gfl7
    refine ⟨fl,_,_,rfl,rfl,gfl11,ao (by lia),?_⟩
    have tkA:TK H11 (upd H11 fl (.lst (zs++[.ref p11]))):=TK.lst gfl11
    have tkE:TK H3 (upd H11 fl (.lst (zs++[.ref p11]))):=(au s35).trans (tk57.trans ((au S711).trans tkA))
    refine ⟨hil,_,_,_,_,_,_,_,_,_,rfl,fun b u h=>?_,ab,by rw [List.length_append,hl3];rfl,fun e=>?_⟩
    ·rw [ah (af h hfl)]
     refine S711 _ _ (k7 _ _ (s6 _ _ (s35 _ _ (S3 _ _ h))) fun z=>?_)
     rw [z]at h
     have:=s35 _ _ (S3 _ _ h)
     rw [hrl0]at this
     cases this
    ·obtain ⟨e1,e2⟩:=hw2 e
     rcases hw with h | h | ⟨_,U,hA,hU,hM⟩
     ·exact absurd h c1
     ·rw [e2]at h;exact absurd h (by decide +kernel)
     rw [aY hfr]
     refine Paired.snoc (Paired.mapP (hmade e1) fun _ _ h=>h.mono tkE) ⟨U,⟨hrs,hA,hU⟩,p11,pa,p9,ws,rfl,tkA _ _ g11,tkA _ _ (S711 _ _ (tk57 _ _ hpa)),tkA _ _ (s11 _ _ (s10 _ _ g9)),?_⟩
     exact cg (g:=unR U) (Paired.mapP (hP7 U hM) fun _ _ h=>RepR.mono ((au S711).trans tkA) h)
 ·rintro σ H3 ⟨_,wd,o3,o4,o5,o6,o7,o8,o9,zs,rfl,S3,gfl3,hl3,hmade⟩
  have ha3:=S3 _ _ ha
  refine ⟨_,rfl,_,rfl,a,_,0,.int bk.wheel,rfl,rfl,SqT.of ha3,cz,_,rfl,a,_,1,.ref sa,rfl,rfl,SqT.of ha3,a8 (j:=1) rfl,_,rfl,fl,_,rfl,.inl ⟨SqL.of gfl3,fun p4 hp4=>?_⟩⟩
  have s4:=ag hp4 (.tup zs)
  have g4:(upd H3 p4 (.tup zs)) p4=some (.tup zs):=ab
  generalize upd H3 p4 (.tup zs)=H4 at s4 g4 ⊢
  refine ⟨(by show 3<=sizeLine;decide),fun p5 hp5=>?_⟩
  have s5:=ag hp5 (.tup [.int bk.wheel,.ref sa,.ref p4])
  have g5:(upd H4 p5 (.tup [.int bk.wheel,.ref sa,.ref p4])) p5=some (.tup [.int bk.wheel,.ref sa,.ref p4]):=ab
  generalize upd H4 p5 (.tup [.int bk.wheel,.ref sa,.ref p4])=H5 at s5 g5 ⊢
  refine ⟨(by show 2<=sizeLine;decide),fun p6 hp6=>?_⟩
  have s6:=ag hp6 (.tup [.str wd,.ref p5])
  have S36:=(s4.trans s5).trans s6
  refine q p6 wd (.ref p5) _ (S3.trans S36) ab fun e=>?_
  have hP:=hmade e
  rw [<- lF,List.take_length]at hP
  refine ⟨iW hP fun _ _ h=>(lP h).1,p5,sa,p4,zs,rfl,s6 _ _ g5,hSa.mono (au (S3.trans S36)),s6 _ _ (s5 _ _ g4),?_⟩
  exact cg (g:=fun fr=>unF (lK fr) fr) (Paired.mapP hP fun _ _ h=>RepF.mono (au S36) (lP h).2)
theorem vB {cdv:Value} {A:Around} {outer:List Env} {s:Shared} {H:Hp} {Q:VK} {E:XK} {sc:Addr} {ns:List Int} {st:Int} {few:Bool} (G:Gb mg)
  (GD:ar P w K mg base CX0 1 g gd ["tape","many"] cA) (bD:Binds K gd ["tape","many"] []) (kD:PySem.W.keepIn K (.ref g)=true) (mD:mg "_law_digit"=some (.ref g))
  (GF:ar P w K mg base CX0 5 f2 fd2 ["tape","sorts","name","own","parts","mode"] fU) (bF:Binds K fd2 ["tape","sorts","name","own","parts","mode"] []) (kF:PySem.W.keepIn K (.ref f2)=true) (mF:mg "_law_form"=some (.ref f2))
  (GT:ar P w K mg base CX0 2 f3 fd3 ["script","k"] (kb K)) (bT:Binds K fd3 ["script","k"] []) (kT:PySem.W.keepIn K (.ref f3)=true) (mT:mg "_law_tape"=some (.ref f3))
  (hS:SqL K H sc (ns.map V.int)) (hns:ns.length<=63) (hst0:0<=st) (hst1:st<900) (q: ∀ v bk H',RepB H' bk v->oJ bk->Same H H'->Q v H')
  (hr:Room 5 (eU CX0 P w K mg base hV "_law_book" (ak eC) f cdv A outer s H E).nox.A):
  ∃ t,PSs (eU CX0 P w K mg base hV "_law_book" (ak eC) f cdv A outer s H E).nox ((cp eC).drop 8) t/\
   ∀ (hd sa nl fl:Addr) (wh mode gr mo:Int) (ss:List Srt) (ws:List Str) (H5:Hp),da ss->NamesAre 10 ws->2<=wh->wh<=10^30->(mode=0\/mode=1\/mode=2)->0<=mo->mo<=7->H fl=none->nl≠fl->H fl=none->
    Same H H5->SrtsAt H5 sa ss->H5 nl=some (.lst (ws.map V.str))->H5 fl=some (.lst [])->
    t {nx:=fun _ H'=>Q .non H',rt:=Q} [some (.ref sc),some (.int st),some (.bl few),some (.ref hd),some (.int wh),some (.int mode),some (.int gr),some (.int mo),some (.ref sa),some (.ref nl),some (.ref fl),none,none,none,none,none] H5:=by
 have hr1:=hr.mono (show 1<=5 by decide)
 have hr2:=hr.mono (show 2<=5 by decide)
 obtain ⟨t1,ht1,hread1⟩:=uh (cdv:=cdv) (A:=A) (outer:=outer) (s:=s) (H:=H) (H0:=H) (E:=E) (f:=f) G GD bD kD mD GF bF kF mF hr
 refine ⟨_,ae (bd PassesOwn.never rfl (bq rfl G.range (aa (aw (jX rfl) rfl G.min (by decide +kernel) (aa ai (aa (ax be (aw aA rfl G.len PySem.boot_len (aa (pv 8) ad)) (pv 7)) ad))) ad)) (av (i:=11) scBook.nd rfl (Or.inl rfl))
   (ae (am (i:=12) scBook.nd rfl (Or.inr rfl) (al GT hr2 rfl mT kT bT .nil aq (aa (pv 0) (aa (ax be (ax be (pv 1) ai) (pv 11)) ad))))
   (ae (am (i:=13) scBook.nd rfl (Or.inl rfl) (aF aW (aF aW (pv 8) (ax cG (pv 11) (aw aA rfl G.len PySem.boot_len (aa (pv 8) ad))) (fun _ _=>rfl)) ai (fun _ _=>rfl)))
   (ae (bh (aC xy (pv 11) (aw aA rfl G.len PySem.boot_len (aa (pv 8) ad)) (aJ _))
    (aj (am (i:=13) scBook.nd rfl (Or.inl rfl) (aF aW (aF aW (pv 8) (al GD hr1 rfl mD kD bD .nil aq (aa (pv 12) (aa (aw aA rfl G.len PySem.boot_len (aa (pv 8) ad)) ad))) (fun _ _=>rfl)) ai (fun _ _=>rfl)))) aN) ht1))))
  (aj (aB (aK (aa (pv 4) (aa (pv 8) (aa (aT aM rfl G.tuple (by decide +kernel) (aa (pv 10) ad)) ad)))))),?_⟩
 intro hd sa nl fl wh mode gr mo ss ws H5 hok hN hw2 hw3 hmode hmo0 hmo7 hfl0 hnf _ S5 hsa gnl gfl
 obtain ⟨nLen,nNd,nWd⟩:=hN.ok (by decide)
 obtain ⟨xs,gsa,hR⟩:=hsa
 have lxs:=hR.len
 have l1:=hok.1
 have l4:=hok.2.1
 obtain ⟨n,en,hn1,hn2⟩: ∃ n:Int,(if (xs.length:Int) +mo<10 then (xs.length:Int) +mo else 10)=n/\(xs.length:Int)<=n/\n<=10:=⟨_,rfl,by split <;> lia,by split <;> lia⟩
 refine ⟨_,rfl,sa,xs,rfl,.inr (SqT.of gsa),_,rfl,_,_,rfl,rfl,_,_,rfl,?_⟩
 rw [en]
 refine ⟨n,rfl,by lia,by lia,?_⟩
 refine cR (fun i σ H'=>mY H sc hd sa nl fl st wh mode gr mo few ss ws i σ H')
  ⟨none,none,none,none,none,[],[],rfl,S5,⟨xs,gsa,hR⟩,gnl,gfl,.nil,rfl,rfl,fun _ h=>(by cases h),fun k h=>(by lia),fun fr h=>(by cases h)⟩ ?_ ?_
 ·intro i σ H6 hi hB
  have hB':=hB
  obtain ⟨o11,o12,o13,o14,o15,fv,frs,rfl,S6,hsa6,gnl6,gfl6,hF6,_⟩:=hB'
  obtain ⟨xs6,gsa6,hR6⟩:=hsa6
  have lx6:=hR6.len
  refine ⟨_,rfl,_,rfl,_,_,rfl,rfl,_,rfl,_,_,rfl,rfl,sc,ns,_,rfl,SqL.keep hS (fun oo h=>S6 _ _ h),hns,by lia,by lia,fun tp t0 htp=>?_⟩
  have s7:=ag htp (.lst [.int t0])
  have tt7:Tp (upd H6 tp (.lst [.int t0])) tp:=⟨t0,ab⟩
  generalize upd H6 tp (.lst [.int t0])=H7 at s7 tt7 ⊢
  have gsa7:=s7 _ _ gsa6
  have hR7:=hR6.mono (au s7)
  have hm0:0<=(0+ (i:Int)) % (xs6.length:Int):=Int.emod_nonneg _ (by lia)
  have hm1:(0+ (i:Int)) % (xs6.length:Int) <xs6.length:=Int.emod_lt_of_pos _ (by lia)
  obtain ⟨o,a,b,c,ho,eat,ha⟩:=kg hR7 hm0 hm1
  refine ⟨_,rfl,_,rfl,_,rfl,sa,xs6,rfl,.inr (SqT.of gsa7),_,_,rfl,rfl,(by show (0:Int) <xs6.length;lia),sa,xs6,_,.ref a,rfl,rfl,SqT.of gsa7,eat,a,_,0,_,rfl,rfl,SqT.of ha,cz,?_⟩
  refine ⟨_,rfl,_,rfl,sa,xs6,rfl,.inr (SqT.of gsa7),_,_,rfl,rfl,_,rfl,?_⟩
  refine c8 (fun c=>?_) (fun c=>?_)
  ·have c':(xs6.length:Int)<=0+ (i:Int):=of_decide_eq_true c
   refine ⟨_,rfl,_,rfl,_,rfl,sa,xs6,rfl,.inr (SqT.of gsa7),tp,_,rfl,tt7,by lia,by lia,fun d t1 hd0 hd1=>?_⟩
   have k8:Kp tp H7 (upd H7 tp (.lst [.int t1])):=Kp.tape
   have tt8:Tp (upd H7 tp (.lst [.int t1])) tp:=⟨t1,ab⟩
   generalize upd H7 tp (.lst [.int t1])=H8 at k8 tt8 ⊢
   have tk8:=k8.tk tt7
   obtain ⟨o2,a2,b2,c2,ho2,eat2,ha2⟩:=kg hR7 hd0 hd1
   refine ⟨sa,xs6,d,.ref a2,rfl,rfl,SqT.of (tk8 _ _ gsa7),eat2,a2,_,0,_,rfl,rfl,SqT.of (tk8 _ _ ha2),cz,?_⟩
   exact hread1 sc hd sa nl fl st wh mode gr mo few ss ws hok nLen hfl0 hnf _ i _ H6 H8 tp o2 _ _ hB (by lia) htp (fun y oo h=>k8 y oo (s7 y oo h) (af h htp)) tt8 (List.mem_of_getElem? ho2) (fun h=>by lia) (fun σ' H' h=>h)
  ·have c': ¬ (xs6.length:Int)<=0+ (i:Int):=fun e=>c (decide_eq_true e)
   have ei:((0+ (i:Int)) % (xs6.length:Int)).toNat=i:=by
    rw [Int.emod_eq_of_lt (by lia) (by lia)]
    lia
   rw [ei]at ho
   exact hread1 sc hd sa nl fl st wh mode gr mo few ss ws hok nLen hfl0 hnf _ i _ H6 H7 tp o _ _ hB (by lia) htp s7 tt7 (List.mem_of_getElem? ho) (fun _=>ho) (fun σ' H' h=>h)
 ·rintro σ H6 ⟨o11,o12,o13,o14,o15,fv,frs,rfl,S6,hsa6,gnl6,gfl6,hF6,lfr,hnm,hfok,hown,hnil⟩
  refine ⟨_,rfl,_,rfl,_,rfl,fl,fv,rfl,.inl ⟨SqL.of gfl6,fun fa hfa=>?_⟩⟩
  have s7:=ag hfa (.tup fv)
  have g7:(upd H6 fa (.tup fv)) fa=some (.tup fv):=ab
  generalize upd H6 fa (.tup fv)=H7 at s7 g7 ⊢
  refine ⟨(by show 3<=sizeLine;decide),fun pb hpb=>?_⟩
  have s8:=ag hpb (.tup [.int wh,.ref sa,.ref fa])
  have tk68:=au (s7.trans s8)
  refine q (.ref pb) ⟨wh,ss,frs⟩ _ ⟨pb,sa,fa,fv,rfl,ab,hsa6.mono tk68,s8 _ _ g7,hF6.mono tk68⟩ ?_ (S6.trans (s7.trans s8))
  refine ⟨hok,⟨hw2,hw3⟩,?_,?_,?_,?_,⟨mode,hmode,hfok⟩,?_,hnil⟩
  ·show frs.length<=10
   lia
  ·show ss.length<=frs.length
   lia
  ·show (frs.map Frm.name).Nodup
   rw [hnm]
   exact nNd.sublist (List.take_sublist _ _)
  ·intro fr hfr
   refine nWd _ (List.mem_of_mem_take (i:=n.toNat) ?_)
   rw [<- hnm]
   exact List.mem_map_of_mem hfr
  ·intro k hk
   exact hown k (by have:k<ss.length:=hk;lia) hk
theorem uY (F:Fun K "_law_book" "_law_book" eC f fd) (G:Gb mg)
  (GD:ar P w K mg base CX0 1 g gd ["tape","many"] cA) (bD:Binds K gd ["tape","many"] []) (kD:PySem.W.keepIn K (.ref g)=true) (mD:mg "_law_digit"=some (.ref g))
  (GF:ar P w K mg base CX0 5 f2 fd2 ["tape","sorts","name","own","parts","mode"] fU) (bF:Binds K fd2 ["tape","sorts","name","own","parts","mode"] []) (kF:PySem.W.keepIn K (.ref f2)=true) (mF:mg "_law_form"=some (.ref f2))
  (GT:ar P w K mg base CX0 2 f3 fd3 ["script","k"] (kb K)) (bT:Binds K fd3 ["script","k"] []) (kT:PySem.W.keepIn K (.ref f3)=true) (mT:mg "_law_tape"=some (.ref f3))
  (GS:ar P w K mg base CX0 3 f4 fd4 ["tape","few"] oQ) (bS:Binds K fd4 ["tape","few"] []) (kS:PySem.W.keepIn K (.ref f4)=true) (mS:mg "_law_sorts"=some (.ref f4))
  (GN:ar P w K mg base CX0 2 f5 fd5 ["tape","many"] fS) (bN:Binds K fd5 ["tape","many"] []) (kN:PySem.W.keepIn K (.ref f5)=true) (mN:mg "_law_names"=some (.ref f5)):
  ar P w K mg base CX0 6 f fd ["script","start","few"] (rX K):=by
 refine F.ok scBook (fun vs H Q E h=>?_) (fun cdv A outer s H vs Q E hr h=>?_)
 ·obtain ⟨sc,ns,st,few,rfl,_⟩:=h
  rfl
 obtain ⟨sc,ns,st,few,rfl,hS,hns,hst0,hst1,q⟩:=h
 have hr1:=hr.mono (show 1<=5 by decide)
 have hr2:=hr.mono (show 2<=5 by decide)
 have hr3:=hr.mono (show 3<=5 by decide)
 obtain ⟨t,ht,hread⟩:=vB (cdv:=cdv) (A:=A) (outer:=outer) (s:=s) (H:=H) (Q:=Q) (E:=E) (f:=f) (few:=few) G GD bD kD mD GF bF kF mF GT bT kT mT hS hns hst0 hst1 q hr
 refine ⟨_,ae (am (i:=3) scBook.nd rfl (Or.inl rfl) (al GT hr2 rfl mT kT bT .nil aq (pac (pv 0) (pac (pv 1) ad))))
  (ae (am (i:=4) scBook.nd rfl (Or.inl rfl) (aF aX (bc (pac ai (pac ai (pac ai (pac ai (pac (ax wp ai ai) (pac (ax be ai (al GD hr1 rfl mD kD bD .nil aq (pac (pv 3) (pac ai ad)))) ad)))))))
   (al GD hr1 rfl mD kD bD .nil aq (pac (pv 3) (pac ai ad))) (fun _ _=>rfl)))
  (ae (am (i:=5) scBook.nd rfl (Or.inl rfl) (aF aX (bc (pac ai (pac ai (pac ai (pac ai (pac ai ad)))))) (al GD hr1 rfl mD kD bD .nil aq (pac (pv 3) (pac ai ad))) (fun _ _=>rfl)))
  (ae (am (i:=6) scBook.nd rfl (Or.inl rfl) (al GD hr1 rfl mD kD bD .nil aq (pac (pv 3) (pac ai ad))))
  (ae (am (i:=7) scBook.nd rfl (Or.inl rfl) (al GD hr1 rfl mD kD bD .nil aq (pac (pv 3) (pac (aF aX (bc (pac ai (pac ai (pac ai ad)))) (al GD hr1 rfl mD kD bD .nil aq (pac (pv 3) (pac ai ad))) (fun _ _=>rfl)) ad))))
  (ae (am (i:=8) scBook.nd rfl (Or.inr rfl) (al GS hr3 rfl mS kS bS .nil aq (pac (pv 3) (pac (pv 2) ad))))
  (ae (am (i:=9) scBook.nd rfl (Or.inl rfl) (al GN hr2 rfl mN kN bN .nil aq (pac (pv 3) (pac ai ad))))
  (ae (am (i:=10) scBook.nd rfl (Or.inl rfl) (bc ad)) ht))))))),?_⟩
 refine ⟨_,rfl,_,rfl,sc,ns,st,rfl,hS,hns,hst0,by lia,fun hd t0 hhd=>?_⟩
 have S1:=ag hhd (.lst [.int t0])
 have tt1:Tp (upd H hd (.lst [.int t0])) hd:=⟨t0,ab⟩
 generalize upd H hd (.lst [.int t0])=H1 at S1 tt1 ⊢
 refine ⟨10,30,rfl,rfl,⟨by decide,by decide,by decide +kernel⟩,?_⟩
 rw [show ((fun (i j:Int)=>V.int (i^j.toNat)) 10 30)=V.int (10^ (30:Int).toNat)from rfl]
 refine ⟨_,rfl,hd,1000,rfl,tt1,by decide,by decide,fun z t1 hz0 hz1=>⟨2,z,rfl,rfl,?_⟩⟩
 rw [show ((fun (i j:Int)=>V.int (i+j)) 2 z)=V.int (2+z)from rfl]
 have k2:Kp hd H1 (upd H1 hd (.lst [.int t1])):=Kp.tape
 have tt2:Tp (upd H1 hd (.lst [.int t1])) hd:=⟨t1,ab⟩
 generalize upd H1 hd (.lst [.int t1])=H2 at k2 tt2 ⊢
 refine ⟨(by show 6<=sizeLine;decide),fun p hp=>?_⟩
 have np:=dw tt2 hp
 refine ⟨_,rfl,hd,6,rfl,tt2.new hp,by decide,by decide,fun d t2 hd0 hd1=>?_⟩
 obtain ⟨wh,ewh,hw2,hw3⟩:=rk hz0 hz1 hd0 hd1
 refine ⟨p,_,d,.int wh,rfl,rfl,SqL.of (by rw [ah np];exact ab),ewh,?_⟩
 have k3:Kp hd H1 (upd (upd H2 p (.lst [.int 2,.int 7,.int 10,.int 97,.int (10^ (30:Int).toNat),.int (2+z)])) hd (.lst [.int t2])):=(k2.new hp).trans Kp.tape
 have tt3:Tp (upd (upd H2 p (.lst [.int 2,.int 7,.int 10,.int 97,.int (10^ (30:Int).toNat),.int (2+z)])) hd (.lst [.int t2])) hd:=⟨t2,ab⟩
 generalize upd (upd H2 p (.lst [.int 2,.int 7,.int 10,.int 97,.int (10^ (30:Int).toNat),.int (2+z)])) hd (.lst [.int t2])=H3 at k3 tt3 ⊢
 refine ⟨(by show 5<=sizeLine;decide),fun p hp=>?_⟩
 have np:=dw tt3 hp
 refine ⟨_,rfl,hd,5,rfl,tt3.new hp,by decide,by decide,fun d t2 hd0 hd1=>?_⟩
 obtain ⟨mode,emo,hmode⟩:=u9 hd0 hd1
 refine ⟨p,_,d,.int mode,rfl,rfl,SqL.of (by rw [ah np];exact ab),emo,?_⟩
 have k4:Kp hd H1 (upd (upd H3 p (.lst [.int 0,.int 0,.int 1,.int 2,.int 2])) hd (.lst [.int t2])):=(k3.new hp).trans Kp.tape
 have tt4:Tp (upd (upd H3 p (.lst [.int 0,.int 0,.int 1,.int 2,.int 2])) hd (.lst [.int t2])) hd:=⟨t2,ab⟩
 generalize upd (upd H3 p (.lst [.int 0,.int 0,.int 1,.int 2,.int 2])) hd (.lst [.int t2])=H4 at k4 tt4 ⊢
 refine ⟨_,rfl,hd,2,rfl,tt4,by decide,by decide,fun gr t3 _ _=>?_⟩
 have k5:Kp hd H1 (upd H4 hd (.lst [.int t3])):=k4.trans Kp.tape
 have tt5:Tp (upd H4 hd (.lst [.int t3])) hd:=⟨t3,ab⟩
 generalize upd H4 hd (.lst [.int t3])=H5 at k5 tt5 ⊢
 refine ⟨_,rfl,(by show 3<=sizeLine;decide),fun p hp=>?_⟩
 have np:=dw tt5 hp
 refine ⟨_,rfl,hd,3,rfl,tt5.new hp,by decide,by decide,fun d t4 hd0 hd1=>?_⟩
 obtain ⟨mm,emm,hmm3,hmm7⟩:=u8 hd0 hd1
 refine ⟨p,_,d,.int mm,rfl,rfl,SqL.of (by rw [ah np];exact ab),emm,?_⟩
 have k6:Kp hd H1 (upd (upd H5 p (.lst [.int 3,.int 4,.int 7])) hd (.lst [.int t4])):=(k5.new hp).trans Kp.tape
 have tt6:Tp (upd (upd H5 p (.lst [.int 3,.int 4,.int 7])) hd (.lst [.int t4])) hd:=⟨t4,ab⟩
 generalize upd (upd H5 p (.lst [.int 3,.int 4,.int 7])) hd (.lst [.int t4])=H6 at k6 tt6 ⊢
 refine ⟨hd,mm,rfl,tt6,by lia,by lia,fun mo t5 hmo0 hmo1=>?_⟩
 have k7:Kp hd H1 (upd H6 hd (.lst [.int t5])):=k6.trans Kp.tape
 have tt7:Tp (upd H6 hd (.lst [.int t5])) hd:=⟨t5,ab⟩
 generalize upd H6 hd (.lst [.int t5])=H7 at k7 tt7 ⊢
 refine ⟨_,rfl,_,rfl,hd,few,rfl,tt7,fun sa ss xs H8 gsa hR hok k8 tt8=>?_⟩
 refine ⟨_,rfl,hd,10,rfl,tt8,by decide,by decide,fun nl ws H9 gnl hnl hN hnh k9 tt9=>?_⟩
 refine ⟨(by show 0<=sizeLine;decide),fun fl hfl=>?_⟩
 have k19:Kp hd H1 H9:=k7.trans (k8.trans k9)
 have S9:Same H H9:=fun b oo h=>k19 b oo (S1 b oo h) (af h hhd)
 have s10:=ag hfl (.lst [])
 exact hread hd sa nl fl wh mode gr mo ss ws _ hok hN hw2 hw3 hmode hmo0 (by lia) (S9.free hfl) (af gnl hfl) (S9.free hfl) (S9.trans s10) (SrtsAt.mono (au s10) (SrtsAt.mono (k9.tk tt8) ⟨xs,gsa,hR⟩)) (s10 _ _ gnl) ab
theorem jv: ∀ {qs:List Srt} {k:Int},(∀ s∈qs,s.ok)->(cL k qs).Nodup
 | [],_,_=>List.nodup_nil
 | q::r,k,h=>by
  have hq:=h q List.mem_cons_self
  have hd:q.downs.Nodup:=(List.nodup_append.mp hq.1).1
  unfold cL
  rw [List.nodup_append]
  refine ⟨i5 hd fun a _ b _ e=>(Prod.mk.inj e).2,jv fun s hs=>h s (List.mem_cons_of_mem _ hs),fun a ha b hb e=>?_⟩
  obtain ⟨x,_,rfl⟩:=List.mem_map.mp ha
  have:=(dW hb).1
  rw [<- e]at this
  have:k+1<=k:=this
  lia
theorem rG {o:Srt} {qs:List Srt} {t:Int×Str} (h:t∈cQ o qs):(t.1= -1/\t.2∈o.ups)\/(0<=t.1/\ ∃ q∈qs,t.2∈q.downs):=by
 unfold cQ at h
 rcases List.mem_append.mp h with h | h
 ·obtain ⟨x,hx,rfl⟩:=List.mem_map.mp h
  exact .inl ⟨rfl,hx⟩
 ·obtain ⟨h1,_,h2⟩:=dW h
  exact .inr ⟨h1,h2⟩
theorem ut {o:Srt} {qs:List Srt} (ho:o.ok) (h: ∀ s∈qs,s.ok):(cQ o qs).Nodup:=by
 have hu:o.ups.Nodup:=(List.nodup_append.mp ho.1).2.1
 unfold cQ
 rw [List.nodup_append]
 refine ⟨i5 hu fun a _ b _ e=>(Prod.mk.inj e).2,jv h,fun a ha b hb e=>?_⟩
 obtain ⟨x,_,rfl⟩:=List.mem_map.mp ha
 have:=(dW hb).1
 rw [<- e]at this
 have:(0:Int)<= -1:=this
 lia
noncomputable def shS (x:Str):Prop:=x.length<=1000
theorem c6 {x:Str} (h:cJ x=true):shS x:=by
 have:=bw h
 unfold shS
 lia
structure FrC (fr:Frm):Prop where
 rs:RsOk fr.rules
 rl:RsL fr.rules
 nm:shS fr.name
 ow:shS fr.own.name
 pn: ∀ q∈fr.parts,shS q.name
 pl:fr.parts.length<=3
 wd: ∀ r∈fr.rules,shS r.word
structure SrC (s:Srt):Prop where
 nm:shS s.name
 dn: ∀ x∈s.downs,shS x
 up: ∀ x∈s.ups,shS x
 dl:s.downs.length<=3
 ul:s.ups.length<=3
structure BkC (bk:Bk):Prop where
 fl:bk.forms.length<=12
 sl:bk.sorts.length<=4
 so: ∀ s∈bk.sorts,SrC s
 fo: ∀ fr∈bk.forms,FrC fr
theorem rR {s:Srt} (h:s.ok) (hn:shS s.name):SrC s:=⟨hn,fun x hx=>c6 (h.2.1 x (List.mem_append_left _ hx)),fun x hx=>c6 (h.2.1 x (List.mem_append_right _ hx)),h.2.2.1,h.2.2.2.1⟩
theorem tW {ss:List Srt} {fr:Frm} (hok: ∀ s∈ss,s.ok) (hnm: ∀ s∈ss,shS s.name) (ho:fr.own∈ss) (hq: ∀ q∈fr.parts,q∈ss) (hl:fr.parts.length<=3) (hn:shS fr.name)
  (ht:fr.rules.map (fun r=>(r.pl,r.word))=cQ fr.own fr.parts) (hf: ∀ r∈fr.rules,r.fm.wf/\r.fm.size<=15):FrC fr:=by
 have hlen:fr.rules.length=(cQ fr.own fr.parts).length:=by rw [<- ht,List.length_map]
 have hmem: ∀ r∈fr.rules,(r.pl,r.word)∈cQ fr.own fr.parts:=fun r hr=>by rw [<- ht];exact List.mem_map.mpr ⟨r,hr,rfl⟩
 refine ⟨⟨?_,?_,hf⟩,fun r hr=>?_,hn,hnm _ ho,fun q hq'=>hnm _ (hq q hq'),hl,fun r hr=>?_⟩
 ·rw [hlen];exact eG hok ho hq hl
 ·have e:fr.rules.map aE=(cQ fr.own fr.parts).map fun t=>([.inl t.1,.inr t.2]:KK):=by
   rw [<- ht,List.map_map]
   rfl
  rw [e]
  exact i5 (ut (hok _ ho) fun s hs=>hok _ (hq s hs)) fun a _ b _ e=>by
   have h1:=Sum.inl.inj (List.cons.inj e).1
   have h2:=Sum.inr.inj (List.cons.inj (List.cons.inj e).2).1
   exact Prod.ext h1 h2
 ·rcases rG (hmem r hr)with ⟨h,_⟩ | ⟨h,_⟩
  ·exact .inl h
  ·exact .inr h
 ·rcases rG (hmem r hr)with ⟨_,h⟩ | ⟨_,q,h1,h⟩
  ·exact c6 ((hok _ ho).2.1 _ (List.mem_append_right _ h))
  ·exact c6 ((hok _ (hq q h1)).2.1 _ (List.mem_append_left _ h))
theorem ui {bk:Bk} (h:oJ bk):BkC bk:=by
 obtain ⟨mode,_,hfo⟩:=h.fo
 have hsh: ∀ s∈bk.sorts,shS s.name:=fun s hs=>c6 (h.so.2.2.2.1 s hs)
 refine ⟨Nat.le_trans h.few (by decide),h.so.2.1,fun s hs=>rR (h.so.2.2.2.2 s hs) (hsh s hs),fun fr hfr=>?_⟩
 obtain ⟨h1,h2,h3,h4,h5⟩:=hfo fr hfr
 exact tW h.so.2.2.2.2 hsh h1 h2 h3 (c6 (h.wd fr hfr)) h4 fun r hr=>by
  obtain ⟨j,hj⟩:=List.getElem?_of_mem hr
  exact ⟨(h5 j r hj).1.wf,(h5 j r hj).2⟩
theorem ud {d:Int} (h0:0<=d) (h1:d<3): ∃ m:Int,atI [V.int 2,.int 3,.int 8] d=some (.int m)/\2<=m/\m<=8:=by
 have h5:d=0\/d=1\/d=2:=by lia
 rcases h5 with h | h | h <;> subst h <;> exact ⟨_,rfl,by decide,by decide⟩
theorem qO {f:Fm} (h:fL f):f.wf/\f.size=1/\dL f:=by
 cases f with
 | num n=>exact h.elim
 | own x=>exact ⟨h,rfl,trivial⟩
 | part k x=>exact ⟨h,rfl,trivial⟩
 | bin op a b=>exact h.elim
 | whn a b c=>exact h.elim
theorem v8 {H:Hp} {p:Addr} {t:Int×Str} (h:H p=some (.tup ((lk t.1 t.2).map kV))):Rep H (tgF t) (.ref p):=by
 unfold tgF
 unfold lk at h
 by_cases c:t.1<0
 ·rw [if_pos c]at h ⊢
  exact ⟨p,rfl,h⟩
 ·rw [if_neg c]at h ⊢
  exact ⟨p,rfl,h⟩
noncomputable def oW (K:PySem.W.Frag):Sp:=fun vs H Q _=> ∃ (sc:Addr) (ns:List Int) (st:Int),vs=[.ref sc,.int st]/\SqL K H sc (ns.map V.int)/\ns.length<=63/\0<=st/\st<900/\ ∀ v bk H',RepB H' bk v->BkC bk->Same H H'->Q v H'
noncomputable abbrev NCh:List Str:=["script","start","tape","words","sort","parts","rules","last","at","word","formula","j"]
theorem scChain:ay NCh ["script","start"] (ak gE):=fsc
theorem oD {cdv:Value} {A:Around} {outer:List Env} {s:Shared} {H0:Hp} {E:XK} (G:Gb mg)
  (GD:ar P w K mg base CX0 1 g gd ["tape","many"] cA) (bD:Binds K gd ["tape","many"] []) (kD:PySem.W.keepIn K (.ref g)=true) (mD:mg "_law_digit"=some (.ref g))
  (GA:ar P w K mg base CX0 1 f2 fd2 ["sorts","own","parts"] dC) (bA:Binds K fd2 ["sorts","own","parts"] []) (kA:PySem.W.keepIn K (.ref f2)=true) (mA:mg "_law_targets"=some (.ref f2))
  (GT:ar P w K mg base CX0 1 f3 fd3 ["at","word"] eL) (bT:Binds K fd3 ["at","word"] []) (kT:PySem.W.keepIn K (.ref f3)=true) (mT:mg "_law_target"=some (.ref f3))
  (hr:Room 2 (eU CX0 P w K mg base NCh "_law_chain" (ak gE) f cdv A outer s H0 E).nox.A):
  ∃ t,PSs (eU CX0 P w K mg base NCh "_law_chain" (ak gE) f cdv A outer s H0 E).nox ((cp gE).drop 4) t/\
   ∀ (D:eV) (v0 v1:V) (tp wl so pp:Addr) (ws:List Str) (sr:Srt) (n:Nat) (H5:Hp),Tp H5 tp->H5 wl=some (.lst (ws.map V.str))->wl≠tp->ws.length=6->(∀ x∈ws,cJ x=true)->RepS H5 sr (.ref so)->sr.name="s"->sr.ok->n<=3->H5 pp=some (.tup (List.replicate n (.str "s")))->
    (∀ v bk H',RepB H' bk v->BkC bk->Kp tp H5 H'->D.rt v H')->
    t D [some v0,some v1,some (.ref tp),some (.ref wl),some (.ref so),some (.ref pp),none,none,none,none,none,none] H5:=by
 have hr1:=hr.mono (show 1<=2 by decide)
 refine ⟨_,ae (am (i:=6) scChain.nd rfl (Or.inl rfl) (bc ad))
  (ae (am (i:=7) scChain.nd rfl (Or.inl rfl) (aK (pac aL (pac (aF aX (pv 3) ai (fun _ _=>rfl)) ad))))
  (ae (bd PassesOwn.never rfl (cO (al GA hr1 rfl mA kA bA .nil aq (pac (aK (pac (pv 4) ad)) (pac aL (pac (pv 5) ad))))) (cP rfl (aG (av (i:=8) scChain.nd rfl (Or.inl rfl)) (aG (av (i:=9) scChain.nd rfl (Or.inl rfl)) ce)))
   (ae (am (i:=10) scChain.nd rfl (Or.inl rfl) (pv 7))
   (ae (bd PassesOwn.never rfl (bq rfl G.range (aa (al GD hr1 rfl mD kD bD .nil aq (pac (pv 2) (pac (aF aX (bc (pac ai (pac ai (pac ai ad)))) (al GD hr1 rfl mD kD bD .nil aq (pac (pv 2) (pac ai ad))) (fun _ _=>rfl)) ad))) ad)) (av (i:=11) scChain.nd rfl (Or.inl rfl))
    (aj (am (i:=10) scChain.nd rfl (Or.inl rfl) (aK (pac aL (pac (pv 10) (pac (pv 7) ad)))))))
   (ae (bH (dj PySem.F.plainAttrs_list PySem.F.slot_list_append PySem.F.type_list_append bi (pv 6) (aa (aK (pac (pv 8) (pac (pv 9) (pac (pv 10) ad)))) ad)))
   (aj (am (i:=7) scChain.nd rfl (Or.inl rfl) (al GT hr1 rfl mT kT bT .nil aq (aa (pv 8) (aa (pv 9) ad)))))))))
  (aj (aB (aK (pac ai (pac (aK (pac (pv 4) ad)) (pac (aK (pac (aK (pac aL (pac aL (pac (pv 5) (pac (aT aM rfl G.tuple (by decide +kernel) (aa (pv 6) ad)) ad))))) ad)) ad)))))))),?_⟩
 intro D v0 v1 tp wl so pp ws sr n H5 tt5 hwl hwne hwlen hww hRs hsn hsok hn hpp q
 have tkK: ∀ {Ha Hb:Hp},Tp Ha tp->Kp tp Ha Hb->TK Ha Hb:=fun t k=>k.tk t
 refine ⟨(by show 0<=sizeLine;decide),fun rl hrl=>?_⟩
 have nrt:=dw tt5 hrl
 have s6:=ag hrl (.lst [])
 have g6:(upd H5 rl (.lst [])) rl=some (.lst []):=ab
 generalize upd H5 rl (.lst [])=H6 at s6 g6 ⊢
 obtain ⟨w0,ew0⟩: ∃ w0,ws[0]? =some w0:=⟨ws[0]'(by lia),List.getElem?_eq_getElem (by lia)⟩
 refine ⟨_,rfl,wl,_,0,.str w0,rfl,rfl,SqL.of (s6 _ _ hwl),a8 (j:=0) (by rw [List.getElem?_map,ew0];rfl),(by show 2<=sizeLine;decide),fun l0 hl0=>?_⟩
 have s7:=ag hl0 (.tup [.str "own",.str w0])
 have g7:(upd H6 l0 (.tup [.str "own",.str w0])) l0=some (.tup [.str "own",.str w0]):=ab
 generalize upd H6 l0 (.tup [.str "own",.str w0])=H7 at s7 g7 ⊢
 refine ⟨_,rfl,(by show 1<=sizeLine;decide),fun sa hsa=>?_⟩
 have s8:=ag hsa (.tup [.ref so])
 have g8:(upd H7 sa (.tup [.ref so])) sa=some (.tup [.ref so]):=ab
 generalize upd H7 sa (.tup [.ref so])=H8 at s8 g8 ⊢
 have S58:Same H5 H8:=fun b u h=>s8 _ _ (s7 _ _ (s6 _ _ h))
 have hss:da [sr]:=⟨Nat.le_refl _,(by show 1<=4;decide),List.pairwise_singleton _ _,fun x hx=>by rw [List.mem_singleton.mp hx,hsn];decide +kernel,fun x hx=>by rw [List.mem_singleton.mp hx];exact hsok⟩
 have hps: ∀ q∈List.replicate n sr,q∈[sr]:=fun q hq=>by rw [(List.mem_replicate.mp hq).2];exact List.mem_singleton.mpr rfl
 have hpp8:H8 pp=some (.tup ((List.replicate n sr).map fun q=>V.str (Srt.name q))):=by rw [List.map_replicate,hsn];exact S58 _ _ hpp
 refine ⟨_,rfl,sa,pp,[sr],sr,List.replicate n sr,by rw [hsn];rfl,⟨_,g8,.cons (hRs.mono (au S58)) .nil⟩,hss,List.mem_singleton.mpr rfl,hpp8,hps,by rw [List.length_replicate];exact hn,fun tl zs H9 htl s9 gtl hzs=>?_⟩
 have lzs:=hzs.len
 have l12:(cQ sr (List.replicate n sr)).length<=12:=eG hss.2.2.2.2 (List.mem_singleton.mpr rfl) hps (by rw [List.length_replicate];exact hn)
 have hlf: ∀ t∈cQ sr (List.replicate n sr),fL (tgF t):=fun t ht=>lM hss.2.2.2.2 (List.mem_singleton.mpr rfl) hps (by rw [List.length_replicate];exact hn) ht
 rw [List.length_map]at lzs
 have S59:=S58.trans s9
 have tt9:=tt5.same S59
 have grl9:H9 rl=some (.lst []):=s9 _ _ (s8 _ _ (s7 _ _ g6))
 have gl09:=s9 _ _ (s8 _ _ g7)
 have ntt:tl≠tp:=dw (tt5.same S58) htl
 have ntr:tl≠rl:=fun z=>by rw [z,s8 _ _ (s7 _ _ g6)]at htl;cases htl
 refine ⟨tl,rfl,⟨_,SqL.of gtl⟩,?_⟩
 refine cY (xs:=zs) (fun i σ H'=>i<=zs.length/\ ∃ lv lf o8 o9 o10 o11 rws rls,σ=[some v0,some v1,some (.ref tp),some (.ref wl),some (.ref so),some (.ref pp),some (.ref rl),some lv,o8,o9,o10,o11]/\(∀ b u,H9 b=some u->b≠tp->b≠rl->H' b=some u)/\Tp H' tp/\H' rl=some (.lst rws)/\RepRs H' rls rws/\rls.map (fun r=>(r.pl,r.word))=(cQ sr (List.replicate n sr)).take i/\(∀ r∈rls,r.fm.wf/\r.fm.size<=15)/\Rep H' lf lv/\fL lf)
  ⟨Nat.zero_le _,.ref l0,.own w0,none,none,none,none,[],[],rfl,fun b u h _ _=>h,tt9,grl9,.nil,rfl,fun r h=>(by cases h),⟨l0,rfl,gl09⟩,hww w0 (List.mem_of_getElem? ew0)⟩ (fun i σ H' _ h=>by obtain ⟨_,_,_,_,_,_,_,_,_,_,k',_⟩:=h;exact SqL.of (k' _ _ gtl ntt ntr)) ?_ ?_
 ·rintro i x σ H10 hx ⟨_,lv,lf,o8,o9,o10,o11,rws,rls,rfl,k10,tt10,grl10,hRr,hmap,hfm,hRl,hll⟩
  have hil:i<zs.length:=(List.getElem?_eq_some_iff.mp hx).1
  obtain ⟨tv,htv,at0,rfl,hat0⟩:=aH hzs hx
  rw [List.getElem?_map]at htv
  obtain ⟨t,ht,rfl⟩:=Option.map_eq_some_iff.mp htv
  have htm:=List.mem_of_getElem? ht
  have tk910:TK H9 H10:=fun b xs h=>k10 _ _ h (fun z=>by obtain ⟨t',ht'⟩:=tt9;rw [z,ht']at h;cases h) (fun z=>by rw [z,grl9]at h;cases h)
  have hat:=tk910 _ _ hat0
  have lrl:rls.length=i:=by have:=congrArg List.length hmap;rw [List.length_map,List.length_take]at this;lia
  have lrw:rws.length=i:=by have:=hRr.len;lia
  refine ⟨at0,_,rfl,SqT.of hat,rfl,_,_,rfl,_,_,rfl,rfl,?_⟩
  refine ⟨_,rfl,_,rfl,(by show 3<=sizeLine;decide),fun p1 hp1=>?_⟩
  have np1:=dw tt10 hp1
  refine ⟨_,rfl,tp,3,rfl,tt10.new hp1,by decide,by decide,fun d t1 hd0 hd1=>?_⟩
  obtain ⟨m,em,hm0,hm1⟩:=ud hd0 hd1
  refine ⟨p1,_,d,.int m,rfl,rfl,SqL.of (by rw [ah np1];exact ab),em,?_⟩
  have k11:Kp tp H10 (upd (upd H10 p1 (.lst [.int 2,.int 3,.int 8])) tp (.lst [.int t1])):=(Kp.refl.new hp1).trans Kp.tape
  have tt11:Tp (upd (upd H10 p1 (.lst [.int 2,.int 3,.int 8])) tp (.lst [.int t1])) tp:=⟨t1,ab⟩
  generalize upd (upd H10 p1 (.lst [.int 2,.int 3,.int 8])) tp (.lst [.int t1])=H11 at k11 tt11 ⊢
  refine ⟨tp,m,rfl,tt11,by lia,by lia,fun c t2 hc0 hc1=>?_⟩
  have k12:Kp tp H10 (upd H11 tp (.lst [.int t2])):=k11.trans Kp.tape
  have tt12:Tp (upd H11 tp (.lst [.int t2])) tp:=⟨t2,ab⟩
  generalize upd H11 tp (.lst [.int t2])=H12 at k12 tt12 ⊢
  have tk12:TK H10 H12:=k12.tk tt10
  have hRl12:=hRl.mono tk12
  obtain ⟨lwf,lsz,_⟩:=qO hll
  refine ⟨c,rfl,by lia,by lia,?_⟩
  refine cR (fun j σ H'=> ∃ fv fm o11,σ=[some v0,some v1,some (.ref tp),some (.ref wl),some (.ref so),some (.ref pp),some (.ref rl),some lv,some (.int t.1),some (.str t.2),some fv,o11]/\Same H12 H'/\Rep H' fm fv/\fm.wf/\fm.size=1+2*j) ⟨lv,lf,_,rfl,Same.refl _,hRl12,lwf,lsz⟩ ?_ ?_
  ·rintro j σ H13 hj ⟨fv,fm,o11,rfl,s13,hRf,hwf,hsz⟩
   refine ⟨_,rfl,_,rfl,(by show 3<=sizeLine;decide),fun p2 hp2=>?_⟩
   have s14:=ag hp2 (.tup [.str "plus",fv,lv])
   have g14:(upd H13 p2 (.tup [.str "plus",fv,lv])) p2=some (.tup [.str "plus",fv,lv]):=ab
   generalize upd H13 p2 (.tup [.str "plus",fv,lv])=H14 at s14 g14 ⊢
   refine ⟨_,.bin "plus" fm lf,_,rfl,s13.trans s14,⟨p2,fv,lv,rfl,g14,hRf.mono (au s14),hRl12.mono (au (s13.trans s14))⟩,⟨by decide +kernel,hwf,lwf⟩,?_⟩
   show fm.size+lf.size+1=_
   lia
  ·rintro σ H13 ⟨fv,fm,o11,rfl,s13,hRf,hwf,hsz⟩
   have K13:Kp tp H10 H13:=k12.same s13
   have tk13:TK H10 H13:=K13.tk tt10
   have grl13:=K13 _ _ grl10 nrt
   refine ⟨_,rfl,.inl ⟨rfl,_,SqL.of grl13⟩,_,rfl,_,rfl,_,rfl,(by show 3<=sizeLine;decide),fun p3 hp3=>?_⟩
   have s15:=ag hp3 (.tup [.int t.1,.str t.2,fv])
   have g15:(upd H13 p3 (.tup [.int t.1,.str t.2,fv])) p3=some (.tup [.int t.1,.str t.2,fv]):=ab
   generalize upd H13 p3 (.tup [.int t.1,.str t.2,fv])=H15 at s15 g15 ⊢
   have grl15:=s15 _ _ grl13
   refine ⟨rl,_,_,rfl,rfl,grl15,ao (by lia),?_⟩
   have tk16:TK H15 (upd H15 rl (.lst (rws++[.ref p3]))):=TK.lst grl15
   have g16:(upd H15 rl (.lst (rws++[.ref p3]))) rl=some (.lst (rws++[.ref p3])):=ab
   have k16: ∀ b u,H9 b=some u->b≠tp->b≠rl->(upd H15 rl (.lst (rws++[.ref p3]))) b=some u:=fun b u h n1 n2=>by rw [ah n2];exact s15 _ _ (K13 _ _ (k10 _ _ h n1 n2) n1)
   have tt16:Tp (upd H15 rl (.lst (rws++[.ref p3]))) tp:=by
    obtain ⟨t',ht'⟩:=tt12.same (s13.trans s15)
    exact ⟨t',by rw [ah (Ne.symm nrt)];exact ht'⟩
   have tkE:TK H13 (upd H15 rl (.lst (rws++[.ref p3]))):=(au s15).trans tk16
   have gt16:=tk16 _ _ g15
   generalize upd H15 rl (.lst (rws++[.ref p3]))=H16 at tk16 g16 k16 tt16 tkE gt16 ⊢
   refine ⟨_,rfl,_,rfl,t.1,t.2,rfl,fun p4 hp4=>?_⟩
   have s17:=ag hp4 (.tup ((lk t.1 t.2).map kV))
   have g17:(upd H16 p4 (.tup ((lk t.1 t.2).map kV))) p4=some (.tup ((lk t.1 t.2).map kV)):=ab
   generalize upd H16 p4 (.tup ((lk t.1 t.2).map kV))=H17 at s17 g17 ⊢
   have tkF:=tkE.trans (au s17)
   refine ⟨hil,.ref p4,tgF t,_,_,_,_,_,rls++[⟨t.1,t.2,fm⟩],rfl,fun b u h n1 n2=>s17 _ _ (k16 _ _ h n1 n2),tt16.same s17,s17 _ _ g16,?_,?_,?_,v8 g17,hlf t htm⟩
   ·exact Paired.snoc (Paired.mapP hRr fun _ _ h=>RepR.mono (tk13.trans tkF) h) ⟨p3,fv,rfl,s17 _ _ gt16,hRf.mono tkF⟩
   ·rw [aY ht,List.map_append,hmap]
    rfl
   ·intro r hr
    rcases List.mem_append.mp hr with h | h
    ·exact hfm r h
    ·rw [List.mem_singleton.mp h]
     exact ⟨hwf,by show fm.size<=15;lia⟩
 ·rintro σ H10 ⟨_,lv,lf,o8,o9,o10,o11,rws,rls,rfl,k10,tt10,grl10,hRr,hmap,hfm,hRl,hll⟩
  rw [List.take_of_length_le (by lia)]at hmap
  have tk910:TK H9 H10:=fun b xs h=>k10 _ _ h (fun z=>by obtain ⟨t',ht'⟩:=tt9;rw [z,ht']at h;cases h) (fun z=>by rw [z,grl9]at h;cases h)
  have tk510:TK H5 H10:=(au S59).trans tk910
  refine ⟨_,rfl,(by show 1<=sizeLine;decide),fun q1 hq1=>?_⟩
  have s11:=ag hq1 (.tup [.ref so])
  have g11:(upd H10 q1 (.tup [.ref so])) q1=some (.tup [.ref so]):=ab
  generalize upd H10 q1 (.tup [.ref so])=H11 at s11 g11 ⊢
  refine ⟨_,rfl,_,rfl,rl,_,rfl,.inl ⟨SqL.of (s11 _ _ grl10),fun q2 hq2=>?_⟩⟩
  have s12:=ag hq2 (.tup rws)
  have g12:(upd H11 q2 (.tup rws)) q2=some (.tup rws):=ab
  generalize upd H11 q2 (.tup rws)=H12 at s12 g12 ⊢
  refine ⟨(by show 4<=sizeLine;decide),fun q3 hq3=>?_⟩
  have s13:=ag hq3 (.tup [.str "f",.str "s",.ref pp,.ref q2])
  have g13:(upd H12 q3 (.tup [.str "f",.str "s",.ref pp,.ref q2])) q3=some (.tup [.str "f",.str "s",.ref pp,.ref q2]):=ab
  generalize upd H12 q3 (.tup [.str "f",.str "s",.ref pp,.ref q2])=H13 at s13 g13 ⊢
  refine ⟨(by show 1<=sizeLine;decide),fun q4 hq4=>?_⟩
  have s14:=ag hq4 (.tup [.ref q3])
  have g14:(upd H13 q4 (.tup [.ref q3])) q4=some (.tup [.ref q3]):=ab
  generalize upd H13 q4 (.tup [.ref q3])=H14 at s14 g14 ⊢
  refine ⟨(by show 3<=sizeLine;decide),fun q5 hq5=>?_⟩
  have s15:=ag hq5 (.tup [.int 7,.ref q1,.ref q4])
  have g15:(upd H14 q5 (.tup [.int 7,.ref q1,.ref q4])) q5=some (.tup [.int 7,.ref q1,.ref q4]):=ab
  generalize upd H14 q5 (.tup [.int 7,.ref q1,.ref q4])=H15 at s15 g15 ⊢
  have S15:Same H10 H15:=fun b u h=>s15 _ _ (s14 _ _ (s13 _ _ (s12 _ _ (s11 _ _ h))))
  have tk15:=tk510.trans (au S15)
  refine q (.ref q5) ⟨7,[sr],[⟨"f",sr,List.replicate n sr,rls⟩]⟩ H15 ⟨q5,q1,q4,_,rfl,g15,⟨_,s15 _ _ (s14 _ _ (s13 _ _ (s12 _ _ g11))),.cons (hRs.mono tk15) .nil⟩,s15 _ _ g14,.cons ⟨q3,pp,q2,rws,rfl,?_,?_,s15 _ _ (s14 _ _ (s13 _ _ g12)),?_⟩ .nil⟩ ⟨(by show 1<=12;decide),(by show 1<=4;decide),fun x hx=>?_,fun fr hfr=>?_⟩ ?_
  ·show H15 q3=some (.tup [.str "f",.str sr.name,.ref pp,.ref q2])
   rw [hsn]
   exact s15 _ _ (s14 _ _ g13)
  ·show H15 pp=some (.tup (cF (List.replicate n sr)))
   have e:cF (List.replicate n sr)=List.replicate n (.str "s"):=by unfold cF;rw [List.map_replicate,hsn]
   rw [e]
   exact tk15 _ _ hpp
  ·exact Paired.mapP hRr fun _ _ h=>RepR.mono (au S15) h
  ·rw [List.mem_singleton.mp hx]
   exact rR hsok (by rw [hsn];exact c6 (by decide +kernel))
  ·rw [List.mem_singleton.mp hfr]
   exact tW (ss:=[sr]) hss.2.2.2.2 (fun x hx=>by rw [List.mem_singleton.mp hx,hsn];exact c6 (by decide +kernel)) (List.mem_singleton.mpr rfl) hps (by show (List.replicate n sr).length<=3;rw [List.length_replicate];exact hn) (show shS "f" from c6 (by decide +kernel)) hmap hfm
  ·intro b u h hb
   exact S15 _ _ (k10 _ _ (S59 _ _ h) hb fun z=>by rw [z,hrl]at h;cases h)
theorem tF (F:Fun K "_law_chain" "_law_chain" gE f fd) (G:Gb mg)
  (GD:ar P w K mg base CX0 1 g gd ["tape","many"] cA) (bD:Binds K gd ["tape","many"] []) (kD:PySem.W.keepIn K (.ref g)=true) (mD:mg "_law_digit"=some (.ref g))
  (GA:ar P w K mg base CX0 1 f2 fd2 ["sorts","own","parts"] dC) (bA:Binds K fd2 ["sorts","own","parts"] []) (kA:PySem.W.keepIn K (.ref f2)=true) (mA:mg "_law_targets"=some (.ref f2))
  (GT:ar P w K mg base CX0 1 f3 fd3 ["at","word"] eL) (bT:Binds K fd3 ["at","word"] []) (kT:PySem.W.keepIn K (.ref f3)=true) (mT:mg "_law_target"=some (.ref f3))
  (GP:ar P w K mg base CX0 2 f4 fd4 ["script","k"] (kb K)) (bP:Binds K fd4 ["script","k"] []) (kP:PySem.W.keepIn K (.ref f4)=true) (mP:mg "_law_tape"=some (.ref f4))
  (GN:ar P w K mg base CX0 2 f5 fd5 ["tape","many"] fS) (bN:Binds K fd5 ["tape","many"] []) (kN:PySem.W.keepIn K (.ref f5)=true) (mN:mg "_law_names"=some (.ref f5)):
  ar P w K mg base CX0 3 f fd ["script","start"] (oW K):=by
 refine F.ok scChain (fun vs H Q E h=>?_) (fun cdv A outer s H vs Q E hr h=>?_)
 ·obtain ⟨sc,ns,st,rfl,_⟩:=h
  rfl
 obtain ⟨sc,ns,st,rfl,hS,hns,hst0,hst1,q⟩:=h
 have hr1:=hr.mono (show 1<=2 by decide)
 obtain ⟨t,ht,hread⟩:=oD (f:=f) (cdv:=cdv) (A:=A) (outer:=outer) (s:=s) (H0:=H) (E:=E) G GD bD kD mD GA bA kA mA GT bT kT mT hr
 refine ⟨_,ae (am (i:=2) scChain.nd rfl (Or.inl rfl) (al GP hr rfl mP kP bP .nil aq (pac (pv 0) (pac (pv 1) ad))))
  (ae (am (i:=3) scChain.nd rfl (Or.inl rfl) (al GN hr rfl mN kN bN .nil aq (pac (pv 2) (pac ai ad))))
  (ae (am (i:=4) scChain.nd rfl (Or.inl rfl) (aK (pac aL
    (pac (aT aM rfl G.tuple (by decide +kernel) (aa (aS cB (pv 3) ba (aZ ai)) ad))
    (pac (aT aM rfl G.tuple (by decide +kernel) (aa (aS cB (pv 3) (aZ ai) (aZ (ax be ai (al GD hr1 rfl mD kD bD .nil aq (pac (pv 2) (pac ai ad)))))) ad)) ad)))))
  (ae (am (i:=5) scChain.nd rfl (Or.inl rfl) (ax uS (aK (pac aL ad)) (al GD hr1 rfl mD kD bD .nil aq (pac (pv 2) (pac ai ad))))) ht))),?_⟩
 refine ⟨_,rfl,_,rfl,sc,ns,st,rfl,hS,hns,hst0,by lia,fun tp t0 htp=>?_⟩
 have S1:=ag htp (.lst [.int t0])
 have tt1:Tp (upd H tp (.lst [.int t0])) tp:=⟨t0,ab⟩
 generalize upd H tp (.lst [.int t0])=H1 at S1 tt1 ⊢
 refine ⟨_,rfl,tp,6,rfl,tt1,by decide,by decide,fun wl ws H2 hwl hwlen hW hwne k2 tt2=>?_⟩
 obtain ⟨wLen,wNd,wWd⟩:=hW.ok (by decide)
 have wLen6:ws.length=6:=wLen
 have lw:(ws.map V.str).length=6:=by rw [List.length_map];exact wLen6
 refine ⟨_,rfl,3,rfl,wl,_,rfl,SqL.of hwl,fun p3 hp3=>?_⟩
 rw [dR (ws.map V.str) (by decide:(0:Int)<=3) (by rw [lw];decide),<- List.map_take]
 have s3:=ag hp3 (.lst ((ws.take (3:Int).toNat).map V.str))
 have g3:(upd H2 p3 (.lst ((ws.take (3:Int).toNat).map V.str))) p3=some (.lst ((ws.take 3).map V.str)):=ab
 generalize upd H2 p3 (.lst ((ws.take (3:Int).toNat).map V.str))=H3 at s3 g3 ⊢
 refine ⟨p3,_,rfl,.inl ⟨SqL.of g3,fun p4 hp4=>?_⟩⟩
 have s4:=ag hp4 (.tup ((ws.take 3).map V.str))
 have g4:(upd H3 p4 (.tup ((ws.take 3).map V.str))) p4=some (.tup ((ws.take 3).map V.str)):=ab
 generalize upd H3 p4 (.tup ((ws.take 3).map V.str))=H4 at s4 g4 ⊢
 have S24:=s3.trans s4
 have tt4:=tt2.same S24
 refine ⟨_,rfl,3,rfl,_,rfl,tp,4,rfl,tt4,by decide,by decide,fun u t5 hu0 hu1=>?_⟩
 have k5:Kp tp H4 (upd H4 tp (.lst [.int t5])):=Kp.tape
 have tt5:Tp (upd H4 tp (.lst [.int t5])) tp:=⟨t5,ab⟩
 generalize upd H4 tp (.lst [.int t5])=H5 at k5 tt5 ⊢
 have hwl5:=k5 _ _ (S24 _ _ hwl) hwne
 refine ⟨3,u,rfl,rfl,3+u,rfl,wl,_,rfl,SqL.of hwl5,fun p6 hp6=>?_⟩
 have ecm:cZ (ws.map V.str) (some 3) (some (3+u))=((ws.drop 3).take u.toNat).map V.str:=by
  have:=pN (ws.map V.str) (a:=3) (b:=u.toNat) (by rw [lw];lia)
  rw [show ((3:Nat):Int)=3 from rfl,show ((u.toNat:Nat):Int)=u by lia]at this
  rw [this,List.map_take,List.map_drop]
 rw [ecm]
 have s6:=ag hp6 (.lst (((ws.drop 3).take u.toNat).map V.str))
 have g6:(upd H5 p6 (.lst (((ws.drop 3).take u.toNat).map V.str))) p6=some (.lst (((ws.drop 3).take u.toNat).map V.str)):=ab
 generalize upd H5 p6 (.lst (((ws.drop 3).take u.toNat).map V.str))=H6 at s6 g6 ⊢
 refine ⟨p6,_,rfl,.inl ⟨SqL.of g6,fun p7 hp7=>?_⟩⟩
 have s7:=ag hp7 (.tup (((ws.drop 3).take u.toNat).map V.str))
 have g7:(upd H6 p7 (.tup (((ws.drop 3).take u.toNat).map V.str))) p7=some (.tup (((ws.drop 3).take u.toNat).map V.str)):=ab
 generalize upd H6 p7 (.tup (((ws.drop 3).take u.toNat).map V.str))=H7 at s7 g7 ⊢
 refine ⟨(by show 3<=sizeLine;decide),fun so hso=>?_⟩
 have s8:=ag hso (.tup [.str "s",.ref p4,.ref p7])
 have g8:(upd H7 so (.tup [.str "s",.ref p4,.ref p7])) so=some (.tup [.str "s",.ref p4,.ref p7]):=ab
 generalize upd H7 so (.tup [.str "s",.ref p4,.ref p7])=H8 at s8 g8 ⊢
 have S58:Same H5 H8:=fun b u h=>s8 _ _ (s7 _ _ (s6 _ _ h))
 have hok:=jt wNd wWd wLen6 0 3 u.toNat (by lia) (by lia) (by lia) "s"
 have e0:ws.drop 0++ws.take 0=ws:=by rw [List.drop_zero,List.take_zero,List.append_nil]
 rw [e0]at hok
 have tt8:=tt5.same S58
 have hR8:RepS H8 ⟨"s",ws.take 3,(ws.drop 3).take u.toNat⟩ (.ref so):=⟨so,p4,p7,rfl,g8,S58 _ _ (k5 _ _ g4 fun z=>by obtain ⟨t',ht'⟩:=tt4;rw [z,ht']at g4;cases g4),s8 _ _ g7⟩
 refine ⟨(by show 1<=sizeLine;decide),fun p9 hp9=>?_⟩
 have s9:=ag hp9 (.tup [.str "s"])
 have g9:(upd H8 p9 (.tup [.str "s"])) p9=some (.tup [.str "s"]):=ab
 generalize upd H8 p9 (.tup [.str "s"])=H9 at s9 g9 ⊢
 have tt9:=tt8.same s9
 refine ⟨_,rfl,tp,4,rfl,tt9,by decide,by decide,fun n t10 hn0 hn1=>?_⟩
 have k10:Kp tp H9 (upd H9 tp (.lst [.int t10])):=Kp.tape
 have tt10:Tp (upd H9 tp (.lst [.int t10])) tp:=⟨t10,ab⟩
 generalize upd H9 tp (.lst [.int t10])=H10 at k10 tt10 ⊢
 have S59:=S58.trans s9
 have tk10:TK H9 H10:=k10.tk tt9
 have hR10:=(hR8.mono (au s9)).mono tk10
 have hwl10:=k10 _ _ (S59 _ _ hwl5) hwne
 have K10:Kp tp H1 H10:=(((k2.same S24).trans k5).same S59).trans k10
 refine ⟨p9,.str "s",n,rfl,rfl,SqT.of (tk10 _ _ g9),by lia,fun e=>?_,fun p11 hp11 hne=>?_⟩
 ·subst e
  exact hread _ _ _ tp wl so p9 ws _ 1 H10 tt10 hwl10 hwne wLen6 wWd hR10 rfl hok (by decide) (tk10 _ _ g9) fun v bk H' hB hC k'=>q v bk H' hB hC fun b u h=>(K10.trans k') _ _ (S1 _ _ h) (af h htp)
 ·have s11:=ag hp11 (.tup (List.replicate n.toNat (.str "s")))
  exact hread _ _ _ tp wl so p11 ws _ n.toNat _ (tt10.same s11) (s11 _ _ hwl10) hwne wLen6 wWd (hR10.mono (au s11)) rfl hok (by lia) ab fun v bk H' hB hC k'=>q v bk H' hB hC fun b u h=>((K10.same s11).trans k') _ _ (S1 _ _ h) (af h htp)
theorem si:ay ["found"] ["found"] (ak kz):=fsc
theorem qE (F:Fun K "_law_whole" "_law_whole" kz f fd) (G:Gb mg):ar P w K mg base CX0 1 f fd ["found"] ka:=by
 refine F.ok si (fun vs H Q E h=>?_) (fun cdv A outer s H vs Q E hr h=>?_)
 ·obtain ⟨v,rfl,_⟩:=h
  rfl
 obtain ⟨v,rfl,hS,q⟩:=h
 refine ⟨_,aj (aB (iV (aw cy rfl G.isi (by decide +kernel) (aa (pv 0) (aa (cD (v:=.ty "int") rfl G.int (by decide +kernel) rfl) ad)))
  (iU (wo (aw cy rfl G.isi (by decide +kernel) (aa (pv 0) (aa (cD (v:=.ty "bool") rfl G.bool (by decide +kernel) rfl) ad))))))),?_⟩
 have e:=vm hS
 refine ⟨_,rfl,v,"int",rfl,hS,by simp,_,rfl,?_⟩
 refine c8 (fun c=>?_) (fun c=>?_)
 ·rw [if_pos c]at e
  refine ⟨_,rfl,v,"bool",rfl,hS,by simp,_,rfl,?_⟩
  exact qb q e.symm
 ·rw [if_neg c]at e
  exact qb q e.symm
noncomputable def SameV (H:Hp):Nat->V->V->Prop
 | 0,_,_=>False
 | n+1,v,u=>(∃ x:Str,v=.str x/\u=.str x/\x.length<=1000)\/(∃ i:Int,v=.int i/\u=.int i)\/
  ∃ (c:Bool) (a b:Addr) (xs ys:List V),v=.ref a/\u=.ref b/\H a=some (dZ c xs)/\H b=some (dZ c ys)/\xs.length<=1000/\Paired (SameV H n) xs ys
theorem SameV.mono {H H':Hp} (s:Same H H'): ∀ {n:Nat} {v u:V},SameV H n v u->SameV H' n v u
 | 0,_,_,h=>h
 | n+1,_,_,h=>by
  rcases h with h | h | ⟨c,a,b,xs,ys,e1,e2,h1,h2,hl,hp⟩
  ·exact .inl h
  ·exact .inr (.inl h)
  ·exact .inr (.inr ⟨c,a,b,xs,ys,e1,e2,s _ _ h1,s _ _ h2,hl,Paired.mapP hp fun _ _ h=>SameV.mono s h⟩)
noncomputable def gC (n:Nat):Sp:=fun vs H Q _=> ∃ v u,vs=[v,u]/\SameV H n v u/\ ∀ H',Same H H'->Q (.bl true) H'
theorem pF {H:Hp} {c:Bool} {a:Addr} {xs:List V} (h:H a=some (dZ c xs)):isV "tuple" H (.ref a)=c/\isV "list" H (.ref a)= !c/\isV "bool" H (.ref a)=false:=by
 cases c with
 | true=>
  have h':H a=some (.tup xs):=h
  simp only [isV,h']
  exact ⟨rfl,rfl,rfl⟩
 | false=>
  have h':H a=some (.lst xs):=h
  simp only [isV,h']
  exact ⟨rfl,rfl,rfl⟩
theorem kl {H:Hp} {c:Bool} {a:Addr} {xs:List V} (h:H a=some (dZ c xs)):Sh H (.ref a):=by
 cases c with
 | true=>exact .inr (.inl ⟨xs,h⟩)
 | false=>exact .inl ⟨xs,h⟩
theorem vP {H:Hp} {c:Bool} {a:Addr} {xs:List V} (h:H a=some (dZ c xs)):TL H (.ref a) true:=by
 cases c with
 | true=>exact .tup (show H a=some (.tup xs)from h)
 | false=>exact .lst (show H a=some (.lst xs)from h)
theorem rS {K:PySem.W.Frag} {H:Hp} {c:Bool} {a:Addr} {xs:List V} (h:H a=some (dZ c xs)):SqL K H a xs\/SqT K H a xs:=by
 cases c with
 | true=>exact .inr (SqT.of h)
 | false=>exact .inl (SqL.of h)
theorem v3:ay ["found","due"] ["found","due"] (ak lV):=fsc
theorem sU {n:Nat} (F:Fun K "_law_same" "_law_same" lV f fd) (G:Gb mg) (hlist:mg "list"=none) (hzip:mg "zip"=none)
  (GS:ar P w K mg base CX0 (n+2) f fd ["found","due"] (gC n)) (bS:Binds K fd ["found","due"] []) (mS:mg "_law_same"=some (.ref f))
  (GW:ar P w K mg base CX0 1 f2 fd2 ["found"] ka) (bW:Binds K fd2 ["found"] []) (kW:PySem.W.keepIn K (.ref f2)=true) (mW:mg "_law_whole"=some (.ref f2)):
  ar P w K mg base CX0 (n+3) f fd ["found","due"] (gC (n+1)):=by
 refine F.ok v3 (fun vs H Q E h=>?_) (fun cdv A outer s H vs Q E hr h=>?_)
 ·obtain ⟨v,u,rfl,_⟩:=h
  rfl
 obtain ⟨v,u,rfl,hS,q⟩:=h
 have hr1:=hr.mono (show 1<=n+2 by lia)
 refine ⟨_,ae (bh (fI (aw qX rfl G.isi (by decide +kernel) (aa (pv 1) (aa (aK (aa (cD (v:=.ty "tuple") rfl G.tuple (by decide +kernel) rfl) (aa (cD (v:=.ty "list") rfl hlist (by decide +kernel) rfl) ad))) ad))))
   (ae (bh (PW.pt (oY (aC pe (aw cy rfl G.isi (by decide +kernel) (aa (pv 1) (aa (cD (v:=.ty "tuple") rfl G.tuple (by decide +kernel) rfl) ad))) (aw cy rfl G.isi (by decide +kernel) (aa (pv 0) (aa (cD (v:=.ty "tuple") rfl G.tuple (by decide +kernel) rfl) ad))) (aJ _))
     (kX (aC pe (aw cy rfl G.isi (by decide +kernel) (aa (pv 1) (aa (cD (v:=.ty "list") rfl hlist (by decide +kernel) rfl) ad))) (aw cy rfl G.isi (by decide +kernel) (aa (pv 0) (aa (cD (v:=.ty "list") rfl hlist (by decide +kernel) rfl) ad))) (aJ _)))))
    (aj (aB gW)) aN)
   (aj (aB (iV (c7 cq (aw aA rfl G.len PySem.boot_len (aa (pv 0) ad)) (aw aA rfl G.len PySem.boot_len (aa (pv 1) ad)) (aJ _))
    (iU (aw (uf rfl) rfl G.all (by decide +kernel) (aa (sL (sc0:=ak lV) (N0:=["found","due"]) (ys:=[]) (fr:=[]) rfl (wk rfl hzip (aa (pv 0) (aa (pv 1) ad))) rfl rfl
     ⟨rfl,by decide +kernel,by decide +kernel,by decide +kernel,by decide +kernel,by decide +kernel,by decide +kernel,rfl,by decide +kernel⟩ (fun C s H ex=>al GS hr rfl mS F.kp bS .nil aq (aa (pv 0) (aa (pv 1) ad)))) ad)))))))
   aN)
  (ae (bh (aC sP (pv 1) nQ (aJ _)) (aj (aB (c7 sP (pv 0) nQ (aJ _)))) aN)
  (ae (bh (fI (aw cy rfl G.isi (by decide +kernel) (aa (pv 1) (aa (cD (v:=.ty "bool") rfl G.bool (by decide +kernel) rfl) ad))))
   (aj (aB (iV (aw cy rfl G.isi (by decide +kernel) (aa (pv 0) (aa (cD (v:=.ty "bool") rfl G.bool (by decide +kernel) rfl) ad))) (iU (c7 cq (pv 0) (pv 1) (aJ _)))))) aN)
  (ae (bh (fI (aw cy rfl G.isi (by decide +kernel) (aa (pv 1) (aa (cD (v:=.ty "str") rfl G.str (by decide +kernel) rfl) ad))))
   (aj (aB (iV (aw cy rfl G.isi (by decide +kernel) (aa (pv 0) (aa (cD (v:=.ty "str") rfl G.str (by decide +kernel) rfl) ad))) (iU (c7 cq (pv 0) (pv 1) (aJ _)))))) aN)
  (aj (aB (iV (al GW hr1 rfl mW kW bW .nil aq (aa (pv 0) ad)) (iU (c7 cq (pv 0) (pv 1) (aJ _))))))))),?_⟩
 refine ⟨_,rfl,(by show 2<=sizeLine;decide),fun p0 h0=>?_⟩
 have s0:=ag h0 (.tup [.ty "tuple",.ty "list"])
 have g0:(upd H p0 (.tup [.ty "tuple",.ty "list"])) p0=some (.tup [.ty "tuple",.ty "list"]):=ab
 generalize upd H p0 (.tup [.ty "tuple",.ty "list"])=H0 at s0 g0 ⊢
 have hS0:=SameV.mono s0 hS
 rcases hS0 with ⟨x,rfl,rfl,hx⟩ | ⟨i,rfl,rfl⟩ | ⟨c,a,b,xs,ys,rfl,rfl,ha,hb,hl,hp⟩
 ·refine ⟨_,p0,false,rfl,g0,.str x,_,rfl,?_⟩
  refine bu ⟨_,rfl,rfl,_,rfl,?_⟩
  rw [show decide (V.str x=V.non)=false from decide_eq_false fun e=>nomatch e]
  refine bu ⟨_,rfl,_,"bool",rfl,hx,by simp,_,rfl,?_⟩
  rw [show isV "bool" H0 (V.str x)=false from rfl]
  refine bu ⟨_,rfl,_,"str",rfl,hx,by simp,_,rfl,?_⟩
  rw [show isV "str" H0 (V.str x)=true from rfl]
  refine cH ⟨_,rfl,_,"str",rfl,hx,by simp,_,rfl,?_⟩
  rw [show isV "str" H0 (V.str x)=true from rfl]
  refine cH ⟨_,rfl,_,rfl,rfl,?_⟩
  rw [decide_eq_true rfl]
  exact q H0 s0
 ·refine ⟨_,p0,false,rfl,g0,.int i,_,rfl,?_⟩
  refine bu ⟨_,rfl,rfl,_,rfl,?_⟩
  rw [show decide (V.int i=V.non)=false from decide_eq_false fun e=>nomatch e]
  refine bu ⟨_,rfl,_,"bool",rfl,True.intro,by simp,_,rfl,?_⟩
  rw [show isV "bool" H0 (V.int i)=false from rfl]
  refine bu ⟨_,rfl,_,"str",rfl,True.intro,by simp,_,rfl,?_⟩
  rw [show isV "str" H0 (V.int i)=false from rfl]
  refine bu ⟨_,rfl,_,rfl,True.intro,_,rfl,?_⟩
  rw [show ng (V.int i)=true from rfl]
  refine cH ⟨_,rfl,_,rfl,rfl,?_⟩
  rw [decide_eq_true rfl]
  exact q H0 s0
 ·obtain ⟨a1,a2,_⟩:=pF ha
  obtain ⟨b1,b2,_⟩:=pF hb
  have hlen:xs.length=ys.length:=Paired.length hp
  refine ⟨_,p0,true,rfl,g0,vP hb,_,rfl,?_⟩
  refine cH ⟨_,rfl,_,"tuple",rfl,kl hb,by simp,_,rfl,_,"tuple",rfl,kl ha,by simp,rfl,_,rfl,?_⟩
  rw [a1,b1,decide_eq_true rfl]
  refine bu ⟨_,rfl,_,"list",rfl,kl hb,by simp,_,rfl,_,"list",rfl,kl ha,by simp,rfl,_,rfl,?_⟩
  rw [a2,b2,decide_eq_true rfl]
  refine bu ⟨_,rfl,a,xs,rfl,rS ha,_,rfl,b,ys,rfl,rS hb,rfl,_,rfl,?_⟩
  rw [hlen,decide_eq_true rfl]
  refine cH ⟨_,rfl,_,rfl,c,a,b,xs,ys,rfl,ha,hb,fun l hl0=>?_⟩
  refine ⟨fun i m zs H'=>i<=xs.length/\m=xs.length-i/\Same H0 H'/\H' l=some (.lst zs)/\zs=List.replicate i (.bl true),⟨_,Nat.zero_le _,rfl,ag hl0 _,ab,rfl⟩,?_⟩
  rintro i m zs H' ⟨hi,hm,sm,gl,rfl⟩
  refine ⟨gl,?_⟩
  by_cases e:i=xs.length
  ·refine .inl ⟨⟨xs,ys,sm _ _ ha,sm _ _ hb,e.symm,by lia⟩,l,List.replicate i true,rfl,SqL.of (by rw [List.map_replicate];exact gl),?_⟩
   rw [show (List.replicate i true).all id=true by simp]
   exact q H' (s0.trans sm)
  ·have hlt:i<xs.length:=by lia
   refine .inr ⟨⟨xs,ys,xs[i],ys[i],sm _ _ ha,sm _ _ hb,List.getElem?_eq_getElem hlt,List.getElem?_eq_getElem (by lia)⟩,ao (by rw [List.length_replicate];lia),?_⟩
   rintro _ _ ⟨T,x,y,fT,rfl,rfl,hxy⟩
   obtain ⟨ex,ey⟩:=hxy xs ys (sm _ _ ha) (sm _ _ hb)
   obtain ⟨y',ey',hs⟩:=bQ hp ex
   rw [ey]at ey'
   cases ey'
   have sT:=sm.trans (ag fT (.tup [x,y]))
   refine ⟨T,x,y,rfl,ab,_,rfl,_,rfl,x,y,rfl,SameV.mono sT hs,fun H4 s4=>?_⟩
   have gl4:=s4 _ _ (ag fT (.tup [x,y]) _ _ gl)
   refine ⟨gl4,_,(by lia:xs.length- (i+1) <m),by lia,rfl,fun c' o h=>?_,ab,?_⟩
   ·rw [ah (af h hl0)]
    exact s4 _ _ (sT _ _ h)
   ·exact List.replicate_succ'.symm
theorem sV:ar P w K mg base CX0 2 f fd ["found","due"] (gC 0):=by
 have no: ∀ vs H Q E,¬ gC 0 vs H Q E:=fun vs H Q E h=>by
  obtain ⟨v,u,_,h,_⟩:=h
  exact h
 exact ⟨fun vs H Q E h=>absurd h (no vs H Q E),fun A outer s H args us vs Q E _ _ _ _ h=>absurd h (no vs H Q E)⟩
theorem ph (F:Fun K "_law_same" "_law_same" lV f fd) (G:Gb mg) (hlist:mg "list"=none) (hzip:mg "zip"=none) (bS:Binds K fd ["found","due"] []) (mS:mg "_law_same"=some (.ref f))
  (GW:ar P w K mg base CX0 1 f2 fd2 ["found"] ka) (bW:Binds K fd2 ["found"] []) (kW:PySem.W.keepIn K (.ref f2)=true) (mW:mg "_law_whole"=some (.ref f2)): ∀ n:Nat,ar P w K mg base CX0 (n+2) f fd ["found","due"] (gC n)
 | 0=>sV
 | n+1=>sU F G hlist hzip (ph F G hlist hzip bS mS GW bW kW mW n) bS mS GW bW kW mW
theorem dh {H:Hp} {n:Nat} {a b:Addr} {xs ys:List V} (ha:H a=some (.tup xs)) (hb:H b=some (.tup ys)) (hl:xs.length<=1000) (hp:Paired (SameV H n) xs ys):SameV H (n+1) (.ref a) (.ref b):=.inr (.inr ⟨true,a,b,xs,ys,rfl,rfl,ha,hb,hl,hp⟩)
theorem eB {H:Hp} {n:Nat} {x:Str} (h:shS x):SameV H (n+1) (.str x) (.str x):=.inl ⟨x,rfl,rfl,h⟩
theorem oX {H:Hp} {n:Nat} {i:Int}:SameV H (n+1) (.int i) (.int i):=.inr (.inl ⟨i,rfl,rfl⟩)
theorem fW {H:Hp} {n:Nat}: ∀ {l:List Str},(∀ x∈l,shS x)->Paired (SameV H (n+1)) (l.map V.str) (l.map V.str)
 | [],_=>.nil
 | x::r,h=>.cons (eB (h x List.mem_cons_self)) (fW fun y hy=>h y (List.mem_cons_of_mem _ hy))
noncomputable def Fm.sh:Fm->Prop
 | .num _=>True
 | .own x=>shS x
 | .part _ x=>shS x
 | .bin op a b=>shS op/\a.sh/\b.sh
 | .whn a b c=>a.sh/\b.sh/\c.sh
theorem iy: ∀ {g:Fm},g.wf->g.sh
 | .num _,_=>trivial
 | .own _,h=>bw h
 | .part _ _,h=>bw h.2
 | .bin _ _ _,h=>⟨fe h.1,iy h.2.1,iy h.2.2⟩
 | .whn _ _ _,h=>⟨iy h.1,iy h.2.1,iy h.2.2⟩
theorem vN {rs:List Rul} (hr: ∀ r∈rs,r.fm.sh) {f g:Fm} (u:Unf rs f g):f.sh->g.sh:=by
 induction u with
 | num n=>exact id
 | keep _ _=>exact id
 | put e t u ih=>
  intro _
  refine ih ?_
  unfold iC at t
  obtain ⟨r,h1,rfl⟩:=Option.map_eq_some_iff.mp t
  exact hr r (List.mem_of_find?_eq_some h1)
 | bin _ _ ih1 ih2=>exact fun h=>⟨h.1,ih1 h.2.1,ih2 h.2.2⟩
 | whn _ _ _ ih1 ih2 ih3=>exact fun h=>⟨ih1 h.1,ih2 h.2.1,ih3 h.2.2⟩
theorem kn {x:Str} (h:decide (x.length<=1000)=true):shS x:=by
 unfold shS
 exact of_decide_eq_true h
theorem dG {H:Hp}: ∀ {g:Fm} {v u:V} {n:Nat},Rep H g v->Rep H g u->g.sh->g.size+1<=2*n->SameV H (n+1) v u
 | .num i,_,_,n,h1,h2,_,hn=>by
  obtain ⟨a,rfl,ha⟩:=h1
  obtain ⟨b,rfl,hb⟩:=h2
  have hn:1+1<=2*n:=hn
  obtain ⟨m,rfl⟩: ∃ m,n=m+1:=⟨n-1,by lia⟩
  exact dh ha hb (by show 2<=1000;decide) (.cons (eB (kn (by decide +kernel))) (.cons oX .nil))
 | .own x,_,_,n,h1,h2,hs,hn=>by
  obtain ⟨a,rfl,ha⟩:=h1
  obtain ⟨b,rfl,hb⟩:=h2
  have hn:1+1<=2*n:=hn
  obtain ⟨m,rfl⟩: ∃ m,n=m+1:=⟨n-1,by lia⟩
  exact dh ha hb (by show 2<=1000;decide) (.cons (eB (kn (by decide +kernel))) (.cons (eB hs) .nil))
 | .part k x,_,_,n,h1,h2,hs,hn=>by
  obtain ⟨a,rfl,ha⟩:=h1
  obtain ⟨b,rfl,hb⟩:=h2
  have hn:1+1<=2*n:=hn
  obtain ⟨m,rfl⟩: ∃ m,n=m+1:=⟨n-1,by lia⟩
  exact dh ha hb (by show 3<=1000;decide) (.cons (eB (kn (by decide +kernel))) (.cons oX (.cons (eB hs) .nil)))
 | .bin op A B,_,_,n,h1,h2,hs,hn=>by
  obtain ⟨a,u1,u2,rfl,ha,r1,r2⟩:=h1
  obtain ⟨b,w1,w2,rfl,hb,q1,q2⟩:=h2
  have hn:A.size+B.size+1+1<=2*n:=hn
  have pA:=A.size_pos
  have pB:=B.size_pos
  obtain ⟨m,rfl⟩: ∃ m,n=m+1:=⟨n-1,by lia⟩
  exact dh ha hb (by show 3<=1000;decide) (.cons (eB hs.1) (.cons (dG r1 q1 hs.2.1 (by lia)) (.cons (dG r2 q2 hs.2.2 (by lia)) .nil)))
 | .whn A B C,_,_,n,h1,h2,hs,hn=>by
  obtain ⟨a,u1,u2,u3,rfl,ha,r1,r2,r3⟩:=h1
  obtain ⟨b,w1,w2,w3,rfl,hb,q1,q2,q3⟩:=h2
  have hn:A.size+B.size+C.size+1+1<=2*n:=hn
  have pA:=A.size_pos
  have pB:=B.size_pos
  have pC:=C.size_pos
  obtain ⟨m,rfl⟩: ∃ m,n=m+1:=⟨n-1,by lia⟩
  exact dh ha hb (by show 4<=1000;decide) (.cons (eB (kn (by decide +kernel))) (.cons (dG r1 q1 hs.1 (by lia)) (.cons (dG r2 q2 hs.2.1 (by lia)) (.cons (dG r3 q3 hs.2.2 (by lia)) .nil))))
theorem eh {α:Type} {R:α->V->Prop} {S:V->V->Prop}: ∀ {l:List α} {xs ys:List V},Paired R l xs->Paired R l ys->(∀ a∈l,∀ x y,R a x->R a y->S x y)->Paired S xs ys
 | _,_,_,.nil,h,_=>by cases h;exact .nil
 | _,_,_,.cons r t,h,k=>by
  cases h with
  | cons r' t'=>exact .cons (k _ List.mem_cons_self _ _ r r') (eh t t' fun a ha=>k a (List.mem_cons_of_mem _ ha))
structure FrS (fr:Frm):Prop where
 nm:shS fr.name
 ow:shS fr.own.name
 pn: ∀ q∈fr.parts,shS q.name
 pl:fr.parts.length<=3
 rl:fr.rules.length<=12
 ru: ∀ r∈fr.rules,shS r.word/\r.fm.sh/\r.fm.size<=400
theorem qg {H:Hp} {r:Rul} {x y:V} (h:shS r.word/\r.fm.sh/\r.fm.size<=400) (hx:RepR H r x) (hy:RepR H r y):SameV H 203 x y:=by
 obtain ⟨a,u,rfl,ha,hu⟩:=hx
 obtain ⟨b,u',rfl,hb,hu'⟩:=hy
 exact dh ha hb (by show 3<=1000;decide) (.cons oX (.cons (eB h.1) (.cons (dG (n:=201) hu hu' h.2.1 (by lia)) .nil)))
theorem qh {H:Hp} {fr:Frm} {x y:V} (h:FrS fr) (hx:RepF H fr x) (hy:RepF H fr y):SameV H 205 x y:=by
 obtain ⟨a,pa,ra,rv,rfl,ha,hpa,hra,hr⟩:=hx
 obtain ⟨b,pb,rb,rw',rfl,hb,hpb,hrb,hr'⟩:=hy
 have lr:=hr.len
 have h12:=h.rl
 have hpl:=h.pl
 have e:cF fr.parts=(fr.parts.map Srt.name).map V.str:=by unfold cF;rw [List.map_map];rfl
 rw [e]at hpa hpb
 refine dh ha hb (by show 4<=1000;decide) (.cons (eB h.nm) (.cons (eB h.ow) (.cons (dh (n:=203) hpa hpb (by rw [List.length_map,List.length_map];lia) (fW fun x hx=>?_)) (.cons (dh (n:=203) hra hrb (by lia) (eh hr hr' fun r hrm _ _=>qg (h.ru r hrm))) .nil))))
 obtain ⟨q,hq,rfl⟩:=List.mem_map.mp hx
 exact h.pn q hq
theorem qf {H:Hp} {s:Srt} {x y:V} (h:SrC s) (hx:RepS H s x) (hy:RepS H s y):SameV H 205 x y:=by
 obtain ⟨a,a1,a2,rfl,ha,h1,h2⟩:=hx
 obtain ⟨b,b1,b2,rfl,hb,q1,q2⟩:=hy
 have:=h.dl
 have:=h.ul
 exact dh ha hb (by show 3<=1000;decide) (.cons (eB h.nm) (.cons (dh (n:=203) h1 q1 (by rw [List.length_map];lia) (fW h.dn)) (.cons (dh (n:=203) h2 q2 (by rw [List.length_map];lia) (fW h.up)) .nil)))
theorem qi {H:Hp} {b:Bk} {x y:V} (hs: ∀ s∈b.sorts,SrC s) (hf: ∀ fr∈b.forms,FrS fr) (hsl:b.sorts.length<=4) (hfl:b.forms.length<=12) (hx:RepB H b x) (hy:RepB H b y):SameV H 207 x y:=by
 obtain ⟨a,sa,fa,fv,rfl,ha,⟨sv,hsa,hS⟩,hfa,hF⟩:=hx
 obtain ⟨a',sa',fa',fv',rfl,ha',⟨sv',hsa',hS'⟩,hfa',hF'⟩:=hy
 have l1:=hF.len
 have l2:=hS.len
 exact dh ha ha' (by show 3<=1000;decide) (.cons oX (.cons (dh hsa hsa' (by lia) (eh hS hS' fun s hsm _ _=>qf (hs s hsm))) (.cons (dh hfa hfa' (by lia) (eh hF hF' fun fr hfr _ _=>qh (hf fr hfr))) .nil)))
theorem rO {fr:Frm} {U:KK->Fm} (hC:FrC fr) (h:fz fr U):FrS (unF U fr):=by
 refine ⟨hC.nm,hC.ow,hC.pn,hC.pl,?_,fun r hr=>?_⟩
 ·show (fr.rules.map (unR U)).length<=12
  rw [List.length_map]
  exact hC.rs.few
 ·obtain ⟨r0,hr0,rfl⟩:=List.mem_map.mp (show r∈fr.rules.map (unR U)from hr)
  exact ⟨hC.wd r0 hr0,vN (fun r hr=>iy (hC.rs.fm r hr).1) (h.un.un r0 hr0) (iy (hC.rs.fm r0 hr0).1),h.un.sz r0 hr0⟩
theorem pW {H:Hp} {b:Bk} {UF:Frm->KK->Fm} {x y:V} (hC:BkC b) (h: ∀ fr∈b.forms,fz fr (UF fr)) (hx:RepB H (rP UF b) x) (hy:RepB H (rP UF b) y):SameV H 207 x y:=by
 refine qi (b:=rP UF b) hC.so (fun fr hfr=>?_) hC.sl ?_ hx hy
 ·obtain ⟨f0,h0,rfl⟩:=List.mem_map.mp (show fr∈b.forms.map fun fr=>unF (UF fr) fr from hfr)
  exact rO (hC.fo f0 h0) (h f0 h0)
 ·show (b.forms.map fun fr=>unF (UF fr) fr).length<=12
  rw [List.length_map]
  exact hC.fl
noncomputable def lS (tbA:Addr):Sp:=fun vs H Q _=> ∃ bv bk,vs=[bv]/\RepB H bk bv/\BkC bk/\TabSt tbA H/\ ∀ H',Kp tbA H H'->TabSt tbA H'->Q (.bl true) H'
noncomputable def oU (K:PySem.W.Frag) (tbA:Addr):Sp:=fun vs H Q _=> ∃ (a:Addr) (ns:List Int),vs=[.ref a]/\SqL K H a (ns.map V.int)/\ns.length<=63/\TabSt tbA H/\ ∀ H',Q (.bl true) H'
theorem scRightS:ay ["book","word","due"] ["book"] (ak ku):=fsc
theorem qw (F:Fun K "_law_right" "_law_right" ku f fd)
  (GS:ar P w K mg base CX0 18 f2 fd2 ["book"] gU) (bS:Binds K fd2 ["book"] []) (kS:PySem.W.keepIn K (.ref f2)=true) (mS:mg "_law_straight"=some (.ref f2))
  (GM:ar P w K mg base CX0 7 f3 fd3 ["book"] (oS tbA)) (bM:Binds K fd3 ["book"] []) (kM:PySem.W.keepIn K (.ref f3)=true) (mM:mg "made_straight"=some (.ref f3))
  (GE:ar P w K mg base CX0 209 f4 fd4 ["found","due"] (gC 207)) (bE:Binds K fd4 ["found","due"] []) (kE:PySem.W.keepIn K (.ref f4)=true) (mE:mg "_law_same"=some (.ref f4)):
  ar P w K mg base CX0 210 f fd ["book"] (lS tbA):=by
 refine F.ok scRightS (fun vs H Q E h=>?_) (fun cdv A outer s H vs Q E hr h=>?_)
 ·obtain ⟨bv,bk,rfl,_⟩:=h
  rfl
 obtain ⟨bv,bk,rfl,hB,hC,tt,q⟩:=h
 have hr7:=hr.mono (show 7<=209 by decide)
 have hr18:=hr.mono (show 18<=209 by decide)
 refine ⟨_,ae (nM (al GS hr18 rfl mS kS bS .nil aq (aa (pv 0) ad)) (cP rfl (aG (av (i:=1) scRightS.nd rfl (Or.inl rfl)) (aG (av (i:=2) scRightS.nd rfl (Or.inl rfl)) ce))))
  (ae (bh (aC pe (pv 1) aL (aJ _)) (aj (aB gW)) aN)
  (aj (aB (al GE hr rfl mE kE bE .nil aq (aa (al GM hr7 rfl mM kM bM .nil aq (aa (pv 0) ad)) (aa (pv 2) ad)))))),?_⟩
 refine ⟨_,rfl,bv,bk,rfl,hB,hC.fl,fun fr hfr=>⟨(hC.fo fr hfr).rs,(hC.fo fr hfr).rl⟩,fun p wd x H1 s1 g1 hmade=>?_⟩
 have tt1:=tt.same s1
 refine ⟨p,_,rfl,SqT.of g1,rfl,_,_,rfl,_,_,rfl,rfl,?_⟩
 refine ⟨_,rfl,rfl,_,rfl,?_⟩
 rw [iE]
 by_cases c:wd="made"
 ·rw [decide_eq_true c]
  obtain ⟨hU,hBx⟩:=hmade c
  refine bu ⟨_,rfl,bv,bk,lK,rfl,hB.mono (au s1),hC.fl,hU,tt1,fun u H2 k2 tt2 hBu=>?_⟩
  exact ⟨_,rfl,u,x,rfl,pW hC hU hBu (hBx.mono (tt1.tk k2)),fun H3 s3=>q H3 (((Kp.refl.same s1).trans k2).same s3) (tt2.same s3)⟩
 ·rw [decide_eq_false c]
  exact cH (q H1 (Kp.refl.same s1) tt1)
theorem scLaw:ay ["script","start"] ["script"] (ak jF):=fsc
theorem wt (F:Fun K "law" "law" jF f fd) (G:Gb mg)
  (GB:ar P w K mg base CX0 6 f2 fd2 ["script","start","few"] (rX K)) (bB:Binds K fd2 ["script","start","few"] []) (kB:PySem.W.keepIn K (.ref f2)=true) (mB:mg "_law_book"=some (.ref f2))
  (GC:ar P w K mg base CX0 3 f3 fd3 ["script","start"] (oW K)) (bC:Binds K fd3 ["script","start"] []) (kC:PySem.W.keepIn K (.ref f3)=true) (mC:mg "_law_chain"=some (.ref f3))
  (GR:ar P w K mg base CX0 210 f4 fd4 ["book"] (lS tbA)) (bR:Binds K fd4 ["book"] []) (kR:PySem.W.keepIn K (.ref f4)=true) (mR:mg "_law_right"=some (.ref f4)):
  ar P w K mg base CX0 211 f fd ["script"] (oU K tbA):=by
 refine F.ok scLaw (fun vs H Q E h=>?_) (fun cdv A outer s H vs Q E hr h=>?_)
 ·obtain ⟨a,ns,rfl,_⟩:=h
  rfl
 obtain ⟨a,ns,rfl,hS,hlen,tt,q⟩:=h
 have hr3:=hr.mono (show 3<=210 by decide)
 have hr6:=hr.mono (show 6<=210 by decide)
 refine ⟨_,ae (bd PassesOwn.never rfl (qp rfl G.range (aa ai (aa (aw (jY rfl) rfl G.max (by decide +kernel) (aa ai (aa (aw (jX rfl) rfl G.min (by decide +kernel) (aa ai (aa (aw aA rfl G.len PySem.boot_len (aa (pv 0) ad)) ad))) ad))) (aa ai ad)))) (av (i:=1) scLaw.nd rfl (Or.inl rfl))
   (aj (bh (PW.pt (oY (nL (fI (al GR hr rfl mR kR bR .nil aq (aa (al GB hr6 rfl mB kB bB .nil aq (aa (pv 0) (aa (pv 1) (aa gW ad)))) ad))))
    (kX (nL (fI (al GR hr rfl mR kR bR .nil aq (aa (al GC hr3 rfl mC kC bC .nil aq (aa (pv 0) (aa (ax be (pv 1) ai) ad))) ad))))))) gI aN)))
  (aj (aB gW)),?_⟩
 have hll:(ns.map V.int).length=ns.length:=List.length_map _
 refine ⟨_,rfl,a,_,rfl,.inl hS,24,_,rfl,1,_,rfl,0,_,12,rfl,?_,?_⟩
 ·rw [hll]
  refine ⟨by decide,by decide,?_,?_,by decide,by decide⟩ <;> split <;> split <;> lia
 rw [hll]
 have hb:Builtin.Range.rangeSize 0 (if (if (ns.length:Int) <24 then (ns.length:Int)else 24) >1 then (if (ns.length:Int) <24 then (ns.length:Int)else 24)else 1) 12<=2:=by
  unfold Builtin.Range.rangeSize
  rw [if_pos (by decide)]
  split <;> (try split) <;> (try split) <;> lia
 refine tY (fun i σ H'=> ∃ o1,σ=[some (.ref a),o1]/\Kp tbA H H'/\TabSt tbA H') ⟨none,rfl,Kp.refl,tt⟩ ?_ ?_
 ·rintro i x σ H2 hi rfl ⟨o1,rfl,k2,tt2⟩
  have hi2:(i:Int) <2:=by lia
  refine ⟨_,rfl,_,rfl,a,ns,_,false,rfl,tt.sql k2 hS,hlen,by lia,by lia,fun bv bk H3 hB hok s3=>?_⟩
  have tt3:=tt2.same s3
  refine ⟨bv,bk,rfl,hB,ui hok,tt3,fun H4 k4 tt4=>⟨true,rfl,bu ?_⟩⟩
  have K4:=(k2.same s3).trans k4
  refine ⟨_,rfl,_,rfl,_,11,rfl,rfl,?_⟩
  refine ⟨a,ns,_,rfl,tt.sql K4 hS,hlen,by lia,by lia,fun cv ck H5 hB5 hC5 s5=>?_⟩
  exact ⟨cv,ck,rfl,hB5,hC5,tt4.same s5,fun H6 k6 tt6=>⟨true,rfl,bu ⟨_,rfl,(K4.same s5).trans k6,tt6⟩⟩⟩
 ·rintro σ H2 ⟨o1,rfl,k2,tt2⟩
  exact q H2
theorem vx {P:Program} {w:World} {K:PySem.W.Frag} {aD:Addr} {h1 h2 h3 h4 h5 h6:Int} {t1 t2 t3 t4 t5 t6 u1 u2 u3 u4 u5 u6:Tok} {ep:Nat}
  (lD:K.lookup aD=some ⟨.type "dict",none,.dict #[⟨h1,.str "plus" t1,.int 2 u1⟩,⟨h2,.str "less" t2,.int 2 u2⟩,⟨h3,.str "times" t3,.int 2 u3⟩,⟨h4,.str "least" t4,.int 2 u4⟩,⟨h5,.str "most" t5,.int 2 u5⟩,⟨h6,.str "when" t6,.int 3 u6⟩] ep,#[]⟩)
  (e1:h1=hashStr w "plus") (e2:h2=hashStr w "less") (e3:h3=hashStr w "times") (e4:h4=hashStr w "least") (e5:h5=hashStr w "most") (e6:h6=hashStr w "when") (nD:(aD==sysModules)=false):vE P w K aD jP:=by
 refine ⟨nD,fun h X=>⟨[(.inr "plus",.int 2 u1),(.inr "less",.int 2 u2),(.inr "times",.int 2 u3),(.inr "least",.int 2 u4),(.inr "most",.int 2 u5),(.inr "when",.int 3 u6)],?_,?_⟩⟩
 ·exact .cons ⟨rfl,_,rfl⟩ (.cons ⟨rfl,_,rfl⟩ (.cons ⟨rfl,_,rfl⟩ (.cons ⟨rfl,_,rfl⟩ (.cons ⟨rfl,_,rfl⟩ (.cons ⟨rfl,_,rfl⟩ .nil)))))
 ·refine ⟨_,_,_,X _ _ lD,⟨rfl,rfl,rfl⟩,rfl,?_,?_,by dsimp only [List.map];decide +kernel⟩
  ·intro e he
   simp only [List.mem_toArray,List.mem_cons,List.not_mem_nil,or_false]at he
   rcases he with rfl | rfl | rfl | rfl | rfl | rfl
   ·exact ⟨.inr "plus",bt "plus" t1,e1⟩
   ·exact ⟨.inr "less",bt "less" t2,e2⟩
   ·exact ⟨.inr "times",bt "times" t3,e3⟩
   ·exact ⟨.inr "least",bt "least" t4,e4⟩
   ·exact ⟨.inr "most",bt "most" t5,e5⟩
   ·exact ⟨.inr "when",bt "when" t6,e6⟩
  ·exact .cons (bt "plus" t1) rfl (.cons (bt "less" t2) rfl (.cons (bt "times" t3) rfl (.cons (bt "least" t4) rfl (.cons (bt "most" t5) rfl (.cons (bt "when" t6) rfl .nil)))))
theorem bG {α:Type} {l:List α} (h:l.length=1): ∃ a,l=[a]:=by
 match l,h with
 | [a],_=>exact ⟨a,rfl⟩
theorem cu {α:Type} {l:List α} (h:l.length=2): ∃ a b,l=[a,b]:=by
 match l,h with
 | [a,b],_=>exact ⟨a,b,rfl⟩
theorem oF {α:Type} {l:List α} (h:l.length=3): ∃ a b c,l=[a,b,c]:=by
 match l,h with
 | [a,b,c],_=>exact ⟨a,b,c,rfl⟩
theorem yy {α:Type} {l:List α} (h:l.length=4): ∃ a b c d,l=[a,b,c,d]:=by
 match l,h with
 | [a,b,c,d],_=>exact ⟨a,b,c,d,rfl⟩
theorem wT {α:Type} {l:List α} (h:l.length=5): ∃ a b c d e,l=[a,b,c,d,e]:=by
 match l,h with
 | [a,b,c,d,e],_=>exact ⟨a,b,c,d,e,rfl⟩
theorem wS {α:Type} {l:List α} (h:l.length=6): ∃ a b c d e f,l=[a,b,c,d,e,f]:=by
 match l,h with
 | [a,b,c,d,e,f],_=>exact ⟨a,b,c,d,e,f,rfl⟩
theorem uM {K:PySem.W.Frag} {aR:Addr} {od:Option Addr} {sl:Array (Option Value)} {t1 t2:Tok} {m:Nat} (l:K.lookup aR=some ⟨.type "tuple",od,.seq #[.str "own" t1,.str "part" t2] m,sl⟩): ∀ H,SqT K H aR (rdgs.map V.str):=
 fun H=>.inr ⟨_,_,_,l,rfl,rfl,(show 2<=sizeLine by decide),.cons ⟨_,rfl⟩ (.cons ⟨_,rfl⟩ .nil)⟩
/-- what is told of a def -/
structure Df (K:PySem.W.Frag) (nm:Str) (st:Stmt) (f:Addr) (fd:FuncData):Prop where
 a:PySem.W.nsIn K mainGlobals nm=some (some (.ref f))
 k:PySem.W.keepIn K (.ref f)=true
 F:Fun K nm nm st f fd
theorem Df.m {K:PySem.W.Frag} {nm:Str} {st:Stmt} {f:Addr} {fd:FuncData} {h:Heap} {mg:Str->Option Value} (d:Df K nm st f fd) (X:K.In h) (G:h.Ns mainGlobals mg):mg nm=some (.ref f):=PySem.W.mg_of X G d.a
theorem Df.of {K:PySem.W.Frag} {nm:Str} {st:Stmt} {f:Addr} {oc:Value} {od an:Option Addr} {osl:Array (Option Value)} {kV doc pm cdv ct:Value} (a:PySem.W.nsIn K mainGlobals nm=some (some (.ref f))) (k:PySem.W.keepIn K (.ref f)=true)
  (l:K.lookup f=some ⟨oc,od,.func (PySem.W.fnOf nm nm (gw st) (cp st) (ak st) .none kV doc pm an cdv ct),osl⟩) (c:PySem.W.codeIn K cdv nm=true):Df K nm st f (PySem.W.fnOf nm nm (gw st) (cp st) (ak st) .none kV doc pm an cdv ct):=
 ⟨a,k,⟨⟨oc,od,kV,doc,pm,an,cdv,ct,osl,rfl,l,c⟩,k⟩⟩
theorem all_mk {l:PySem.W.OpenLaw} {w:World} {K:PySem.W.Frag} {h:Heap} {mg:Str->Option Value} {fa cS Pt aD aR f1 f2 f3 f4 f5 f6 f7 f8 f9 f10 f11 f12 f13 f14 f15 f16 f17 f18 f19 f20 f21 f22 f23 f24 f25 f26 f27 f28 f29 f30 f31 f32 f33 f34 f35 f36 f37 f38 f39 f40 f41 f42 f43:Addr} {r1 r2 r3 r4 r5 r6 r7 r8 r9 r10 r11 r12 r13 r14 r15 r16 r17 r18 r19 r20 r21 r22 r23 r24 r25 r26 r27 r28 r29 r30 r31 r32 r33 r34 r35 r36 r37 r38 r39 r40 r41 r42 r43:FuncData} (X:K.In h) (G:h.Ns mainGlobals mg) (hfa:mg "law"=some (.ref fa)) (hTb:uk h mg "put_otherwise" cS Pt)
  {odR:Option Addr} {slR:Array (Option Value)} {w1 w2 t1 t2 t3 t4 t5 t6 u1 u2 u3 u4 u5 u6 q1:Tok} {h1 h2 h3 h4 h5 h6:Int} {ep mR:Nat}
  (d1:Df K "inner_of" nG f1 r1)
  (d2:Df K "tuples_of" ko f2 r2)
  (d3:Df K "folded" ig f3 r3)
  (d4:Df K "readings_of" nC f4 r4)
  (d5:Df K "wheel_of" iJ f5 r5)
  (d6:Df K "sorts_of" iK f6 r6)
  (d7:Df K "forms_of" iQ f7 r7)
  (d8:Df K "rules_of" iM f8 r8)
  (d9:Df K "key_of" nF f9 r9)
  (d10:Df K "formulas_by_key" nI f10 r10)
  (d11:Df K "order_of" fX f11 r11)
  (d12:Df K "readers_of" iN f12 r12)
  (d13:Df K "made_straight" iP f13 r13)
  (d14:Df K "keys_read_by_key" dE f14 r14)
  (d15:Df K "order_of_keys" kw f15 r15)
  (d16:Df K "need_few_tuples" sn f16 r16)
  (d17:Df K "form_made_straight" kH f17 r17)
  (d18:Df K "put_otherwise" lW f18 r18)
  (d19:Df K "one_put_otherwise" kx f19 r19)
  (d20:Df K "_law_cell_at" su f20 r20)
  (d21:Df K "_law_tape" sj f21 r21)
  (d22:Df K "_law_digit" nH f22 r22)
  (d23:Df K "_law_names" eN f23 r23)
  (d24:Df K "_law_number" ky f24 r24)
  (d25:Df K "_law_leaf" sk f25 r25)
  (d26:Df K "_law_formula" dF f26 r26)
  (d27:Df K "_law_sorts" nB f27 r27)
  (d28:Df K "_law_targets" eM f28 r28)
  (d29:Df K "_law_readings" di f29 r29)
  (d30:Df K "_law_form" nE f30 r30)
  (d31:Df K "_law_book" eC f31 r31)
  (d32:Df K "_law_whole" kz f32 r32)
  (d33:Df K "_law_same" lV f33 r33)
  (d34:Df K "_law_reads" kG f34 r34)
  (d35:Df K "_law_target" kr f35 r35)
  (d36:Df K "_law_told_in" kq f36 r36)
  (d37:Df K "_law_size_with" iL f37 r37)
  (d38:Df K "_law_put_in" iO f38 r38)
  (d39:Df K "_law_straight_told" ee f39 r39)
  (d40:Df K "_law_straight" fF f40 r40)
  (d41:Df K "_law_chain" gE f41 r41)
  (d42:Df K "_law_right" ku f42 r42)
  (d43:Df K "law" jF f43 r43)
  (z1:PySem.W.nsIn K mainGlobals "isinstance"=some none)
  (z2:PySem.W.nsIn K mainGlobals "int"=some none)
  (z3:PySem.W.nsIn K mainGlobals "bool"=some none)
  (z4:PySem.W.nsIn K mainGlobals "str"=some none)
  (z5:PySem.W.nsIn K mainGlobals "tuple"=some none)
  (z6:PySem.W.nsIn K mainGlobals "len"=some none)
  (z7:PySem.W.nsIn K mainGlobals "all"=some none)
  (z8:PySem.W.nsIn K mainGlobals "range"=some none)
  (z9:PySem.W.nsIn K mainGlobals "max"=some none)
  (z10:PySem.W.nsIn K mainGlobals "min"=some none)
  (z11:PySem.W.nsIn K mainGlobals "list"=some none)
  (z12:PySem.W.nsIn K mainGlobals "sum"=some none)
  (z13:PySem.W.nsIn K mainGlobals "zip"=some none)
  (z14:PySem.W.nsIn K mainGlobals "reversed"=some none)
  (i1:PySem.W.nsIn K mainGlobals "MOST_TUPLES_MADE"=some (some (.int 400 q1)))
  (aI:PySem.W.nsIn K mainGlobals "INNER_COUNTS"=some (some (.ref aD)))
  (lD:K.lookup aD=some ⟨.type "dict",none,.dict #[⟨h1,.str "plus" t1,.int 2 u1⟩,⟨h2,.str "less" t2,.int 2 u2⟩,⟨h3,.str "times" t3,.int 2 u3⟩,⟨h4,.str "least" t4,.int 2 u4⟩,⟨h5,.str "most" t5,.int 2 u5⟩,⟨h6,.str "when" t6,.int 3 u6⟩] ep,#[]⟩)
  (e1:h1=hashStr w "plus")    (e2:h2=hashStr w "less")    (e3:h3=hashStr w "times")    (e4:h4=hashStr w "least")    (e5:h5=hashStr w "most")    (e6:h6=hashStr w "when")
  (nD:(aD==sysModules)=false)
  (aQ:PySem.W.nsIn K mainGlobals "READINGS"=some (some (.ref aR))) (lR:K.lookup aR=some ⟨.type "tuple",odR,.seq #[.str "own" w1,.str "part" w2] mR,slR⟩):
  ∃ fd:FuncData,(∀ (s:Shared) (v:Value),BindsTo s fd ⟨[v],[]⟩ [("script",v)])/\ ∀ base:Heap,K.In base->base.Ns mainGlobals mg->PySem.W.CodeHd base cS Pt->base.BuiltinsAt mg Pt->ar l.prog w K mg base CX0 211 fa fd ["script"] (oU K Pt):=by
 have e:=hfa.symm.trans (d43.m X G)
 cases e
 have b1:=d1.F.binds (ps:=["formula"]) fun _ _ _ _ _ _ us hl=>by obtain ⟨x,rfl⟩:=bG hl;rfl
 have m1:=d1.m X G
 have b2:=d2.F.binds (ps:=["formula"]) fun _ _ _ _ _ _ us hl=>by obtain ⟨x,rfl⟩:=bG hl;rfl
 have m2:=d2.m X G
 have b3:=d3.F.binds (ps:=["formula","tell"]) fun _ _ _ _ _ _ us hl=>by obtain ⟨x,y,rfl⟩:=cu hl;rfl
 have m3:=d3.m X G
 have b4:=d4.F.binds (ps:=["formula"]) fun _ _ _ _ _ _ us hl=>by obtain ⟨x,rfl⟩:=bG hl;rfl
 have m4:=d4.m X G
 have b5:=d5.F.binds (ps:=["book"]) fun _ _ _ _ _ _ us hl=>by obtain ⟨x,rfl⟩:=bG hl;rfl
 have m5:=d5.m X G
 have b6:=d6.F.binds (ps:=["book"]) fun _ _ _ _ _ _ us hl=>by obtain ⟨x,rfl⟩:=bG hl;rfl
 have m6:=d6.m X G
 have b7:=d7.F.binds (ps:=["book"]) fun _ _ _ _ _ _ us hl=>by obtain ⟨x,rfl⟩:=bG hl;rfl
 have m7:=d7.m X G
 have b8:=d8.F.binds (ps:=["form"]) fun _ _ _ _ _ _ us hl=>by obtain ⟨x,rfl⟩:=bG hl;rfl
 have m8:=d8.m X G
 have b9:=d9.F.binds (ps:=["reading"]) fun _ _ _ _ _ _ us hl=>by obtain ⟨x,rfl⟩:=bG hl;rfl
 have m9:=d9.m X G
 have b10:=d10.F.binds (ps:=["form"]) fun _ _ _ _ _ _ us hl=>by obtain ⟨x,rfl⟩:=bG hl;rfl
 have m10:=d10.m X G
 have b11:=d11.F.binds (ps:=["reads"]) fun _ _ _ _ _ _ us hl=>by obtain ⟨x,rfl⟩:=bG hl;rfl
 have m11:=d11.m X G
 have b12:=d12.F.binds (ps:=["reads"]) fun _ _ _ _ _ _ us hl=>by obtain ⟨x,rfl⟩:=bG hl;rfl
 have m12:=d12.m X G
 have b13:=d13.F.binds (ps:=["book"]) fun _ _ _ _ _ _ us hl=>by obtain ⟨x,rfl⟩:=bG hl;rfl
 have m13:=d13.m X G
 have b14:=d14.F.binds (ps:=["form"]) fun _ _ _ _ _ _ us hl=>by obtain ⟨x,rfl⟩:=bG hl;rfl
 have m14:=d14.m X G
 have b15:=d15.F.binds (ps:=["form"]) fun _ _ _ _ _ _ us hl=>by obtain ⟨x,rfl⟩:=bG hl;rfl
 have m15:=d15.m X G
 have b16:=d16.F.binds (ps:=["form","order"]) fun _ _ _ _ _ _ us hl=>by obtain ⟨x,y,rfl⟩:=cu hl;rfl
 have m16:=d16.m X G
 have b17:=d17.F.binds (ps:=["form","order"]) fun _ _ _ _ _ _ us hl=>by obtain ⟨x,y,rfl⟩:=cu hl;rfl
 have m17:=d17.m X G
 have b18:=d18.F.binds (ps:=["formula","made"]) fun _ _ _ _ _ _ us hl=>by obtain ⟨x,y,rfl⟩:=cu hl;rfl
 have m18:=d18.m X G
 have b19:=d19.F.binds (ps:=["one","inner","made"]) fun _ _ _ _ _ _ us hl=>by obtain ⟨x,y,z,rfl⟩:=oF hl;rfl
 have m19:=d19.m X G
 have b20:=d20.F.binds (ps:=["script","k"]) fun _ _ _ _ _ _ us hl=>by obtain ⟨x,y,rfl⟩:=cu hl;rfl
 have m20:=d20.m X G
 have b21:=d21.F.binds (ps:=["script","k"]) fun _ _ _ _ _ _ us hl=>by obtain ⟨x,y,rfl⟩:=cu hl;rfl
 have m21:=d21.m X G
 have b22:=d22.F.binds (ps:=["tape","many"]) fun _ _ _ _ _ _ us hl=>by obtain ⟨x,y,rfl⟩:=cu hl;rfl
 have m22:=d22.m X G
 have b23:=d23.F.binds (ps:=["tape","many"]) fun _ _ _ _ _ _ us hl=>by obtain ⟨x,y,rfl⟩:=cu hl;rfl
 have m23:=d23.m X G
 have b24:=d24.F.binds (ps:=["tape"]) fun _ _ _ _ _ _ us hl=>by obtain ⟨x,rfl⟩:=bG hl;rfl
 have m24:=d24.m X G
 have b25:=d25.F.binds (ps:=["tape","readings"]) fun _ _ _ _ _ _ us hl=>by obtain ⟨x,y,rfl⟩:=cu hl;rfl
 have m25:=d25.m X G
 have b26:=d26.F.binds (ps:=["tape","readings"]) fun _ _ _ _ _ _ us hl=>by obtain ⟨x,y,rfl⟩:=cu hl;rfl
 have m26:=d26.m X G
 have b27:=d27.F.binds (ps:=["tape","few"]) fun _ _ _ _ _ _ us hl=>by obtain ⟨x,y,rfl⟩:=cu hl;rfl
 have m27:=d27.m X G
 have b28:=d28.F.binds (ps:=["sorts","own","parts"]) fun _ _ _ _ _ _ us hl=>by obtain ⟨x,y,z,rfl⟩:=oF hl;rfl
 have m28:=d28.m X G
 have b29:=d29.F.binds (ps:=["sorts","own","parts","mode","j"]) fun _ _ _ _ _ _ us hl=>by obtain ⟨x,y,z,u,v,rfl⟩:=wT hl;rfl
 have m29:=d29.m X G
 have b30:=d30.F.binds (ps:=["tape","sorts","name","own","parts","mode"]) fun _ _ _ _ _ _ us hl=>by obtain ⟨x,y,z,u,v,w,rfl⟩:=wS hl;rfl
 have m30:=d30.m X G
 have b31:=d31.F.binds (ps:=["script","start","few"]) fun _ _ _ _ _ _ us hl=>by obtain ⟨x,y,z,rfl⟩:=oF hl;rfl
 have m31:=d31.m X G
 have b32:=d32.F.binds (ps:=["found"]) fun _ _ _ _ _ _ us hl=>by obtain ⟨x,rfl⟩:=bG hl;rfl
 have m32:=d32.m X G
 have b33:=d33.F.binds (ps:=["found","due"]) fun _ _ _ _ _ _ us hl=>by obtain ⟨x,y,rfl⟩:=cu hl;rfl
 have m33:=d33.m X G
 have b34:=d34.F.binds (ps:=["formula"]) fun _ _ _ _ _ _ us hl=>by obtain ⟨x,rfl⟩:=bG hl;rfl
 have m34:=d34.m X G
 have b35:=d35.F.binds (ps:=["at","word"]) fun _ _ _ _ _ _ us hl=>by obtain ⟨x,y,rfl⟩:=cu hl;rfl
 have m35:=d35.m X G
 have b36:=d36.F.binds (ps:=["form"]) fun _ _ _ _ _ _ us hl=>by obtain ⟨x,rfl⟩:=bG hl;rfl
 have m36:=d36.m X G
 have b37:=d37.F.binds (ps:=["formula","sizes"]) fun _ _ _ _ _ _ us hl=>by obtain ⟨x,y,rfl⟩:=cu hl;rfl
 have m37:=d37.m X G
 have b38:=d38.F.binds (ps:=["formula","made"]) fun _ _ _ _ _ _ us hl=>by obtain ⟨x,y,rfl⟩:=cu hl;rfl
 have m38:=d38.m X G
 have b39:=d39.F.binds (ps:=["told"]) fun _ _ _ _ _ _ us hl=>by obtain ⟨x,rfl⟩:=bG hl;rfl
 have m39:=d39.m X G
 have b40:=d40.F.binds (ps:=["book"]) fun _ _ _ _ _ _ us hl=>by obtain ⟨x,rfl⟩:=bG hl;rfl
 have m40:=d40.m X G
 have b41:=d41.F.binds (ps:=["script","start"]) fun _ _ _ _ _ _ us hl=>by obtain ⟨x,y,rfl⟩:=cu hl;rfl
 have m41:=d41.m X G
 have b42:=d42.F.binds (ps:=["book"]) fun _ _ _ _ _ _ us hl=>by obtain ⟨x,rfl⟩:=bG hl;rfl
 have m42:=d42.m X G
 have Gb0:Gb mg:=⟨PySem.W.mg_none_of X G z1,PySem.W.mg_none_of X G z2,PySem.W.mg_none_of X G z3,PySem.W.mg_none_of X G z4,PySem.W.mg_none_of X G z5,PySem.W.mg_none_of X G z6,PySem.W.mg_none_of X G z7,PySem.W.mg_none_of X G z8,PySem.W.mg_none_of X G z9,PySem.W.mg_none_of X G z10⟩
 have D:vE l.prog w K aD jP:=vx lD e1 e2 e3 e4 e5 e6 nD
 have mI:=PySem.W.mg_of X G aI
 have mQ:=PySem.W.mg_of X G aQ
 have hR:=uM lR
 have v11:=PySem.W.mg_none_of X G z11
 have v12:=PySem.W.mg_none_of X G z12
 have v13:=PySem.W.mg_none_of X G z13
 have v14:=PySem.W.mg_none_of X G z14
 have j1:=PySem.W.mg_of X G i1
 have hfc:r18.code=.ref cS:=by
  obtain ⟨⟨a,o,fd,t1,t2,t3,t4⟩,_⟩:=hTb
  rw [m18]at t1
  cases t1
  obtain ⟨oc,od,kV,doc,pm,an,cdv,ct,osl,_,lk,_⟩:=d18.F.ex
  rw [X _ _ lk]at t2
  cases t2
  cases t3
  exact t4
 have F43:=d43.F
 obtain ⟨_,_,kV,dc,pm,an,cd,ct,_,rfl,_,_⟩:=d43.F.ex
 refine ⟨PySem.W.fnOf "law" "law" (gw jF) (cp jF) (ak jF) .none kV dc pm an cd ct,fun s v=>.of_eq rfl,fun base _ _ hC hB=>?_⟩
 have g_inner:=iZ (base:=base) d1.F mI D
 have g_tuples:=jM d2.F g_inner b1 d1.k m1
 have g_folded:=fun b=>tD d3.F Gb0 v14 (jM (base:=b) d2.F (iZ (base:=b) d1.F mI D) b1 d1.k m1) b2 d2.k m2 (iZ (base:=b) d1.F mI D) b1 d1.k m1
 have g_keyOf:=fun b=>tm (P:=l.prog) (w:=w) (mg:=mg) (base:=b) d9.F
 have g_onePut:=fun b=>qB d19.F Gb0 mQ hR (g_keyOf b) b9 d9.k m9
 have g_putO:=uV d18.F hfc hC hB g_folded b3 d3.k m3 g_onePut b19 d19.k m19
 have g_reads:=sW d4.F v11 mQ hR g_tuples b2 d2.k m2
 have g_sortsOf:=nX (P:=l.prog) (w:=w) (mg:=mg) (base:=base) d6.F
 have g_formsOf:=oh (P:=l.prog) (w:=w) (mg:=mg) (base:=base) d7.F
 have g_wheelOf:=nV (P:=l.prog) (w:=w) (mg:=mg) (base:=base) d5.F
 have g_rules:=nY (P:=l.prog) (w:=w) (mg:=mg) (base:=base) d8.F
 have g_byKey:=qG d10.F g_rules b8 d8.k m8
 have g_keysRead:=mi d14.F g_byKey b10 d10.k m10 g_reads b4 d4.k m4 (g_keyOf base) b9 d9.k m9
 have g_readers:=nZ (P:=l.prog) (w:=w) (mg:=mg) (base:=base) d12.F
 have g_orderOf:=n0 d11.F Gb0 g_readers b12 d12.k m12
 have g_orderK:=qA d15.F Gb0 g_keysRead b14 d14.k m14 g_orderOf b11 d11.k m11
 have g_fewT:=uW d16.F mQ hR j1 g_byKey b10 d10.k m10 g_tuples b2 d2.k m2 (g_keyOf base) b9 d9.k m9
 have g_formS:=tw d17.F Gb0 g_byKey b10 d10.k m10 g_putO b18 d18.k m18 g_rules b8 d8.k m8
 have g_madeS:=sX d13.F Gb0 v13 g_formsOf b7 d7.k m7 g_orderK b15 d15.k m15 g_fewT b16 d16.k m16 g_formS b17 d17.k m17 g_wheelOf b5 d5.k m5 g_sortsOf b6 d6.k m6
 have g_lwhole:=qE (P:=l.prog) (w:=w) (mg:=mg) (base:=base) d32.F Gb0
 have g_same:=ph d33.F Gb0 v11 v13 b33 m33 g_lwhole b32 d32.k m32 207
 have g_cell:=uX (P:=l.prog) (w:=w) (base:=base) d20.F Gb0
 have g_tape:=uU d21.F g_cell b20 d20.k m20
 have g_digit:=tE (P:=l.prog) (w:=w) (mg:=mg) (base:=base) d22.F
 have g_names:=qD d23.F Gb0 g_digit b22 d22.k m22
 have g_number:=qC d24.F g_digit b22 d22.k m22
 have g_leaf:=fun ρ=>sZ (ρ:=ρ) d25.F Gb0 g_digit b22 d22.k m22 g_number b24 d24.k m24
 have g_formula:=fun ρ=>mj d26.F Gb0 g_digit b22 d22.k m22 (g_leaf ρ) b25 d25.k m25
 have g_sorts:=sS d27.F Gb0 g_digit b22 d22.k m22 g_names b23 d23.k m23
 have g_targets:=nW (P:=l.prog) (w:=w) (mg:=mg) (base:=base) d28.F Gb0
 have g_lreadings:=li d29.F Gb0 g_targets b28 d28.k m28
 have g_lform:=sY d30.F Gb0 g_targets b28 d28.k m28 g_lreadings b29 d29.k m29 g_formula b26 d26.k m26
 have g_book:=uY d31.F Gb0 g_digit b22 d22.k m22 g_lform b30 d30.k m30 g_tape b21 d21.k m21 g_sorts b27 d27.k m27 g_names b23 d23.k m23
 have g_lreads:=qF (P:=l.prog) (w:=w) (mg:=mg) (base:=base) d34.F v11
 have g_target:=qt (P:=l.prog) (w:=w) (mg:=mg) (base:=base) d35.F
 have g_toldIn:=qr d36.F g_target b35 d35.k m35
 have g_sizeW:=mf (P:=l.prog) (w:=w) (mg:=mg) (base:=base) d37.F v12 b37 m37 15
 have g_putIn:=mh (P:=l.prog) (w:=w) (mg:=mg) (base:=base) d38.F Gb0 b38 m38 15
 have g_straightT:=lg d39.F Gb0 g_lreads b34 d34.k m34 g_sizeW b37 d37.k m37 g_putIn b38 d38.k m38
 have g_straightL:=lh d40.F Gb0 g_target b35 d35.k m35 g_toldIn b36 d36.k m36 g_straightT b39 d39.k m39
 have g_chain:=tF d41.F Gb0 g_digit b22 d22.k m22 g_targets b28 d28.k m28 g_target b35 d35.k m35 g_tape b21 d21.k m21 g_names b23 d23.k m23
 have g_right:=qw d42.F g_straightL b40 d40.k m40 g_madeS b13 d13.k m13 g_same b33 d33.k m33
 exact wt F43 Gb0 g_book b31 d31.k m31 g_chain b41 d41.k m41 g_right b42 d42.k m42
theorem walk {l:PySem.W.OpenLaw} {q:Program} {loose:List Str} {XP:(Str->Option Value)->Heap->Prop} {YP:World->Heap->Prop} {d:DefRec} {K:Params->PySem.W.Frag} (hn:l.most=some 63) (hdf:d.params.defaults=[])
  (hY: ∀ (w:World) (h:Heap),YP w h->(K w.params).In h) (hrec: ∃ e∈PyProof.Rows.recsOf q,e.name="put_otherwise") (hKt: ∀ w:World,PySem.W.noTabs (K w.params)=true)
  (F: ∀ (w:World) (mg:Str->Option Value) (fa c Pt:Addr) (h:Heap),(K w.params).In h->h.Ns mainGlobals mg->mg d.name=some (.ref fa)->uk h mg "put_otherwise" c Pt->
   ∃ fd:FuncData,(∀ (s:Shared) (u:Value),BindsTo s fd ⟨[u],[]⟩ [("script",u)])/\ ∀ base:Heap,(K w.params).In base->base.Ns mainGlobals mg->PySem.W.CodeHd base c Pt->base.BuiltinsAt mg Pt->ar l.prog w (K w.params) mg base CX0 211 fa fd ["script"] (oU (K w.params) Pt)):
  PySem.W.WalkO q loose XP YP l.row.toRowW d [] (fun f vs=>PySem.call f vs):=
 L2.walk_ofT (n:=63) (k:=211) (x:="script") (nm:="put_otherwise") (sp:=fun w Pt=>oU (K w.params) Pt) hn (by decide) hdf ⟨rfl,by decide,by decide⟩ hY hrec hKt F (fun _ Pt H a ns hl hP hS=>⟨a,ns,rfl,hS,hl,.inl hP,fun _=>rfl⟩)
end My
open PySem PySem.W PyProof.Rows
set_option maxRecDepth 100000 in
set_option maxHeartbeats 0 in
theorem PySem.Challenge.cw_boughworth_k11_books_made_straight_holds : PySem.Challenge.rw_boughworth_k11_books_made_straight.Holds := by
 refine My.parts.c My.parts.a0 My.parts.a1 My.parts.e0 My.parts.e1 My.parts.b0 My.parts.b1 ?_
 delta My.parts
 dsimp only
 k_fill
 refine My.walk (l:=PySem.Challenge.rw_boughworth_k11_books_made_straight) rfl rfl (fun w h Y=>PySem.W.km_in_of Y) ?R ?T ?F
 case R=>exact ⟨_,List.mem_of_getElem? (i:=17) rfl,rfl⟩
 case T=>exact fun w=>rfl
 case F=>
  intro w mg fa cS Pt h KX G hmg hTb
  refine' My.all_mk KX G hmg hTb ?d1 ?d2 ?d3 ?d4 ?d5 ?d6 ?d7 ?d8 ?d9 ?d10 ?d11 ?d12 ?d13 ?d14 ?d15 ?d16 ?d17 ?d18 ?d19 ?d20 ?d21 ?d22 ?d23 ?d24 ?d25 ?d26 ?d27 ?d28 ?d29 ?d30 ?d31 ?d32 ?d33 ?d34 ?d35 ?d36 ?d37 ?d38 ?d39 ?d40 ?d41 ?d42 ?d43 ?z1 ?z2 ?z3 ?z4 ?z5 ?z6 ?z7 ?z8 ?z9 ?z10 ?z11 ?z12 ?z13 ?z14 ?i1 ?aI ?lD ?e1 ?e2 ?e3 ?e4 ?e5 ?e6 ?nD ?aQ ?lR
  (case d1=>exact My.Df.of (by k_is) (by k_is) (by k_is) (by k_is))
  (case d2=>exact My.Df.of (by k_is) (by k_is) (by k_is) (by k_is))
  (case d3=>exact My.Df.of (by k_is) (by k_is) (by k_is) (by k_is))
  (case d4=>exact My.Df.of (by k_is) (by k_is) (by k_is) (by k_is))
  (case d5=>exact My.Df.of (by k_is) (by k_is) (by k_is) (by k_is))
  (case d6=>exact My.Df.of (by k_is) (by k_is) (by k_is) (by k_is))
  (case d7=>exact My.Df.of (by k_is) (by k_is) (by k_is) (by k_is))
  (case d8=>exact My.Df.of (by k_is) (by k_is) (by k_is) (by k_is))
  (case d9=>exact My.Df.of (by k_is) (by k_is) (by k_is) (by k_is))
  (case d10=>exact My.Df.of (by k_is) (by k_is) (by k_is) (by k_is))
  (case d11=>exact My.Df.of (by k_is) (by k_is) (by k_is) (by k_is))
  (case d12=>exact My.Df.of (by k_is) (by k_is) (by k_is) (by k_is))
  (case d13=>exact My.Df.of (by k_is) (by k_is) (by k_is) (by k_is))
  (case d14=>exact My.Df.of (by k_is) (by k_is) (by k_is) (by k_is))
  (case d15=>exact My.Df.of (by k_is) (by k_is) (by k_is) (by k_is))
  (case d16=>exact My.Df.of (by k_is) (by k_is) (by k_is) (by k_is))
  (case d17=>exact My.Df.of (by k_is) (by k_is) (by k_is) (by k_is))
  (case d18=>exact My.Df.of (by k_is) (by k_is) (by k_is) (by k_is))
  (case d19=>exact My.Df.of (by k_is) (by k_is) (by k_is) (by k_is))
  (case d20=>exact My.Df.of (by k_is) (by k_is) (by k_is) (by k_is))
  (case d21=>exact My.Df.of (by k_is) (by k_is) (by k_is) (by k_is))
  (case d22=>exact My.Df.of (by k_is) (by k_is) (by k_is) (by k_is))
  (case d23=>exact My.Df.of (by k_is) (by k_is) (by k_is) (by k_is))
  (case d24=>exact My.Df.of (by k_is) (by k_is) (by k_is) (by k_is))
  (case d25=>exact My.Df.of (by k_is) (by k_is) (by k_is) (by k_is))
  (case d26=>exact My.Df.of (by k_is) (by k_is) (by k_is) (by k_is))
  (case d27=>exact My.Df.of (by k_is) (by k_is) (by k_is) (by k_is))
  (case d28=>exact My.Df.of (by k_is) (by k_is) (by k_is) (by k_is))
  (case d29=>exact My.Df.of (by k_is) (by k_is) (by k_is) (by k_is))
  (case d30=>exact My.Df.of (by k_is) (by k_is) (by k_is) (by k_is))
  (case d31=>exact My.Df.of (by k_is) (by k_is) (by k_is) (by k_is))
  (case d32=>exact My.Df.of (by k_is) (by k_is) (by k_is) (by k_is))
  (case d33=>exact My.Df.of (by k_is) (by k_is) (by k_is) (by k_is))
  (case d34=>exact My.Df.of (by k_is) (by k_is) (by k_is) (by k_is))
  (case d35=>exact My.Df.of (by k_is) (by k_is) (by k_is) (by k_is))
  (case d36=>exact My.Df.of (by k_is) (by k_is) (by k_is) (by k_is))
  (case d37=>exact My.Df.of (by k_is) (by k_is) (by k_is) (by k_is))
  (case d38=>exact My.Df.of (by k_is) (by k_is) (by k_is) (by k_is))
  (case d39=>exact My.Df.of (by k_is) (by k_is) (by k_is) (by k_is))
  (case d40=>exact My.Df.of (by k_is) (by k_is) (by k_is) (by k_is))
  (case d41=>exact My.Df.of (by k_is) (by k_is) (by k_is) (by k_is))
  (case d42=>exact My.Df.of (by k_is) (by k_is) (by k_is) (by k_is))
  (case d43=>exact My.Df.of (by k_is) (by k_is) (by k_is) (by k_is))
  (case z1=>k_is)
  (case z2=>k_is)
  (case z3=>k_is)
  (case z4=>k_is)
  (case z5=>k_is)
  (case z6=>k_is)
  (case z7=>k_is)
  (case z8=>k_is)
  (case z9=>k_is)
  (case z10=>k_is)
  (case z11=>k_is)
  (case z12=>k_is)
  (case z13=>k_is)
  (case z14=>k_is)
  (case i1=>k_is)
  (case aI=>k_is)
  (case lD=>k_is)
  (case e1=>first | rfl | k_is)
  (case e2=>first | rfl | k_is)
  (case e3=>first | rfl | k_is)
  (case e4=>first | rfl | k_is)
  (case e5=>first | rfl | k_is)
  (case e6=>first | rfl | k_is)
  (case nD=>first | rfl | decide | k_is)
  (case aQ=>k_is)
  (case lR=>k_is)
