import PyProof.Rows.All
import Wide.All
import OpenK.AllK
import Wide.FinOn
import Lean
import PyProof.EqAt
import PyProof.EqKinds
import PyProof.TupleCall
import PyProof.TupleKey
import PyProof.DictKeyH
import PyProof.SumWalk
import KE.KDictList
import PyProof.NeKinds
import PyProof.Draws
import PyProof.ZipIter
import PyProof.ListMulRoad
import KE.RegKIsAll
import OpenK.KOwn
import PyProof.EnumMake
import PyProof.Rows.StrNews
import PyProof.StrCalls6
import PyProof.ToksMono
import PyProof.StrLawsReplace
import PyProof.StrLawsJoin
import PyProof.Rows.StrSplitJoin
import PyProof.DictValues
import PyProof.DictWalks
import KE.KRevIter
import Flt.Sum
import PyProof.FitsBits
import PyProof.DictTable
import KE.KItemsList
import PyProof.DictItems
import KE.KPairComp
import PyProof.CollectWalk
import PySem.Challenge.RW_boughworth_k10_level_or_not
set_option Elab.async false
set_option linter.all false
set_option bootstrap.genMatcherCode false
set_option compiler.extract_closed false
set_option genSizeOfSpec false
set_option maxRecDepth 100000
set_option maxHeartbeats 4000000
namespace My
open PySem PySem.W PySem.Calls PyProof.Rows
theorem with_hl {P R Q:Prop} (hl:P) (hc:R) (main:Q):Q:=main
structure Parts (Q:Prop):Type where
 {P1:Prop}
 {P2:Prop}
 {P3:Prop}
 {P4:Prop}
 {P5:Prop}
 {P6:Prop}
 {W:Prop}
 a0:P1
 a1:P2
 e0:P3
 e1:P4
 b0:P5
 b1:P6
 c:P1->P2->P3->P4->P5->P6->W->Q
noncomputable def xn (_:Params):Obj:={cls:=Value.type "tuple",data:=Data.seq #[]}
noncomputable def xm (_:Params):Obj:={cls:=Value.none,data:=Data.fields #[]}
noncomputable def xk (_:Params):Obj:={cls:=Value.type "code",data:=Data.fields #[Value.str (Str.ofString "<module>") 182,Value.str (Str.ofString "<module>") 183,Value.str (Str.ofString "/claim/cut.py") 184,Value.int 1 0,Value.int 0 0,Value.int 0 0,Value.int 0 0,Value.int 0 0,Value.ref 11,Value.bool false,Value.int 181 0,Value.ref 12,Value.none,Value.none,Value.none,Value.none,Value.int 185 0,Value.int 1 0,Value.str (Str.ofString "/claim/cut.py") 186]}
noncomputable def xj (_:Params):Obj:={cls:=Value.type "frame",slots:= #[some (Value.ref 13),some (Value.ref 3),some (Value.ref 3),none,some (Value.str (Str.ofString "__main__") 164),none,some (Value.ref 0)]}
noncomputable def wq (P:Params):BT:=(BT.node (boot_o_0 P) (BT.node (boot_o_1 P) (BT.node (boot_o_3 P) (BT.node (boot_o_7 P) BT.nil BT.nil) (BT.node (xn P) BT.nil BT.nil)) (BT.node (boot_o_5 P) (BT.node (boot_o_9 P) BT.nil BT.nil) (BT.node (xk P) BT.nil BT.nil))) (BT.node (boot_o_2 P) (BT.node (boot_o_4 P) (BT.node (boot_o_8 P) BT.nil BT.nil) (BT.node (xm P) BT.nil BT.nil)) (BT.node (boot_o_6 P) (BT.node (boot_o_10 P) BT.nil BT.nil) (BT.node (xj P) BT.nil BT.nil))))
noncomputable def vq (p:Program):Env:={scope:=p.main.scope,locals:=mainNs,globals:=mainNs,cells:=[],code:=.ref 13,frame:=some 14}
noncomputable abbrev hC (p:Program):Code:=.body (behindTheImports p) (vq p)
noncomputable def hSt (w:World) (os:OsState):SharedT:=⟨wq w.params,15,{},#[],{},187,os⟩
abbrev md:Pos:=⟨0,0,0,0⟩
noncomputable abbrev wt (p:Program):Thread:=piecesOf (behindTheImports p) (vq p) (hC p) md [topFrame md]
noncomputable abbrev sQ (p:Program) (n:Nat) (w:World) (os:OsState):Option (Flow×SharedT×Code×Pos):=PySem.W.Fast.tw10110043849684766642 PySem.W.Fast.tw14364793385576792824 p w 11 (some (.ref 6)) 1 n (hSt w os) (wt p)
theorem xo {p:Program} {w:World} {n₀:Nat} {ann:Option Value} (s:Shared) (c:Code) (pos:Pos):topRun treeTable p w n₀ ann 2 s ⟨doneF .next,c,pos,[topFrame md]⟩=some s:=by
 obtain ⟨h,g,d,t,o⟩:=s
 kernel_rfl
theorem wu (P:Params):((boot_heap P).isNs mainGlobals&&(#[]:Array GenState).size==0,(boot_heap P).objs.size,(boot_heap P).nsMap mainGlobals "__annotations__")=(true,11,some (.ref 6)):=by kernel_rfl
theorem left_of {p q:Program} {loose:List Str} {Xt:Shared->Bool} {α:Type} {Yf:Shared->α} {Ya:World->α} {N n:Nat} {g0:Bool} {posE:Pos}
  (e:opening p=plainProg p.main.scope.names) (hN:Nat.ble 600 N=true) (f: ∀ s,fenceModules? p s=some s) (le:Nat.ble (12+ (1+ (n+2))) N=true)
  (pre: ∀ (w:World) (os:OsState),topGo treeTable p w 11 (some (.ref 6)) 12 ⟨boot_heap w.params,#[],boot_drawn,boot_toks,os⟩ (topStub p)=some ((hSt w os).abs,⟨denote treeTable (hC p),hC p,md,[topFrame md]⟩))
  (block: ∀ (w:World) (os:OsState),segRun treeTable p w 11 (some (.ref 6)) 1 1 (hSt w os).abs (blockOf (behindTheImports p) (vq p) (hC p) md [topFrame md])=some (.next,(hSt w os).abs,hC p,md))
  (runA: ∀ (w:World) (os:OsState),(sQ p n w os).map (fun r=>(r.1,r.2.2,(staticsOk (importedModules p.main.body) (boot_heap w.params) r.2.1.abs.heap&&namesBound p r.2.1.abs.heap&&gensDone r.2.1.abs&&laidKept (boot_heap w.params) r.2.1.abs.heap),(openSeen q loose (importedModules p.main.body) Xt g0 r.2.1.abs).1,Yf r.2.1.abs))=some (.next,(hC p,posE),true,(openGood q loose).1,Ya w))
  (runE: ∀ (w:World) (os:OsState),(sQ p n w os).map (fun r=>((openSeen q loose (importedModules p.main.body) Xt g0 r.2.1.abs).2.1,(openSeen q loose (importedModules p.main.body) Xt g0 r.2.1.abs).2.2.1))=some ((openGood q loose).2.1,(openGood q loose).2.2.1))
  (runB: ∀ (w:World) (os:OsState),(sQ p n w os).map (fun r=>(openSeen q loose (importedModules p.main.body) Xt g0 r.2.1.abs).2.2.2)=some (openGood q loose).2.2.2):LeftO p q loose Xt Yf Ya N g0:=by
 intro w
 obtain ⟨⟨h,gs,d,k,os⟩,e1,e'⟩:=Option.map_eq_some_iff.mp (boot_open e hN f w)
 obtain ⟨rfl,rfl,rfl,rfl⟩:h=boot_heap w.params/\gs= #[]/\d=boot_drawn/\k=boot_toks:=by simpa using e'
 obtain ⟨z1,z2,z3⟩:_/\_/\_:=by simpa only [Prod.mk.injEq]using wu w.params
 have E:segRunT treeTable p w 11 (some (.ref 6)) 1 n (hSt w os) (wt p)=sQ p n w os:=by
  unfold sQ
  rw [<- PySem.W.Fast.te10110043849684766642,<- PySem.W.Fast.te14364793385576792824]
 have A:=runA w os
 have B:=runB w os
 have E2:=runE w os
 obtain ⟨⟨fl,x,c,pos⟩,r1,r2⟩:=Option.map_eq_some_iff.mp A
 simp only [Prod.mk.injEq]at r2
 obtain ⟨rfl,⟨rfl,rfl⟩,l1,l2a,yb⟩:=r2
 have l2e:((openSeen q loose (importedModules p.main.body) Xt g0 x.abs).2.1,(openSeen q loose (importedModules p.main.body) Xt g0 x.abs).2.2.1)=((openGood q loose).2.1,(openGood q loose).2.2.1):=by rw [r1]at E2;exact Option.some.inj E2
 have l2d:(openSeen q loose (importedModules p.main.body) Xt g0 x.abs).2.2.2=(openGood q loose).2.2.2:=by rw [r1]at B;exact Option.some.inj B
 have l2:openSeen q loose (importedModules p.main.body) Xt g0 x.abs=openGood q loose:=Prod.ext l2a (Prod.ext (Prod.mk.inj l2e).1 (Prod.ext (Prod.mk.inj l2e).2 l2d))
 have s1:=segRun_of (E.trans r1)
 have t1:=piece_app (rest:=[]) s1 (piece_nil (xo x.abs _ _))
 rw [List.append_nil]at t1
 have t3:=go_top (pre w os) (piece_block (block w os) t1)
 have r:=topRun_mono (N- (12+ (1+ (n+2)))) _ _ _ _ t3
 rw [show 12+ (1+ (n+2)) + (N- (12+ (1+ (n+2))))=N by have:=Nat.le_of_ble_eq_true le;omega]at r
 have t:topFrom treeTable p w N ⟨boot_heap w.params,#[],boot_drawn,boot_toks,os⟩=some x.abs:=by
  unfold topFrom
  dsimp only
  rw [z1,z2,z3,r]
  show (match staticsOk _ _ _&&namesBound _ _&&gensDone _&&laidKept _ _ with | true=>_ | false=>_)=_
  rw [l1]
 unfold openEnds
 rw [e1]
 change Option.map _ (topFrom treeTable p w N _)=_
 rw [t]
 exact congrArg some (Prod.ext l2 yb)
end My
open PySem PySem.W PyProof.Rows in
set_option maxHeartbeats 0 in
noncomputable def My.parts:My.Parts PySem.Challenge.rw_boughworth_k10_level_or_not.Holds:=by
 apply My.Parts.mk
 case c=>
  intro ha0 ha1 he0 he1 hb0 hb1 hW
  w_on;o_law
  apply My.with_hl
  case main=>
   k_head;(case hw=>w_witness2)
  case hc=>exact hW
  case hl=>
   refine My.left_of (n:=1950) (posE:=⟨357,0,376,15⟩) ?e ?hN ?f ?le ?pre ?block (byRow2 "special-get-raises" ha0 ha1) (byRow2 "special-get-raises" he0 he1) (byRow2 "special-get-raises" hb0 hb1)
   case e=>kernel_rfl
   case hN=>decide
   case f=>intro s;kernel_rfl
   case le=>decide
   case pre=>(intro w os;kernel_rfl)
   case block=>(intro w os;kernel_rfl)
 case a0=>(intro w os;kernel_rfl)
 case a1=>(intro w os;kernel_rfl)
 case e0=>(intro w os;kernel_rfl)
 case e1=>(intro w os;kernel_rfl)
 case b0=>(intro w os;kernel_rfl)
 case b1=>(intro w os;kernel_rfl)
namespace PySem
section
variable {prog:Program} {w:World} {K K2:Type} [DecidableEq K] [DecidableEq K2] {knd:KeyKind prog w K} {kn2:KeyKind prog w K2}
noncomputable def IsPairKey (knd:KeyKind prog w K) (kn2:KeyKind prog w K2) (h:Heap) (p:List K×K2) (a:Addr):Prop:=
 ∃ o items n b v,h.get? a=some o/\o.cls=.type "tuple"/\o.data=.seq items n/\items.toList=[.ref b,v]/\IsTupleKey knd h p.1 b/\kn2.is p.2 v=true
noncomputable def iR (knd:KeyKind prog w K) (kn2:KeyKind prog w K2) (p:List K×K2):Int:=reduceHash (Builtin.Tuple.tupleHashOf [tupleKeyHash knd p.1,kn2.hash p.2])
variable {A:Around} {E:Value->Shared->Prop} {s:Shared}
theorem IsPairKey.typeIs {p:List K×K2} {a:Addr} (x:IsPairKey knd kn2 s.heap p a):s.TypeIs (.ref a) "tuple":=by
 obtain ⟨o,_,_,_,_,e,c,_⟩:=x
 exact ⟨o,e,c⟩
theorem IsPairKey.inj {h:Heap} {p q:List K×K2} {a:Addr} (x:IsPairKey knd kn2 h p a) (y:IsPairKey knd kn2 h q a):p=q:=by
 obtain ⟨o,i,n,b,v,e,_,d,t,k,m⟩:=x
 obtain ⟨o',i',n',b',v',e',_,d',t',k',m'⟩:=y
 rw [e]at e';cases e'
 rw [d]at d';cases d'
 rw [t]at t'
 have h1:b=b'/\v=v':=by simpa using t'
 obtain ⟨rfl,rfl⟩:=h1
 exact Prod.ext (k.inj k') (kn2.inj _ _ _ m m')
theorem IsPairKey.keeps {h h':Heap} {p:List K×K2} {a d:Addr} {o:Obj} {es ep} (x:IsPairKey knd kn2 h p a) (ho:h.get? d=some o) (hd:o.data=.dict es ep) (hs:Heap.SameBut d h h'):IsPairKey knd kn2 h' p a:=by
 obtain ⟨o',i,n,b,v,e,c,dt,t,k,m⟩:=x
 refine ⟨o',i,n,b,v,?_,c,dt,t,k.keeps ho hd hs,m⟩
 have ne:a≠d:=fun z=>by
  subst z
  rw [ho]at e;cases e
  rw [hd]at dt;cases dt
 rw [<- e]
 exact hs.2 a ne
theorem fN {p:List K×K2} {a:Addr} {Q:Int->Shared->Prop} (hu:A.units+8<cLine) (hk:IsPairKey knd kn2 s.heap p a) (h:Q (iR knd kn2 p) {s with toks:=s.toks+ (p.1.length+1+1+1)}):
  wpAny (model prog w) A (pyHash (.ref a)) Q E s:=by
 have hT:=hk.typeIs
 obtain ⟨o,items,n,b,v,ho,_,hd,hi,hb,hv⟩:=hk
 unfold pyHash
 first | unfold pyHashByItsType | skip
 first | refine wpAny_bind (wpAny_cRoomFor_or (.inr (by omega)) ?_) | skip
 refine wpAny_bind (wpAny_specialOf hT F.slot_tuple_hash.lookup ?_)
 show wpAny _ _ (if (some (Value.builtin "tuple.__hash__")==some Value.none)=true then _ else _) Q E s
 rw [if_neg (by rw [beq_builtin_none];exact Bool.false_ne_true)]
 refine wpAny_bind (wpAny_specialOf hT F.slot_tuple_hash.lookup ?_)
 show wpAny _ _ (callSpecialIfBoundUnlessNone? (.ref a) "__hash__" _ >>= _) Q E s
 refine wpAny_bind (wpAny_callSpecialIfBoundUnlessNone?_slot hT F.slot_tuple_hash (wpAny_call_entry F.slot_tuple_hash hT F.entry_tuple_hash ?_ (F.args_tuple_hash_1 _)))
 show wpAny _ _ (Builtin.Tuple.tupleItemsOf (.ref a) >>= _) _ _ s
 refine wpAny_bind (wpAny_tupleItemsOf ho hd ?_)
 refine wpAny_bind ?_
 rw [<- Array.forIn_toList,hi,List.forIn_cons]
 refine wpAny_bind (wpAny_bind (wpAny_pyHash_tuple (by show _<cLine;simp;omega) hb ?_))
 refine wpAny_pure ?_
 show wpAny _ _ (forIn [v] #[tupleKeyHash knd p.1] _) _ _ _
 rw [List.forIn_cons]
 refine wpAny_bind (wpAny_bind (kn2.pyHash hv ?_))
 refine wpAny_pure ?_
 show wpAny _ _ (forIn [] _ _) _ _ _
 rw [List.forIn_nil]
 refine wpAny_pure ?_
 show wpAny _ _ (retInt (Builtin.Tuple.tupleHashOf [tupleKeyHash knd p.1,kn2.hash p.2])) _ _ _
 refine wpAny_ret_mkInt ?_
 generalize hz:Builtin.Tuple.tupleHashOf [tupleKeyHash knd p.1,kn2.hash p.2]=z
 show wpAny _ _ (if (decide (-(2:Int) ^63<=z)&&decide (z<2^63))=true then _ else _) Q E _
 unfold iR reduceHash at h
 rw [hz]at h
 by_cases hr:(decide (-(2:Int) ^63<=z)&&decide (z<2^63))=true
 ·rw [if_pos hr]
  rw [if_pos hr]at h
  exact wpAny_pure (by simpa [Nat.add_assoc]using h)
 ·rw [if_neg hr]
  rw [if_neg hr]at h
  exact wpAny_bind (wpAny_rule (wpAny_pure (by simpa [Nat.add_assoc]using h)))
theorem lG (m:Nat) {ks:List K} {a:Addr} {Q:Bool->Shared->Prop} (hk:IsTupleKey knd s.heap ks a) (h:Q true s):wpAny (model prog w) A (eqIsQuiet (m+1) (.ref a)) Q E s:=by
 have hT:=hk.typeIs
 obtain ⟨o,items,n,ho,_,hd,hi⟩:=hk
 unfold eqIsQuiet
 refine wpAny_bind (wpAny_specialOf hT F.slot_tuple_eq.lookup ?_)
 show wpAny _ _ (isInstance (.ref a) (.type "tuple") >>= _) _ _ s
 refine wpAny_bind (wpAny_isInstance hT isSubtype_tuple_tuple ?_)
 simp only [Bool.not_true,Bool.false_eq_true,if_false]
 refine wpAny_bind (wpAny_seqItems ho hd (wpAny_bind ?_))
 show wpAny _ _ (forIn items _ _) _ _ s
 rw [<- Array.forIn_toList]
 refine wpAny_forIn_list _ (fun rest r s'=>r.1=none/\s'=s/\ ∀ v∈rest,carriedByValue v=true) _ ?_ ?_ _ _ ⟨rfl,rfl,hi.byValue⟩
 ·rintro v rest r s' ⟨hr,rfl,hall⟩
  rw [eqIsQuiet_byValue _ (hall v List.mem_cons_self)]
  refine wpAny_bind (wpAny_pure ?_)
  simp only [Bool.not_true,Bool.false_eq_true,if_false]
  exact wpAny_pure ⟨rfl,rfl,fun u hu'=>hall u (List.mem_cons_of_mem _ hu')⟩
 ·rintro ⟨r1,r2⟩ s' ⟨hr,rfl,_⟩
  simp only at hr
  subst hr
  exact wpAny_pure h
theorem eD {p:List K×K2} {a:Addr} {Q:Bool->Shared->Prop} (hk:IsPairKey knd kn2 s.heap p a) (h:Q true s):wpAny (model prog w) A (eqIsQuiet 8 (.ref a)) Q E s:=by
 have hT:=hk.typeIs
 obtain ⟨o,items,n,b,v,ho,_,hd,hi,hb,hv⟩:=hk
 unfold eqIsQuiet
 refine wpAny_bind (wpAny_specialOf hT F.slot_tuple_eq.lookup ?_)
 show wpAny _ _ (isInstance (.ref a) (.type "tuple") >>= _) _ _ s
 refine wpAny_bind (wpAny_isInstance hT isSubtype_tuple_tuple ?_)
 simp only [Bool.not_true,Bool.false_eq_true,if_false]
 refine wpAny_bind (wpAny_seqItems ho hd ?_)
 refine wpAny_bind ?_
 show wpAny _ _ (forIn items _ _) _ _ s
 rw [<- Array.forIn_toList,hi,List.forIn_cons]
 refine wpAny_bind (wpAny_bind (lG 6 hb ?_))
 simp only [Bool.not_true,Bool.false_eq_true,if_false]
 refine wpAny_pure ?_
 show wpAny _ _ (forIn [v] (none,()) _) _ _ _
 rw [List.forIn_cons,eqIsQuiet_byValue _ (kn2.byValue _ _ hv)]
 refine wpAny_bind (wpAny_bind (wpAny_pure ?_))
 simp only [Bool.not_true,Bool.false_eq_true,if_false]
 refine wpAny_pure ?_
 show wpAny _ _ (forIn [] _ _) _ _ _
 rw [List.forIn_nil]
 exact wpAny_pure (wpAny_pure h)
theorem kl {p q:List K×K2} {a b:Addr} {R:Fin->Shared->Prop} (hu:A.units+4<cLine) (hx:IsPairKey knd kn2 s.heap p a) (hy:IsPairKey knd kn2 s.heap q b) (h:R (.done (.ret (.bool (decide (p=q))))) s):
  wpAny (model prog w) A (Builtin.«tuple.__eq__» ⟨[.ref a,.ref b],[]⟩) R E s:=by
 have hTb:=hy.typeIs
 obtain ⟨oa,xs,na,a1,v1,hoa,_,hda,hia,hka,hva⟩:=hx
 obtain ⟨ob,ys,nb,b1,v2,hob,_,hdb,hib,hkb,hvb⟩:=hy
 show wpAny _ _ (isInstance (.ref b) (.type "tuple") >>= _) _ _ s
 refine wpAny_bind (wpAny_isInstance hTb isSubtype_tuple_tuple ?_)
 simp only [Bool.not_true,Bool.false_eq_true,if_false]
 refine wpAny_bind (wpAny_tupleItemsOf hoa hda (wpAny_bind (wpAny_tupleItemsOf hob hdb (wpAny_bind ?_))))
 have hs:xs.size=ys.size:=by rw [<- Array.length_toList,<- Array.length_toList,hia,hib];rfl
 rw [hia,hib]
 show wpAny _ _ (forIn [(Value.ref a1,Value.ref b1),(v1,v2)] (none,()) _) _ _ _
 rw [List.forIn_cons]
 refine wpAny_bind (wpAny_bind (wpAny_eqBool_tuple (by omega) hka hkb ?_))
 by_cases h1:p.1=q.1
 ·rw [decide_eq_true h1]
  simp only [Bool.not_true,Bool.false_eq_true,if_false]
  refine wpAny_pure ?_
  show wpAny _ _ (forIn [(v1,v2)] (none,()) _) _ _ _
  rw [List.forIn_cons]
  refine wpAny_bind (wpAny_bind (kn2.eqBool (a:=p.2) (b:=q.2) hva hvb ?_))
  by_cases h2:p.2=q.2
  ·rw [decide_eq_true h2]
   simp only [Bool.not_true,Bool.false_eq_true,if_false]
   refine wpAny_pure ?_
   show wpAny _ _ (forIn [] _ _) _ _ _
   rw [List.forIn_nil]
   rw [decide_eq_true (Prod.ext h1 h2)]at h
   refine wpAny_pure (wpAny_pure ?_)
   show R (.done (.ret (.bool (xs.size==ys.size)))) s
   rw [hs,beq_self_eq_true]
   exact h
  ·rw [decide_eq_false h2]
   simp only [Bool.not_false,if_true]
   rw [decide_eq_false fun e=>h2 (congrArg Prod.snd e)]at h
   exact wpAny_bind (wpAny_pure (wpAny_pure (wpAny_pure (wpAny_pure h))))
 ·rw [decide_eq_false h1]
  simp only [Bool.not_false,if_true]
  rw [decide_eq_false fun e=>h1 (congrArg Prod.fst e)]at h
  exact wpAny_bind (wpAny_pure (wpAny_pure (wpAny_pure (wpAny_pure h))))
theorem fO {p q:List K×K2} {a b:Addr} {Q:Bool->Shared->Prop} (hu:A.units+8<cLine) (hx:IsPairKey knd kn2 s.heap p a) (hy:IsPairKey knd kn2 s.heap q b) (h:Q (decide (p=q)) s):
  wpAny (model prog w) A (eqBool (.ref a) (.ref b)) Q E s:=by
 unfold eqBool
 try with_reducible refine wpAny_holding ?_
 show wpAny _ _ (if (Value.ref a==Value.ref b)=true then _ else _) Q E s
 by_cases hab:(Value.ref a==Value.ref b)=true
 ·rw [if_pos hab]
  have e:a=b:=by have:=eq_of_beq hab;injection this
  subst e
  obtain rfl:=hx.inj hy
  exact wpAny_bind (wpAny_rule (wpAny_pure (by simpa using h)))
 ·rw [if_neg hab]
  exact wpAny_bind (wpAny_richCompare_same_room (op:=.Eq) hx.typeIs hy.typeIs F.slot_tuple_eq
   (wpAny_call_entry F.slot_tuple_eq hx.typeIs F.entry_tuple_eq (kl (by simp;omega) hx hy ⟨_,rfl,(fun e=>nomatch e),wpAny_truthy_bool h⟩) (F.args_tuple_eq_2 _ _)) (by omega))
end
noncomputable def eR {prog:Program} {w:World} {K K2:Type} [DecidableEq K] [DecidableEq K2] (knd:KeyKind prog w K) (kn2:KeyKind prog w K2):HeapKind prog w (List K×K2) where
 is:=IsPairKey knd kn2
 hash:=iR knd kn2
 draws:=fun p=>p.1.length+1+1+1
 room:=fun A=>A.units+8<cLine
 inj:=fun hx hy=>hx.inj hy
 keeps:=fun x ho hd hs=>x.keeps ho hd hs
 pyHash:=fun hu hk h=>fN hu hk h
 eqBool:=fun hu hx hy h=>fO hu hx hy h
 quiet:=fun hk h=>eD hk h
end PySem
namespace L2
open PySem PySem.Spec PyProof.Rows
noncomputable abbrev Key:=Sum Int Str
noncomputable def jz:Key->Value->Bool
 | .inl k,v=>Value.isInt k v
 | .inr x,v=>Value.isStrOf x v
noncomputable def xf (w:World):Key->Int
 | .inl k=>hashInt k
 | .inr x=>hashStr w x
theorem bp: ∀ {k:Key} {v:Value},jz k v=true->(∃ i t,k=Sum.inl i/\v=Value.int i t)\/(∃ x t,k=Sum.inr x/\v=Value.str x t)
 | .inl i,v,h=>by
  obtain ⟨t,e⟩:=Value.isInt_shape (k:=i) (v:=v) h
  exact .inl ⟨i,t,rfl,e⟩
 | .inr x,v,h=>by
  obtain ⟨t,e⟩:=Value.isStrOf_shape (x:=x) (v:=v) h
  exact .inr ⟨x,t,rfl,e⟩
theorem qp (i:Int) (t:Tok):jz (.inl i) (.int i t)=true:=by simp [jz,Value.isInt]
theorem bg (x:Str) (t:Tok):jz (.inr x) (.str x t)=true:=by simp [jz,Value.isStrOf]
theorem vi (a b:Int):decide ((Sum.inl a:Key)=Sum.inl b)=(a==b):=by
 by_cases e:a=b
 ·subst e;simp
 ·have h: ¬ (Sum.inl a:Key)=Sum.inl b:=fun q=>e (Sum.inl.inj q)
  rw [decide_eq_false h]
  exact (beq_eq_false_iff_ne.mpr e).symm
theorem vf (a b:Str):decide ((Sum.inr a:Key)=Sum.inr b)=decide (a=b):=by
 by_cases e:a=b
 ·subst e;simp
 ·have h: ¬ (Sum.inr a:Key)=Sum.inr b:=fun q=>e (Sum.inr.inj q)
  rw [decide_eq_false h,decide_eq_false e]
theorem vh (a:Int) (b:Str):decide ((Sum.inl a:Key)=Sum.inr b)=false:=decide_eq_false (fun q=>nomatch q)
theorem vg (a:Str) (b:Int):decide ((Sum.inr a:Key)=Sum.inl b)=false:=decide_eq_false (fun q=>nomatch q)
noncomputable def aX (prog:Program) (w:World):PySem.KeyKind prog w Key where
 is:=jz
 hash:=xf w
 inj:=fun v a b ha hb=>by
  rcases bp ha with ⟨i,t,rfl,rfl⟩ | ⟨x,t,rfl,rfl⟩
  ·rcases bp hb with ⟨j,u,rfl,e⟩ | ⟨y,u,rfl,e⟩
   ·injection e with e1 _;rw [e1]
   ·exact nomatch e
  ·rcases bp hb with ⟨j,u,rfl,e⟩ | ⟨y,u,rfl,e⟩
   ·exact nomatch e
   ·injection e with e1 _;rw [e1]
 byValue:=fun k v h=>by
  rcases bp h with ⟨i,t,rfl,rfl⟩ | ⟨x,t,rfl,rfl⟩ <;> rfl
 pyHash:=fun hv h=>by
  rcases bp hv with ⟨i,t,rfl,rfl⟩ | ⟨x,t,rfl,rfl⟩
  ·exact wpAny_pyHash_int h
  ·exact wpAny_pyHash_str h
 eqBool:=fun hu hv h=>by
  rcases bp hu with ⟨i,t,rfl,rfl⟩ | ⟨x,t,rfl,rfl⟩
  ·rcases bp hv with ⟨j,u,rfl,rfl⟩ | ⟨y,u,rfl,rfl⟩
   ·rw [vi]at h;exact wpAny_eqBool_int h
   ·rw [vh]at h;exact SeqAt.EqAt.int_str i t y u _ _ _ _ h
  ·rcases bp hv with ⟨j,u,rfl,rfl⟩ | ⟨y,u,rfl,rfl⟩
   ·rw [vg]at h;exact SeqAt.EqAt.str_int x t j u _ _ _ _ h
   ·rw [vf]at h;exact wpAny_eqBool_str h
 «strs» :=fun k x t v h=>by
  rcases bp h with ⟨i,u,rfl,e⟩ | ⟨y,u,rfl,e⟩
  ·exact nomatch e
  ·injection e with e1 _
   subst e1
   cases v <;> rfl
theorem lX (prog:Program) (w:World) (i:Int) (t:Tok):(aX prog w).is (.inl i) (.int i t)=true:=qp i t
theorem lW (prog:Program) (w:World) (x:Str) (t:Tok):(aX prog w).is (.inr x) (.str x t)=true:=bg x t
inductive V where
 | non | bl (b:Bool) | int (i:Int) | str (x:Str) | byt (b:Array UInt8) | flt (b:UInt64) | ref (a:Addr) | ty (n:String)
 deriving DecidableEq
noncomputable def RelV:V->Value->Prop
 | .non,u=>u=Value.none
 | .bl b,u=>u=Value.bool b
 | .int i,u=> ∃ t,u=Value.int i t
 | .str x,u=> ∃ t,u=Value.str x t
 | .byt b,u=> ∃ t,u=Value.bytes b t
 | .flt b,u=> ∃ t,u=Value.float b t
 | .ref a,u=>u=Value.ref a
 | .ty n,u=>u=Value.type n
noncomputable abbrev Vals:List V->List Value->Prop:=Paired RelV
theorem Vals.length {xs:List V} {us:List Value} (r:Vals xs us):xs.length=us.length:=Paired.length r
theorem Vals.get: ∀ {xs:List V} {us:List Value} {i:Nat} {x:V},Vals xs us->xs[i]? =some x-> ∃ u,us[i]? =some u/\RelV x u
 | _,_,_,_,.nil,e=>by simp at e
 | _,_,0,_,.cons r _,e=>by simp at e;subst e;exact ⟨_,rfl,r⟩
 | _,_,i+1,x,.cons _ t,e=>by
  obtain ⟨u,h1,h2⟩:=Vals.get (i:=i) (x:=x) t (by simpa using e)
  exact ⟨u,by simpa using h1,h2⟩
theorem Vals.set {x:V} {u:Value} (r:RelV x u): ∀ {xs:List V} {us:List Value} (i:Nat),Vals xs us->Vals (xs.set i x) (us.set i u)
 | _,_,_,.nil=>.nil
 | _,_,0,.cons _ t=>.cons r t
 | _,_,i+1,.cons q t=>.cons q (Vals.set r i t)
theorem Vals.append: ∀ {xs ys:List V} {us ws:List Value},Vals xs us->Vals ys ws->Vals (xs++ys) (us++ws)
 | _,_,_,_,.nil,s=>s
 | _,_,_,_,.cons r t,s=>.cons r (Vals.append t s)
theorem Vals.take: ∀ {xs:List V} {us:List Value} (n:Nat),Vals xs us->Vals (xs.take n) (us.take n)
 | _,_,0,_=>.nil
 | _,_,_+1,.nil=>.nil
 | _,_,n+1,.cons r t=>.cons r (Vals.take n t)
theorem Vals.drop: ∀ {xs:List V} {us:List Value} (n:Nat),Vals xs us->Vals (xs.drop n) (us.drop n)
 | _,_,0,r=>r
 | _,_,_+1,.nil=>.nil
 | _,_,n+1,.cons _ t=>Vals.drop n t
theorem Vals.none_of: ∀ {xs:List V} {us:List Value} {i:Nat},Vals xs us->xs[i]? =none->us[i]? =none:=fun {xs us i} r e=>by
 have h1:=r.length
 have h2:xs.length<=i:=List.getElem?_eq_none_iff.mp e
 exact List.getElem?_eq_none_iff.mpr (by omega)
noncomputable def RelO:Option V->Option Value->Prop
 | some v,some u=>RelV v u
 | none,none=>True
 | _,_=>False
noncomputable def KV {κ:Type}:List (κ×V)->List (κ×Value)->Prop:=Paired fun (p:κ×V) (q:κ×Value)=>p.1=q.1/\RelV p.2 q.2
noncomputable def kV:Key->V
 | .inl i=>.int i
 | .inr x=>.str x
inductive HO where
 /-- a list -/
 | lst (xs:List V)
 /-- a tuple (never changes) -/
 | tup (xs:List V)
 /-- a dict whose keys are ints and texts; one whose keys are tuples of ints and texts (the empty one is both) -/
 | dK (kvs:List (Key×V)) | dT (kvs:List (List Key×V)) | dP (kvs:List ((List Key×Key)×V))
 /-- a set of ints: its members, its size -/
 | set (S:Int->Bool) (n:Nat)
 /-- an instance of the class at C, its dict at dx, its attributes -/
 | ins (C dx:Addr) (fs:List (Str×V))
 /-- the dict of the instance at x -/
 | own (x:Addr)
 /-- the dict of an exception -/
 | xd (fs:List (Str×V))
 /-- a bound method, f of x -/
 | met (f x:Addr)
 /-- a range object lo, lo + 1, .. below hi -/
 | rng (lo hi:Int)
 /-- a thing that is known to the object (the script; a dict while a loop walks it): read, never written while it is so -/
 | frz (o:Obj) (u:HO)
 /-- a code object's table -/
 | tbl (ps:Array Value)
 /-- any other thing, by what is true of its one object (a def of one's own: SetO a S n := HO.ext fun h => ..) -/
 | ext (φ:Heap->Prop)
noncomputable abbrev Hp:=Addr->Option HO
noncomputable def upd (H:Hp) (a:Addr) (o:HO):Hp:=fun b=>if b=a then some o else H b
theorem ac {H:Hp} {a:Addr} {o:HO}:upd H a o a=some o:=by unfold upd;rw [if_pos rfl]
theorem am {H:Hp} {a b:Addr} {o:HO} (h:b≠a):upd H a o b=H b:=by unfold upd;rw [if_neg h]
theorem c6 {H:Hp} {a:Addr} {o u:HO}:upd (upd H a o) a u=upd H a u:=by
 funext b;unfold upd;split <;> rfl
theorem uH {H:Hp} {a b:Addr} {o u:HO} (h:H a=some o) (h':H b=some u) (d:o≠u):a≠b:=by
 intro e;subst e;rw [h]at h';exact d (Option.some.inj h')
theorem aj {H:Hp} {a b:Addr} {o:HO} (h:H a=some o) (h':H b=none):a≠b:=by
 intro e;subst e;rw [h]at h';cases h'
section
variable (P:Program) (w:World)
noncomputable def ObjOk (H:Hp) (h:Heap) (a:Addr):HO->Prop
 | .lst xs=>xs.length<=sizeLine/\ ∃ (its:List Value) (n:Nat),Vals xs its/\h.get? a=some {cls:=.type "list",data:=.seq its.toArray n}
 | .tup xs=>xs.length<=sizeLine/\ ∃ its:List Value,Vals xs its/\IsTup h a its.toArray
 | .dK kvs=>kvs.length<=sizeLine/\(a==sysModules)=false/\ ∃ vs,KV kvs vs/\h.DictOf (aX P w) a vs
 | .dT kvs=>kvs.length<=sizeLine/\(a==sysModules)=false/\ ∃ xs:List (List Key×Addr×Value),
   Paired (fun (p:List Key×V) (q:List Key×Addr×Value)=>p.1=q.1/\H q.2.1=some (.tup (p.1.map kV))/\RelV p.2 q.2.2) kvs xs/\
   ∃ o es ep,h.get? a=some o/\o.ExactDict/\o.data=.dict es ep/\es.toList=xs.map (entryOfKey (tupleKind (aX P w)))/\(xs.map (·.1)).Nodup
 | .dP kvs=>kvs.length<=sizeLine/\(a==sysModules)=false/\ ∃ xs:List ((List Key×Key)×Addr×Value),
   Paired (fun (p:(List Key×Key)×V) (q:(List Key×Key)×Addr×Value)=>p.1=q.1/\(∃ b,H q.2.1=some (.tup [.ref b,kV p.1.2])/\H b=some (.tup (p.1.1.map kV)))/\RelV p.2 q.2.2) kvs xs/\
   ∃ o es ep,h.get? a=some o/\o.ExactDict/\o.data=.dict es ep/\es.toList=xs.map (entryOfKey (eR (aX P w) (aX P w)))/\(xs.map (·.1)).Nodup
 | .set S n=>h.SetOf (intKind P w) a S n
 | .ins C dx fs=>H dx=some (.own a)/\fs.length<=1000/\dx≠a/\h.get? a=some (PySem.W.instObj C dx)/\
   ∃ mA,h.Ns1 dx mA/\(∀ f,RelO (fs.lookup f) (mA f))/\PySem.Within mA (fs.map (·.1))
 | .own _=> ∃ o,h.get? a=some o
 | .xd fs=> ∃ mA,h.Ns1 a mA/\ ∀ f,RelO (fs.lookup f) (mA f)
 | .rng lo hi=> ∃ t u v,h.get? a=some {cls:=.type "range",data:=.fields #[.int lo t,.int hi u,.int 1 v]}
 | .frz o u=>h.get? a=some o/\ObjOk H h a u
 | .tbl ps=>h.get? a=some {cls:=.none,data:=.fields ps}
 | .met f x=>h.get? a=some (PySem.W.methodObj (.ref f) (.ref x))
 | .ext φ=>φ h/\(∃ o,h.get? a=some o)/\ ∀ h1 h2:Heap,φ h1->(∀ o,h1.get? a=some o->h2.get? a=some o)->φ h2
noncomputable def HOk (H:Hp) (h:Heap):Prop:= ∀ a o,H a=some o->ObjOk P w H h a o
end
section
variable {P:Program} {w:World} {H H':Hp} {h h':Heap} {a:Addr} {o:HO}
theorem ObjOk.lt (x:ObjOk P w H h a o):a<h.objs.size:=by
 cases o with
 | lst xs=>obtain ⟨_,_,_,_,e⟩:=x;exact Heap.lt_size e
 | tup xs=>obtain ⟨_,_,_,p⟩:=x;exact p.lt
 | dK kvs=>obtain ⟨_,_,_,_,o,_,_,e,_⟩:=x;exact Heap.lt_size e
 | dT kvs=>obtain ⟨_,_,_,_,o,_,_,e,_⟩:=x;exact Heap.lt_size e
 | dP kvs=>obtain ⟨_,_,_,_,o,_,_,e,_⟩:=x;exact Heap.lt_size e
 | set S n=>obtain ⟨o,_,_,_,e,_⟩:=x;exact Heap.lt_size e
 | ins C dx fs=>obtain ⟨_,_,_,e,_⟩:=x;exact Heap.lt_size e
 | own y=>obtain ⟨_,e⟩:=x;exact Heap.lt_size e
 | xd fs=>obtain ⟨_,⟨_,_,_,e,_⟩,_⟩:=x;exact Heap.lt_size e
 | rng lo hi=>obtain ⟨_,_,_,e⟩:=x;exact Heap.lt_size e
 | frz ob u=>obtain ⟨e,_⟩:=x;exact Heap.lt_size e
 | tbl ps=>exact Heap.lt_size (show h.get? a=some _ from x)
 | met f y=>exact Heap.lt_size (show h.get? a=some _ from x)
 | ext φ=>obtain ⟨_,⟨_,e⟩,_⟩:=x;exact Heap.lt_size e
theorem Paired.mapP {α β:Type} {F G:α->β->Prop}: ∀ {l₁:List α} {l₂:List β},Paired F l₁ l₂->(∀ a b,F a b->G a b)->Paired G l₁ l₂
 | _,_,.nil,_=>.nil
 | _,_,.cons r t,f=>.cons (f _ _ r) (Paired.mapP t f)
theorem ObjOk.stay (x:ObjOk P w H h a o) (k: ∀ b u,(b=a\/H b=some (.own a))->h.get? b=some u->h'.get? b=some u)
  (ho: ∀ b,H b=some (.own a)->H' b=some (.own a)) (ht: ∀ b xs,H b=some (.tup xs)->H' b=some (.tup xs)):ObjOk P w H' h' a o:=by
 induction o with
 | lst xs=>obtain ⟨z,its,n,r,e⟩:=x;exact ⟨z,its,n,r,k _ _ (.inl rfl) e⟩
 | tup xs=>obtain ⟨z,its,r,ob,e,c⟩:=x;exact ⟨z,its,r,ob,k _ _ (.inl rfl) e,c⟩
 | dK kvs=>obtain ⟨z,y,vs,r,ob,es,ep,e,c⟩:=x;exact ⟨z,y,vs,r,ob,es,ep,k _ _ (.inl rfl) e,c⟩
 | dT kvs=>
  obtain ⟨z,y,xs,r,ob,es,ep,e,c⟩:=x
  exact ⟨z,y,xs,Paired.mapP r fun p q z=>⟨z.1,ht _ _ z.2.1,z.2.2⟩,ob,es,ep,k _ _ (.inl rfl) e,c⟩
 | dP kvs=>
  obtain ⟨z,y,xs,r,ob,es,ep,e,c⟩:=x
  exact ⟨z,y,xs,Paired.mapP r fun p q z=>⟨z.1,let ⟨b,e1,e2⟩:=z.2.1;⟨b,ht _ _ e1,ht _ _ e2⟩,z.2.2⟩,ob,es,ep,k _ _ (.inl rfl) e,c⟩
 | set S n=>obtain ⟨ob,es,ep,t,e,c⟩:=x;exact ⟨ob,es,ep,t,k _ _ (.inl rfl) e,c⟩
 | ins C dx fs=>
  obtain ⟨d,z,ne,e,mA,⟨od,es,ep,e2,c⟩,r⟩:=x
  exact ⟨ho _ d,z,ne,k _ _ (.inl rfl) e,mA,⟨od,es,ep,k _ _ (.inr d) e2,c⟩,r⟩
 | own y=>obtain ⟨ob,e⟩:=x;exact ⟨ob,k _ _ (.inl rfl) e⟩
 | xd fs=>obtain ⟨mA,⟨od,es,ep,e,c⟩,r⟩:=x;exact ⟨mA,⟨od,es,ep,k _ _ (.inl rfl) e,c⟩,r⟩
 | rng lo hi=>obtain ⟨t,u,v,e⟩:=x;exact ⟨t,u,v,k _ _ (.inl rfl) e⟩
 | frz ob u ih=>obtain ⟨e,q⟩:=x;exact ⟨k _ _ (.inl rfl) e,ih q⟩
 | tbl ps=>
  have e:h.get? a=some {cls:=.none,data:=.fields ps}:=x
  show h'.get? a=some {cls:=.none,data:=.fields ps}
  exact k a _ (.inl rfl) e
 | met f y=>
  have e:h.get? a=some (PySem.W.methodObj (.ref f) (.ref y)):=x
  show h'.get? a=some (PySem.W.methodObj (.ref f) (.ref y))
  exact k a _ (.inl rfl) e
 | ext φ=>obtain ⟨p,⟨o,e⟩,st⟩:=x;exact ⟨st _ _ p fun o q=>k _ _ (.inl rfl) q,⟨o,k _ _ (.inl rfl) e⟩,st⟩
theorem HOk.lt (x:HOk P w H h) (e:H a=some o):a<h.objs.size:=(x a o e).lt
theorem HOk.fresh (x:HOk P w H h) (e:h.objs.size<=a):H a=none:=by
 cases q:H a with
 | none=>rfl
 | some u=>exact absurd (Nat.lt_of_lt_of_le (x.lt q) e) (Nat.lt_irrefl _)
theorem HOk.kept (x:HOk P w H h) (k: ∀ b u,h.get? b=some u->h'.get? b=some u):HOk P w H h':=fun a o e=>
 (x a o e).stay (fun b u _ q=>k b u q) (fun _ q=>q) fun _ _ q=>q
theorem HOk.laid (x:HOk P w H h) (k: ∀ b u,h.get? b=some u->h'.get? b=some u) (hp:h.objs.size<=a) (new:ObjOk P w (upd H a o) h' a o):HOk P w (upd H a o) h':=fun b u e=>by
 have hn:=x.fresh hp
 by_cases hb:b=a
 ·subst hb;rw [ac]at e;cases e;exact new
 ·rw [am hb]at e
  exact (x b u e).stay (fun c v _ q=>k c v q) (fun c q=>by rw [am (aj q hn)];exact q) fun c xs q=>by rw [am (aj q hn)];exact q
end
noncomputable def Rd (H:Hp) (a:Addr) (u:HO):Prop:=H a=some u\/ ∃ o,H a=some (.frz o u)
theorem Rd.ok {P:Program} {w:World} {H:Hp} {h:Heap} {a:Addr} {u:HO} (r:Rd H a u) (x:HOk P w H h):ObjOk P w H h a u:=by
 rcases r with r | ⟨o,r⟩
 ·exact x a u r
 ·obtain ⟨_,q⟩:=x a _ r
  exact q
noncomputable def Mut:Option HO->Prop
 | some (.lst _)=>True
 | some (.dK _)=>True
 | some (.dT _)=>True
 | some (.dP _)=>True
 | some (.set _ _)=>True
 | some (.ins _ _ _)=>True
 | some (.ext _)=>True
 | _=>False
section
variable {P:Program} {w:World} {H:Hp} {h h':Heap} {x e:Addr} {o':HO}
theorem HOk.write (ok:HOk P w H h) (mu:Mut (H x)) (he:e=x\/H e=some (.own x)) (k: ∀ b u,b≠e->h.get? b=some u->h'.get? b=some u) (heo: ∃ u,h'.get? e=some u)
  (new:ObjOk P w (upd H x o') h' x o'):HOk P w (upd H x o') h':=fun b u q=>by
 have nown: ∀ c y,H c=some (.own y)->c≠x:=fun c y r z=>by subst z;rw [r]at mu;exact mu
 have ntup: ∀ c xs,H c=some (.tup xs)->c≠x:=fun c xs r z=>by subst z;rw [r]at mu;exact mu
 by_cases hb:b=x
 ·subst hb;rw [ac]at q;cases q;exact new
 ·rw [am hb]at q
  by_cases hbe:b=e
  ·have q':H b=some (.own x):=by
    rcases he with z | z
    ·exact absurd (hbe.trans z) hb
    ·rw [hbe];exact z
   rw [q]at q';cases q'
   obtain ⟨v,hv⟩:=heo
   exact ⟨v,by rw [hbe];exact hv⟩
  ·refine (ok b u q).stay (fun c v hc r=>k c v ?_ r) (fun c r=>by rw [am (nown c b r)];exact r) fun c xs r=>by rw [am (ntup c xs r)];exact r
   rcases hc with rfl | hc
   ·exact hbe
   ·rintro rfl
    rcases he with z | z
    ·exact nown c b hc z
    ·rw [hc]at z;cases z;exact hb rfl
end
structure Un (fs ex:List Addr) (H H':Hp) (h h':Heap):Prop where
 keep: ∀ b o,h.get? b=some o->H b=none->b∉fs->b∉ex->h'.get? b=some o
 slot: ∀ b o,h.get? b=some o->H b=none->b∈fs->b∉ex-> ∃ sl,h'.get? b=some {o with slots:=sl}
 free: ∀ b o,h.get? b=some o->H b=none->b∉ex->H' b=none
 there: ∀ b o,h.get? b=some o->b∉ex-> ∃ o',h'.get? b=some o'
 tups: ∀ b xs,H b=some (.tup xs)->H' b=some (.tup xs)
 frzs: ∀ b o u,H b=some (.frz o u)->H' b=some (.frz o u)
 tbls: ∀ b ps,H b=some (.tbl ps)-> ∃ more,H' b=some (.tbl (ps++more))
section
variable {fs fs' ex ex':List Addr} {H H1 H2:Hp} {h h1 h2 h':Heap} {a x e:Addr} {o:HO}
theorem Un.any (u:Un fs ex H H1 h h1) {b:Addr} {ob:Obj} (q:h.get? b=some ob) (n:H b=none) (hx:b∉ex): ∃ sl,h1.get? b=some {ob with slots:=sl}:=by
 by_cases hb:b∈fs
 ·exact u.slot b ob q n hb hx
 ·exact ⟨ob.slots,u.keep b ob q n hb hx⟩
theorem Un.kept (k: ∀ b u,h.get? b=some u->h'.get? b=some u):Un fs ex H H h h':=
 ⟨fun b ob q _ _ _=>k b ob q,fun b ob q _ _ _=>⟨ob.slots,k b ob q⟩,fun _ _ _ n _=>n,fun b ob q _=>⟨ob,k b ob q⟩,fun _ _ q=>q,fun _ _ _ q=>q,fun _ ps q=>⟨#[],by rw [q];simp⟩⟩
theorem Un.refl:Un fs ex H H h h:=Un.kept fun _ _ q=>q
theorem Un.laid (k: ∀ b u,h.get? b=some u->h'.get? b=some u) (hp:h.objs.size<=a) (hn:H a=none):Un fs ex H (upd H a o) h h' where
 keep:=fun b u q _ _ _=>k b u q
 slot:=fun b u q _ _ _=>⟨u.slots,k b u q⟩
 free:=fun b u q n _=>by rw [am (Nat.ne_of_lt (Nat.lt_of_lt_of_le (Heap.lt_size q) hp))];exact n
 there:=fun b u q _=>⟨u,k b u q⟩
 tups:=fun b xs q=>by rw [am (aj q hn)];exact q
 frzs:=fun b u xs q=>by rw [am (aj q hn)];exact q
 tbls:=fun b ps q=>⟨#[],by rw [am (aj q hn),q];simp⟩
theorem Un.write (mu:Mut (H x)) (he:e=x\/H e=some (.own x)) (k: ∀ b u,b≠e->h.get? b=some u->h'.get? b=some u) (heo: ∃ u,h'.get? e=some u):Un fs ex H (upd H x o) h h':=by
 have hx: ∀ b,H b=none->b≠x:=fun b n z=>by subst z;rw [n]at mu;exact mu
 have hb: ∀ b,H b=none->b≠e:=fun b n z=>by
  subst z
  rcases he with r | r
  ·exact hx b n r
  ·rw [n]at r;cases r
 have hm: ∀ b u,H b=some u-> ¬ Mut (some u)->b≠x:=fun b u q nm z=>by subst z;rw [q]at mu;exact nm mu
 refine ⟨fun b u q n _ _=>k b u (hb b n) q,fun b u q n _ _=>⟨u.slots,k b u (hb b n) q⟩,fun b u q n _=>by rw [am (hx b n)];exact n,fun b u q _=>?_,
  fun b xs q=>by rw [am (hm b _ q fun z=>z)];exact q,fun b u xs q=>by rw [am (hm b _ q fun z=>z)];exact q,fun b ps q=>⟨#[],by rw [am (hm b _ q fun z=>z),q];simp⟩⟩
 by_cases hbe:b=e
 ·subst hbe;exact heo
 ·exact ⟨u,k b u hbe q⟩
end
noncomputable def trk (h:Heap) (H:Hp):List Addr:=(List.range h.objs.size).filter fun a=>(H a).isSome
noncomputable def ky (h:Heap) (H:Hp):Heap:=PySem.W.hideAll h (trk h H)
theorem qu (h:Heap) (H:Hp):(ky h H).objs.size=h.objs.size:=PySem.W.hideAll_size _ _
theorem sO {h:Heap} {H:Hp} {b:Addr} {o:Obj} (e:h.get? b=some o) (n:H b=none):(ky h H).get? b=some o:=
 PySem.W.hideAll_get _ e fun hm=>by
  have q:(H b).isSome=true:=(List.mem_filter.mp hm).2
  rw [n]at q;simp at q
theorem uj {h:Heap} {H:Hp} {b:Addr} {o:Obj} (e:(ky h H).get? b=some o):h.get? b=some o/\H b=none:=by
 have e':h.get? b=some o:=PySem.W.of_hideAll (trk h H) e
 refine ⟨e',?_⟩
 cases q:H b with
 | none=>rfl
 | some x=>
  have hm:b∈trk h H:=List.mem_filter.mpr ⟨List.mem_range.mpr (Heap.lt_size e'),by simp [q]⟩
  have z:(ky h H).get? b=none:=PySem.W.hideAll_none (trk h H) hm
  rw [z]at e;cases e
structure Mod (K:PySem.W.Frag) (mg:Str->Option Value) (base:Heap):Prop where
 kin:K.In base
 glob:base.Ns mainGlobals mg
 blt: ∃ mb,base.Ns builtinsNs mb/\ ∀ x:Str,x≠"__name__"->mb x=bootBuiltins x
 nolimit:base.NoLimit
structure Cx where
 prog:Program
 w:World
 K:PySem.W.Frag
 mg:Str->Option Value
 base:Heap
 A:Around
 N:List Str
 s₀:Shared
 H₀:Hp
 env:Env
 outer:List Env
 stack:List Env
 ex:List Addr
 fn:Str->Bool
 calm:Bool
 pn:List (Addr×Obj)
 xe:Value->Shared->Prop
noncomputable def frs (l:List Env):List Addr:=l.filterMap (·.frame)
noncomputable abbrev Cx.fs (X:Cx):List Addr:=frs X.outer
noncomputable def Vis (sc:Scope) (x:Str):Prop:=sc.names.lookup x=some .local\/sc.names.lookup x=some .cell\/sc.names.lookup x=some .free
noncomputable def Loc (sc:Scope) (x:Str):Prop:=sc.names.lookup x=some .local\/sc.names.lookup x=some .cell
noncomputable def xy (env:Env) (h:Heap) (m:Str->Option Value) (x:Str) (u:Value):Prop:=
 (env.kindOf x=some .local/\m x=some u)\/((env.kindOf x=some .cell\/env.kindOf x=some .free)/\ ∃ c,env.cells.lookup x=some c/\h.IsCell c (some u))
structure Cx.Ok (X:Cx):Prop where
 mod:Mod X.K X.mg X.base
 kind:X.env.scope.kind=.function
 glob:X.env.globals=mainGlobals
 blt:X.env.builtins=builtinsNs
 above:X.s₀.heap.objs.size<=X.env.locals
 inj: ∀ x y c,X.env.cells.lookup x=some c->X.env.cells.lookup y=some c->x=y
 has: ∀ x,(X.env.kindOf x=some .cell\/X.env.kindOf x=some .free)-> ∃ c,X.env.cells.lookup x=some c
 cab: ∀ x c,X.fn x=true->X.env.cells.lookup x=some c->X.s₀.heap.objs.size<=c
 hd:X.calm=true->X.A.handled=none
 frames:X.A.frames=some X.stack
 stk:X.stack=X.outer\/(X.stack=X.env::X.outer/\X.env.frame=some X.env.locals)
 exf: ∀ b∈X.ex,b≠X.env.locals/\ ∀ x c,X.env.cells.lookup x=some c->c≠b
 bs: ∀ b o,X.base.get? b=some o->X.s₀.heap.get? b=some o/\X.H₀ b=none
 bsz:X.base.objs.size<=X.s₀.heap.objs.size
 noex: ∀ b o,X.base.get? b=some o->b∉X.ex
 exfs: ∀ b∈X.ex,b∉X.fs
 funs:X.s₀.heap.FunFrames X.base X.outer
 frf: ∀ b∈X.fs,X.H₀ b=none
structure Inv (X:Cx) (pins:List (Addr×Obj)) (σ:List (Option V)) (H:Hp) (s:Shared):Prop where
 ok:X.Ok
 os:s.os=X.s₀.os
 bare:AllBare s.gens
 base:Un X.fs X.ex X.H₀ H X.s₀.heap s.heap
 loc: ∃ m,s.heap.Ns X.env.locals m/\ ∀ (i:Nat) (x:Str) (v:V),X.N[i]? =some x->σ[i]? =some (some v)->Vis X.env.scope x-> ∃ u,RelV v u/\xy X.env s.heap m x u
 cell: ∀ x c,X.env.cells.lookup x=some c-> ∃ v,s.heap.IsCell c v
 free:H X.env.locals=none
 freeC: ∀ x c,X.env.cells.lookup x=some c->H c=none
 pin: ∀ p∈X.pn++pins,s.heap.get? p.1=some p.2/\H p.1=none/\p.1≠X.env.locals/\p.1∉X.fs/\ ∀ v,p.2.data≠ .cell v
 hok:HOk X.prog X.w H s.heap
 len:σ.length=X.N.length
section
variable {X:Cx} {pins:List (Addr×Obj)} {σ:List (Option V)} {H H':Hp} {s:Shared} {h':Heap}
theorem Cx.Ok.nofr (ok:X.Ok) {b:Addr} {o:Obj} (e:X.base.get? b=some o):b∉X.fs:=fun hb=>by
 have:=(ok.funs.mem hb).1
 rw [e]at this;cases this
theorem Inv.bs (I:Inv X pins σ H s): ∀ b o,X.base.get? b=some o->s.heap.get? b=some o/\H b=none:=fun b o e=>
 ⟨I.base.keep b o (I.ok.bs b o e).1 (I.ok.bs b o e).2 (I.ok.nofr e) (I.ok.noex b o e),I.base.free b o (I.ok.bs b o e).1 (I.ok.bs b o e).2 (I.ok.noex b o e)⟩
theorem Inv.bk (I:Inv X pins σ H s): ∀ b o,X.base.get? b=some o->s.heap.get? b=some o:=fun b o e=>(I.bs b o e).1
theorem Inv.mod (I:Inv X pins σ H s):Mod X.K X.mg X.base:=I.ok.mod
theorem Inv.kIn (I:Inv X pins σ H s):X.K.In s.heap:=I.ok.mod.kin.keeps I.bk
theorem Inv.lt (I:Inv X pins σ H s):X.env.locals<s.heap.objs.size:=let ⟨_,hn,_⟩:=I.loc;hn.lt
theorem Inv.sz (I:Inv X pins σ H s):X.s₀.heap.objs.size<=s.heap.objs.size:=Nat.le_trans I.ok.above (Nat.le_of_lt I.lt)
theorem Inv.nofs (I:Inv X pins σ H s) {a:Addr} (h:s.heap.objs.size<=a):a∉X.fs:=fun hb=>by
 obtain ⟨_,o,ho,_⟩:=I.ok.funs.mem hb
 exact absurd (Nat.lt_of_lt_of_le (Heap.lt_size ho) (Nat.le_trans I.sz h)) (Nat.lt_irrefl _)
theorem Inv.cne (I:Inv X pins σ H s): ∀ x c,X.env.cells.lookup x=some c->c≠X.env.locals:=fun x c e z=>by
 obtain ⟨v,o,ho,hd⟩:=I.cell x c e
 obtain ⟨m,⟨o',es,ep,ho',hd',_⟩,_⟩:=I.loc
 rw [z,ho']at ho;cases ho;rw [hd']at hd;cases hd
theorem Inv.funs (I:Inv X pins σ H s):s.heap.FunFrames X.base X.outer:=by
 have all: ∀ (l:List Env),(∀ b∈frs l,b∈X.fs)->X.s₀.heap.FunFrames X.base l->s.heap.FunFrames X.base l:=by
  intro l
  induction l with
  | nil=>intro _ _;trivial
  | cons env r ih=>
   intro hs hl
   obtain ⟨hk,⟨L,o,hf,hn,ho,hd⟩,hr⟩:=hl
   have hL:L∈X.fs:=hs L (by unfold frs;rw [List.filterMap_cons,hf];exact List.mem_cons_self)
   obtain ⟨sl,e⟩:=I.base.slot L o ho (I.ok.frf L hL) hL fun z=>I.ok.exfs L z hL
   exact ⟨hk,⟨L,_,hf,hn,e,hd⟩,ih (fun b hb=>hs b (by unfold frs;rw [List.filterMap_cons,hf];exact List.mem_cons_of_mem _ hb)) hr⟩
 exact all X.outer (fun _ hb=>hb) I.ok.funs
theorem Inv.stack (I:Inv X pins σ H s):s.heap.FunFrames X.base X.stack:=by
 rcases I.ok.stk with e | ⟨e,hf⟩
 ·rw [e];exact I.funs
 ·rw [e]
  obtain ⟨m,hn,_⟩:=I.loc
  refine .cons (by rw [I.ok.kind];decide) hf hn ?_ I.funs
  exact Heap.get?_none_of_le (Nat.le_trans I.ok.bsz I.ok.above)
theorem Inv.stkSub (I:Inv X pins σ H s): ∀ b∈frs X.stack,b∈X.env.locals::X.fs:=fun b hb=>by
 rcases I.ok.stk with e | ⟨e,hf⟩
 ·rw [e]at hb;exact List.mem_cons_of_mem _ hb
 ·rw [e]at hb
  unfold frs at hb
  rw [List.filterMap_cons,hf]at hb
  exact hb
theorem Inv.stkFree (I:Inv X pins σ H s): ∀ b∈frs X.stack,H b=none:=fun b hb=>by
 rcases List.mem_cons.mp (I.stkSub b hb)with e | hb
 ·rw [e];exact I.free
 ·obtain ⟨_,o,ho,_⟩:=I.ok.funs.mem hb
  exact I.base.free b o ho (I.ok.frf b hb) fun z=>I.ok.exfs b z hb
theorem Inv.step {g':Array GenState} {t':Nat} {d':Drawn} {ch:List Addr} (I:Inv X pins σ H s)
  (hch: ∀ b∈ch,(b∈X.ex\/X.s₀.heap.objs.size<=b)/\b≠X.env.locals/\(∀ x c,X.env.cells.lookup x=some c->c≠b)/\ ∀ p∈X.pn++pins,p.1≠b)
  (keep: ∀ b o,b≠X.env.locals->b∉X.fs->b∉ch->s.heap.get? b=some o->H b=none->h'.get? b=some o)
  (slot: ∀ b o,b≠X.env.locals->b∈X.fs->b∉ch->s.heap.get? b=some o->H b=none-> ∃ sl,h'.get? b=some {o with slots:=sl}) (free: ∀ b o,b∉ch->s.heap.get? b=some o->H b=none->H' b=none)
  (there: ∀ b o,b∉ch->s.heap.get? b=some o-> ∃ o',h'.get? b=some o')
  (tups: ∀ b xs,H b=some (.tup xs)->H' b=some (.tup xs)) (frzs: ∀ b o u,H b=some (.frz o u)->H' b=some (.frz o u)) (tbls: ∀ b ps,H b=some (.tbl ps)-> ∃ more,H' b=some (.tbl (ps++more)))
  (ns: ∀ m,s.heap.Ns X.env.locals m->h'.Ns X.env.locals m) (hok:HOk X.prog X.w H' h') (hg:AllBare g'):
  Inv X pins σ H' {s with heap:=h',gens:=g',drawn:=d',toks:=t'}:=by
 have neL: ∀ b o,X.s₀.heap.get? b=some o->b≠X.env.locals:=fun b o e=>Nat.ne_of_lt (Nat.lt_of_lt_of_le (Heap.lt_size e) I.ok.above)
 have neC: ∀ b o,X.s₀.heap.get? b=some o->b∉X.ex->b∉ch:=fun b o e hx hb=>by
  rcases (hch b hb).1 with z | z
  ·exact hx z
  ·exact absurd (Nat.lt_of_lt_of_le (Heap.lt_size e) z) (Nat.lt_irrefl _)
 have cellK: ∀ x c,X.env.cells.lookup x=some c-> ∀ v,s.heap.IsCell c v->h'.IsCell c v:=fun x c e v ⟨o,ho,hd⟩=>by
  have nch:c∉ch:=fun z=>(hch c z).2.2.1 x c e rfl
  by_cases hc:c∈X.fs
  ·obtain ⟨sl,q⟩:=slot c o (I.cne x c e) hc nch ho (I.freeC x c e)
   exact ⟨_,q,hd⟩
  ·exact ⟨o,keep c o (I.cne x c e) hc nch ho (I.freeC x c e),hd⟩
 refine ⟨I.ok,I.os,hg,⟨fun b o e n hb hx=>?_,fun b o e n hb hx=>?_,fun b o e n hx=>?_,fun b o e hx=>?_,fun b xs e=>tups b xs (I.base.tups b xs e),fun b o xs e=>frzs b o xs (I.base.frzs b o xs e),fun b ps e=>?_⟩,?_,fun x c e=>?_,?_,fun x c e=>?_,fun p hp=>?_,hok,I.len⟩
 ·exact keep b o (neL b o e) hb (neC b o e hx) (I.base.keep b o e n hb hx) (I.base.free b o e n hx)
 ·obtain ⟨sl,e1⟩:=I.base.slot b o e n hb hx
  obtain ⟨sl',e2⟩:=slot b _ (neL b o e) hb (neC b o e hx) e1 (I.base.free b o e n hx)
  exact ⟨sl',e2⟩
 ·obtain ⟨o',e1⟩:=I.base.there b o e hx
  exact free b o' (neC b o e hx) e1 (I.base.free b o e n hx)
 ·obtain ⟨o',e1⟩:=I.base.there b o e hx
  exact there b o' (neC b o e hx) e1
 ·obtain ⟨m1,e1⟩:=I.base.tbls b ps e
  obtain ⟨m2,e2⟩:=tbls b _ e1
  exact ⟨m1++m2,by rw [e2,Array.append_assoc]⟩
 ·obtain ⟨m,hn,hl⟩:=I.loc
  refine ⟨m,ns m hn,fun i x v e1 e2 e3=>?_⟩
  obtain ⟨u,r,l⟩:=hl i x v e1 e2 e3
  refine ⟨u,r,?_⟩
  rcases l with l | ⟨k,c,e,z⟩
  ·exact .inl l
  ·exact .inr ⟨k,c,e,cellK x c e _ z⟩
 ·obtain ⟨v,z⟩:=I.cell x c e
  exact ⟨v,cellK x c e v z⟩
 ·obtain ⟨m,⟨o,_,_,ho,_⟩,_⟩:=I.loc
  exact free _ o (fun z=>(hch _ z).2.1 rfl) ho I.free
 ·obtain ⟨v,o,ho,hd⟩:=I.cell x c e
  exact free c o (fun z=>(hch c z).2.2.1 x c e rfl) ho (I.freeC x c e)
 ·obtain ⟨e,n,ne,nf,d⟩:=I.pin p hp
  have nch:p.1∉ch:=fun z=>(hch p.1 z).2.2.2 p hp rfl
  exact ⟨keep p.1 p.2 ne nf nch e n,free p.1 p.2 nch e n,ne,nf,d⟩
theorem Inv.un {t':Nat} (I:Inv X pins σ H s) (u:Un X.fs [] H H' s.heap h') (hok:HOk X.prog X.w H' h'):Inv X pins σ H' {s with heap:=h',toks:=t'}:=by
 obtain ⟨m,⟨o,es,ep,ho,r⟩,_⟩:=id I.loc
 obtain ⟨sl,hL⟩:=u.any ho I.free (by simp)
 exact I.step (g':=s.gens) (d':=s.drawn) (ch:=[]) (fun _ z=>nomatch z) (fun b o _ hb _ e n=>u.keep b o e n hb (by simp)) (fun b o _ hb _ e n=>u.slot b o e n hb (by simp)) (fun b o _ e n=>u.free b o e n (by simp)) (fun b o _ e=>u.there b o e (by simp)) u.tups u.frzs u.tbls (fun m' hm=>by
  obtain ⟨o',es',ep',ho',r'⟩:=hm
  rw [ho]at ho';cases ho'
  exact ⟨_,es',ep',hL,r'⟩) hok I.bare
theorem Inv.call {g':Array GenState} {t':Nat} {d':Drawn} {ch:List Addr} (I:Inv X pins σ H s) (u:Un (frs X.stack) ch H H' s.heap h') (hok:HOk X.prog X.w H' h') (hg:AllBare g')
  (hch: ∀ b∈ch,(b∈X.ex\/X.s₀.heap.objs.size<=b)/\b≠X.env.locals/\(∀ x c,X.env.cells.lookup x=some c->c≠b)/\ ∀ p∈X.pn++pins,p.1≠b):
  Inv X pins σ H' {s with heap:=h',gens:=g',drawn:=d',toks:=t'}:=by
 obtain ⟨m,⟨o,es,ep,ho,r⟩,_⟩:=id I.loc
 obtain ⟨sl,hL⟩:=u.any ho I.free fun z=>(hch _ z).2.1 rfl
 exact I.step (ch:=ch) hch (fun b o hL hb hc e n=>u.keep b o e n (fun z=>(List.mem_cons.mp (I.stkSub b z)).elim hL hb) hc) (fun b o _ _ hc e n=>u.any e n hc) (fun b o hc e n=>u.free b o e n hc) (fun b o hc e=>u.there b o e hc) u.tups u.frzs u.tbls (fun m' hm=>by
  obtain ⟨o',es',ep',ho',r'⟩:=hm
  rw [ho]at ho';cases ho'
  exact ⟨_,es',ep',hL,r'⟩) hok hg
theorem Inv.turned {t':Nat} {it:Addr} (I:Inv X pins σ H s) (k: ∀ b o,b≠it->s.heap.get? b=some o->h'.get? b=some o) (hn:H it=none) (hL:it≠X.env.locals)
  (h1:it∈X.ex\/X.s₀.heap.objs.size<=it) (h2: ∀ x c,X.env.cells.lookup x=some c->c≠it) (h3: ∀ p∈X.pn++pins,p.1≠it):Inv X pins σ H {s with heap:=h',toks:=t'}:=by
 have nit: ∀ b u,H b=some u->b≠it:=fun b u e z=>by rw [z,hn]at e;cases e
 refine I.step (g':=s.gens) (d':=s.drawn) (ch:=[it]) (fun b hb=>?_) (fun b o _ _ hc e _=>k b o (fun z=>hc (by simp [z])) e) (fun b o _ _ hc e _=>⟨o.slots,k b o (fun z=>hc (by simp [z])) e⟩) (fun _ _ _ _ n=>n)
  (fun b o hc e=>⟨o,k b o (fun z=>hc (by simp [z])) e⟩) (fun _ _ e=>e) (fun _ _ _ e=>e) (fun b ps e=>⟨#[],by rw [e];simp⟩) (fun m hm=>?_) (fun b u e=>?_) I.bare
 ·have e:b=it:=by simpa using hb
  subst e
  exact ⟨h1,hL,h2,h3⟩
 ·obtain ⟨o,es,ep,ho,r⟩:=hm
  exact ⟨o,es,ep,k _ o (Ne.symm hL) ho,r⟩
 ·refine (I.hok b u e).stay (fun c v hc q=>k c v ?_ q) (fun _ q=>q) fun _ _ q=>q
  rcases hc with z | z
  ·rw [z];exact nit b u e
  ·exact nit c _ z
theorem Inv.tok (I:Inv X pins σ H s) (t:Nat):Inv X pins σ H {s with toks:=t}:=I.un (h':=s.heap) (t':=t) Un.refl I.hok
theorem Inv.kept {t':Nat} (I:Inv X pins σ H s) (k: ∀ b u,s.heap.get? b=some u->h'.get? b=some u):Inv X pins σ H {s with heap:=h',toks:=t'}:=I.un (Un.kept k) (I.hok.kept k)
theorem Inv.laid {a:Addr} {o:HO} {t':Nat} (I:Inv X pins σ H s) (k: ∀ b u,s.heap.get? b=some u->h'.get? b=some u) (hp:s.heap.objs.size<=a) (new:ObjOk X.prog X.w (upd H a o) h' a o):
  Inv X pins σ (upd H a o) {s with heap:=h',toks:=t'}:=I.un (Un.laid k hp (I.hok.fresh hp)) (I.hok.laid k hp new)
theorem Inv.write {x e:Addr} {o:HO} {t':Nat} (I:Inv X pins σ H s) (mu:Mut (H x)) (he:e=x\/H e=some (.own x)) (k: ∀ b u,b≠e->s.heap.get? b=some u->h'.get? b=some u) (heo: ∃ u,h'.get? e=some u)
  (new:ObjOk X.prog X.w (upd H x o) h' x o):Inv X pins σ (upd H x o) {s with heap:=h',toks:=t'}:=I.un (Un.write mu he k heo) (I.hok.write mu he k heo new)
theorem Inv.pins_of {pins':List (Addr×Obj)} (I:Inv X pins σ H s) (h: ∀ p∈pins',s.heap.get? p.1=some p.2/\H p.1=none/\p.1≠X.env.locals/\p.1∉X.fs/\ ∀ v,p.2.data≠ .cell v):Inv X pins' σ H s:=
 ⟨I.ok,I.os,I.bare,I.base,I.loc,I.cell,I.free,I.freeC,fun p hp=>(List.mem_append.mp hp).elim (fun z=>I.pin p (List.mem_append_left _ z)) (h p),I.hok,I.len⟩
theorem iV {N:List Str} (hN:N.Nodup) {i j:Nat} {x:Str} (a:N[i]? =some x) (b:N[j]? =some x):i=j:=by
 obtain ⟨h1,e1⟩:=List.getElem?_eq_some_iff.mp a
 obtain ⟨h2,e2⟩:=List.getElem?_eq_some_iff.mp b
 exact (List.getElem_inj hN).mp (e1.trans e2.symm)
theorem gA {M:Model} {A:Around} {E:Value->Shared->Prop} {i:Nat} {x:Str} {v:V} {u:Value} {Q:Unit->Shared->Prop} (I:Inv X pins σ H s) (hN:X.N.Nodup) (hi:X.N[i]? =some x) (hx:Loc X.env.scope x) (r:RelV v u)
  (h: ∀ s',Inv X pins (σ.set i (some v)) H s'->(∃ a,Heap.SameBut a s.heap s'.heap/\(a=X.env.locals\/X.env.cells.lookup x=some a))->Q () s') (hf:X.fn x=true\/X.env.scope.names.lookup x=some .local:=by first | exact .inl rfl | exact .inr rfl | assumption):wpAny M A (storeName X.env x u) Q E s:=by
 obtain ⟨m,hn,hl⟩:=id I.loc
 have hcls:(X.env.scope.kind== .class||(X.env.scope.kind== .module&&X.env.locals !=X.env.globals))=false:=by rw [I.ok.kind];rfl
 have hiσ:i<σ.length:=by rw [I.len];exact (List.getElem?_eq_some_iff.mp hi).1
 have cne:=I.cne
 have tracked: ∀ {a:Addr} {h':Heap},(∃ o,s.heap.get? a=some o/\H a=none)->Heap.SameBut a s.heap h'->HOk X.prog X.w H h':=fun {a h'} ha hs b ob e=>by
  obtain ⟨_,_,hfree⟩:=ha
  refine (I.hok b ob e).stay (fun c w' hc q=>(hs.2 c ?_).trans q) (fun _ q=>q) fun _ _ q=>q
  rintro rfl
  rcases hc with rfl | hc
  ·rw [hfree]at e;cases e
  ·rw [hfree]at hc;cases hc
 rcases hx with hk | hk
 ·refine wpAny_storeName_local hk hn (fun h' hn' hs=>?_) hcls
  obtain ⟨oL,_,_,hoL,_⟩:=id hn
  refine h _ ⟨I.ok,I.os,I.bare,⟨fun b o e n hb hx=>?_,fun b o e n hb hx=>?_,I.base.free,fun b o e hx=>?_,I.base.tups,I.base.frzs,I.base.tbls⟩,⟨_,hn',fun j y v' e1 e2 e3=>?_⟩,fun y c e=>?_,I.free,I.freeC,fun p hp=>?_,tracked ⟨oL,hoL,I.free⟩ hs,by simpa using I.len⟩ ⟨_,hs,.inl rfl⟩
  ·exact (hs.2 b (Nat.ne_of_lt (Nat.lt_of_lt_of_le (Heap.lt_size e) I.ok.above))).trans (I.base.keep b o e n hb hx)
  ·obtain ⟨sl,e1⟩:=I.base.slot b o e n hb hx
   exact ⟨sl,(hs.2 b (Nat.ne_of_lt (Nat.lt_of_lt_of_le (Heap.lt_size e) I.ok.above))).trans e1⟩
  ·obtain ⟨o',e1⟩:=I.base.there b o e hx
   exact ⟨o',(hs.2 b (Nat.ne_of_lt (Nat.lt_of_lt_of_le (Heap.lt_size e) I.ok.above))).trans e1⟩
  ·by_cases hj:j=i
   ·subst hj
    rw [hi]at e1;cases e1
    rw [List.getElem?_set_self hiσ]at e2
    cases e2
    exact ⟨u,r,.inl ⟨hk,by simp⟩⟩
   ·rw [List.getElem?_set_ne (Ne.symm hj)]at e2
    obtain ⟨u',r',q⟩:=hl j y v' e1 e2 e3
    refine ⟨u',r',?_⟩
    rcases q with ⟨k,e⟩ | ⟨k,c,e,z⟩
    ·refine .inl ⟨k,?_⟩
     have:y≠x:=fun e=>hj (iV hN e1 (e▸hi))
     simp [this,e]
    ·exact .inr ⟨k,c,e,z.sameBut hs (cne y c e)⟩
  ·obtain ⟨w',z⟩:=I.cell y c e
   exact ⟨w',z.sameBut hs (cne y c e)⟩
  ·obtain ⟨e,n,ne,nf,d⟩:=I.pin p hp
   exact ⟨(hs.2 p.1 ne).trans e,n,ne,nf,d⟩
 ·have hfn:X.fn x=true:=by
   rcases hf with z | z
   ·exact z
   ·rw [z]at hk;cases hk
  obtain ⟨c,hc⟩:=I.ok.has x (.inl hk)
  obtain ⟨w',z⟩:=I.cell x c hc
  refine wpAny_storeName_cell I.ok.kind hk hc z (fun h' hc' hs=>?_)
  obtain ⟨oc,hoc,hocd⟩:=id z
  refine h {s with heap:=h'} ⟨I.ok,I.os,I.bare,⟨fun b o e n hb hx=>?_,fun b o e n hb hx=>?_,I.base.free,fun b o e hx=>?_,I.base.tups,I.base.frzs,I.base.tbls⟩,⟨m,hn.sameBut hs (Ne.symm (cne x c hc)),fun j y v' e1 e2 e3=>?_⟩,fun y c' e=>?_,I.free,I.freeC,fun p hp=>?_,tracked ⟨oc,hoc,I.freeC x c hc⟩ hs,by simpa using I.len⟩ ⟨c,hs,.inr hc⟩
  ·exact (hs.2 b (Nat.ne_of_lt (Nat.lt_of_lt_of_le (Heap.lt_size e) (I.ok.cab x c hfn hc)))).trans (I.base.keep b o e n hb hx)
  ·obtain ⟨sl,e1⟩:=I.base.slot b o e n hb hx
   exact ⟨sl,(hs.2 b (Nat.ne_of_lt (Nat.lt_of_lt_of_le (Heap.lt_size e) (I.ok.cab x c hfn hc)))).trans e1⟩
  ·obtain ⟨o',e1⟩:=I.base.there b o e hx
   exact ⟨o',(hs.2 b (Nat.ne_of_lt (Nat.lt_of_lt_of_le (Heap.lt_size e) (I.ok.cab x c hfn hc)))).trans e1⟩
  ·by_cases hj:j=i
   ·subst hj
    rw [hi]at e1;cases e1
    rw [List.getElem?_set_self hiσ]at e2
    cases e2
    exact ⟨u,r,.inr ⟨.inl hk,c,hc,hc'⟩⟩
   ·rw [List.getElem?_set_ne (Ne.symm hj)]at e2
    obtain ⟨u',r',q⟩:=hl j y v' e1 e2 e3
    refine ⟨u',r',?_⟩
    rcases q with q | ⟨k,c',e,z'⟩
    ·exact .inl q
    ·refine .inr ⟨k,c',e,z'.sameBut hs ?_⟩
     rintro rfl
     exact hj (iV hN e1 (I.ok.inj _ _ _ e hc▸hi))
  ·by_cases hcc:c'=c
   ·subst hcc;exact ⟨_,hc'⟩
   ·obtain ⟨w2,z2⟩:=I.cell y c' e
    exact ⟨w2,z2.sameBut hs hcc⟩
  ·obtain ⟨e,n,ne,nf,d⟩:=I.pin p hp
   refine ⟨(hs.2 p.1 ?_).trans e,n,ne,nf,d⟩
   intro q
   rw [q,hoc]at e
   have q':oc=p.2:=Option.some.inj e
   exact d w' (by rw [<- q'];exact hocd)
theorem io {M:Model} {A:Around} {E:Value->Shared->Prop} {i:Nat} {x:Str} {v:V} {u:Value} {Q:Unit->Shared->Prop} (I:Inv X pins σ H s) (hN:X.N.Nodup) (hi:X.N[i]? =some x) (hx:Loc X.env.scope x) (r:RelV v u)
  (h: ∀ s',Inv X pins (σ.set i (some v)) H s'->Q () s') (hf:X.fn x=true\/X.env.scope.names.lookup x=some .local:=by first | exact .inl rfl | exact .inr rfl | assumption):wpAny M A (storeName X.env x u) Q E s:=
 gA I hN hi hx r (fun s' I' _=>h s' I') hf
theorem Inv.call' {s':Shared} {ch:List Addr} (I:Inv X pins σ H s) (ho:s'.os=s.os) (u:Un (frs X.stack) ch H H' s.heap s'.heap) (hok:HOk X.prog X.w H' s'.heap) (hg:AllBare s'.gens)
  (hch: ∀ b∈ch,(b∈X.ex\/X.s₀.heap.objs.size<=b)/\b≠X.env.locals/\(∀ x c,X.env.cells.lookup x=some c->c≠b)/\ ∀ p∈X.pn++pins,p.1≠b):Inv X pins σ H' s':=by
 obtain ⟨h',g',d',t',o'⟩:=s'
 have e:o'=s.os:=ho
 subst e
 exact I.call (g':=g') (t':=t') (d':=d') u hok hg hch
end
noncomputable abbrev XK:=Value->Option Addr->Hp->Prop
noncomputable abbrev St:=List (Option V)
noncomputable abbrev VK:=V->Hp->Prop
noncomputable abbrev TE:=St->Hp->VK->Prop
noncomputable abbrev TT:=St->Hp->(Bool->Hp->Prop)->Prop
noncomputable abbrev TA:=St->Hp->(List V->Hp->Prop)->Prop
structure ev where
 nx:St->Hp->Prop
 rt:VK
 bk:St->Hp->Prop:=fun _ _=>False
 ct:St->Hp->Prop:=fun _ _=>False
noncomputable abbrev TS:=ev->St->Hp->Prop
noncomputable def EP (X:Cx) (pins:List (Addr×Obj)) (σ:St) (Q:VK) (u:Value) (s':Shared):Prop:= ∃ v H',Inv X pins σ H' s'/\RelV v u/\Q v H'
noncomputable def TP (X:Cx) (pins:List (Addr×Obj)) (σ:St) (Q:Bool->Hp->Prop) (b:Bool) (s':Shared):Prop:= ∃ H',Inv X pins σ H' s'/\Q b H'
noncomputable def AP (X:Cx) (pins:List (Addr×Obj)) (σ:St) (Q:List V->Hp->Prop) (us:List Value) (s':Shared):Prop:= ∃ vs H',Inv X pins σ H' s'/\Vals vs us/\Q vs H'
noncomputable def SP (X:Cx) (pins:List (Addr×Obj)) (D:ev) (f:Flow) (s':Shared):Prop:=
 match f with
 | .next=> ∃ σ' H',Inv X pins σ' H' s'/\D.nx σ' H'
 | .brk=> ∃ σ' H',Inv X pins σ' H' s'/\D.bk σ' H'
 | .cont=> ∃ σ' H',Inv X pins σ' H' s'/\D.ct σ' H'
 | .ret u=> ∃ v σ' H',Inv X pins σ' H' s'/\RelV v u/\D.rt v H'
noncomputable def PE (X:Cx) (e:Expr) (t:TE):Prop:=
 ∀ (pins:List (Addr×Obj)) (s:Shared) (σ:St) (H:Hp) (Q:VK),Inv X pins σ H s->t σ H Q->wpAny (model X.prog X.w) X.A (eval e X.env) (EP X pins σ Q) X.xe s
noncomputable def PT (X:Cx) (e:Expr) (t:TT):Prop:=
 ∀ (pins:List (Addr×Obj)) (s:Shared) (σ:St) (H:Hp) (Q:Bool->Hp->Prop),Inv X pins σ H s->t σ H Q->wpAny (model X.prog X.w) X.A (isTrue e X.env (eval e X.env)) (TP X pins σ Q) X.xe s
noncomputable def PW (X:Cx) (e:Expr) (t:TT):Prop:=
 ∀ (whole:Sem Value) (pins:List (Addr×Obj)) (s:Shared) (σ:St) (H:Hp) (Q:Bool->Hp->Prop),Inv X pins σ H s->t σ H Q->wpAny (model X.prog X.w) X.A (isTrue e X.env whole) (TP X pins σ Q) X.xe s
theorem PW.pt {X:Cx} {e:Expr} {t:TT} (h:PW X e t):PT X e t:=h _
noncomputable def PA (X:Cx) (es:List Expr) (t:TA):Prop:=
 ∀ (pos:Pos) (pins:List (Addr×Obj)) (s:Shared) (σ:St) (H:Hp) (Q:List V->Hp->Prop),Inv X pins σ H s->t σ H Q->wpAny (model X.prog X.w) X.A (spliced (backTo pos (starEach es X.env))) (AP X pins σ Q) X.xe s
noncomputable def PS (X:Cx) (st:Stmt) (t:TS):Prop:=
 ∀ (pins:List (Addr×Obj)) (s:Shared) (σ:St) (H:Hp) (D:ev),Inv X pins σ H s->t D σ H->wpAny (model X.prog X.w) X.A (exec st X.env) (SP X pins D) X.xe s
noncomputable def PSs (X:Cx) (st:List Stmt) (t:TS):Prop:=
 ∀ (pins:List (Addr×Obj)) (s:Shared) (σ:St) (H:Hp) (D:ev),Inv X pins σ H s->t D σ H->wpAny (model X.prog X.w) X.A (execs st X.env) (SP X pins D) X.xe s
theorem thn {α:Type} {t:Sem α} {Q Q':α->Shared->Prop} {M:Model} {A:Around} {E:Value->Shared->Prop} {s:Shared} (h:wpAny M A t Q E s) (hQ: ∀ a s,Q a s->Q' a s):wpAny M A t Q' E s:=wpAny_mono h hQ fun _ _ x=>x
section
variable {X:Cx}
noncomputable def vF (i:Nat):TE:=fun σ H Q=> ∃ v,σ[i]? =some (some v)/\Q v H
noncomputable def tC (v:V):TE:=fun _ H Q=>Q v H
theorem u7 {i:Nat} {x:Str} {pos:Pos} (hN:X.N[i]? =some x) (hv:Vis X.env.scope x) (hd:(x==("__debug__":Str))=false:=by decide) (hcd:(x==("__classdict__":Str))=false:=by decide):PE X (.Name x pos) (vF i):=by
 intro pins s σ H Q I h
 obtain ⟨v,e,h⟩:=h
 obtain ⟨m,hn,hl⟩:=I.loc
 obtain ⟨u,r,l⟩:=hl i x v hN e hv
 have fin:EP X pins σ Q u s:=⟨v,H,I,r,h⟩
 rcases l with ⟨hk,hm⟩ | ⟨hk,c,hc,hcell⟩
 ·exact wpAny_Name (wpAny_loadName_local I.ok.kind hk hn hm fin) hd
 ·rcases hk with hk | hk
  ·exact wpAny_Name (wpAny_loadName_cell I.ok.kind hk hc hcell fin) hd
  ·exact wpAny_Name (wpAny_loadName_free I.ok.kind hk hc hcell fin hcd) hd
theorem ae {i j pos}:PE X (.Constant (.int i) j pos) (tC (.int i)):=fun _ _ _ H _ I h=>wpAny_Constant_int ⟨.int i,H,I.tok _,⟨_,rfl⟩,h⟩
theorem cj {b j pos}:PE X (.Constant (.bool b) j pos) (tC (.bl b)):=fun _ _ _ H _ I h=>Constant_bool ⟨.bl b,H,I,rfl,h⟩
theorem gL {j pos}:PE X (.Constant .none j pos) (tC .non):=fun _ _ _ H _ I h=>Constant_none ⟨.non,H,I,rfl,h⟩
theorem aG {x j pos}:PE X (.Constant (.str x) j pos) (tC (.str x)):=fun _ _ _ H _ I h=>Calls.Constant_str ⟨.str x,H,I.tok _,⟨_,rfl⟩,h⟩
noncomputable def Gl (X:Cx) (x:Str):Prop:=X.env.kindOf x=some .globalImplicit
theorem oM {E:Value->Shared->Prop} {pins:List (Addr×Obj)} {s:Shared} {σ:St} {H:Hp} {x:Str} {u:Value} {pos:Pos} {Q:Value->Shared->Prop} (I:Inv X pins σ H s) (hg:Gl X x) (hm:X.mg x=some u) (h:Q u s)
  (hd:(x==("__debug__":Str))=false:=by decide):wpAny (model X.prog X.w) X.A (eval (.Name x pos) X.env) Q E s:=
 Calls.Name_function_global I.ok.kind hg (Calls.loadGlobal_global (by rw [I.ok.glob];exact I.mod.glob.keeps I.bk) hm h) hd
theorem eV {E:Value->Shared->Prop} {pins:List (Addr×Obj)} {s:Shared} {σ:St} {H:Hp} {x:Str} {u:Value} {pos:Pos} {Q:Value->Shared->Prop} (I:Inv X pins σ H s) (hg:Gl X x) (hm:X.mg x=none) (hv:bootBuiltins x=some u) (h:Q u s)
  (hn:x≠"__name__":=by decide) (hd:(x==("__debug__":Str))=false:=by decide):wpAny (model X.prog X.w) X.A (eval (.Name x pos) X.env) Q E s:=by
 obtain ⟨mb,h1,h2⟩:=I.mod.blt
 exact Calls.Name_function_global I.ok.kind hg (Calls.loadGlobal_builtin (by rw [I.ok.glob];exact I.mod.glob.keeps I.bk) hm (by rw [I.ok.blt];exact h1.keeps I.bk) ((h2 x hn).trans hv) h) hd
theorem cg {x:Str} {v:V} {u:Value} {pos:Pos} (hg:Gl X x) (hm:X.mg x=some u) (r:RelV v u) (hd:(x==("__debug__":Str))=false:=by decide):PE X (.Name x pos) (tC v):=
 fun _ _ _ H _ I h=>oM I hg hm ⟨v,H,I,r,h⟩ hd
theorem bw {x:Str} {v:V} {u:Value} {pos:Pos} (hg:Gl X x) (hm:X.mg x=none) (hv:bootBuiltins x=some u) (r:RelV v u) (hn:x≠"__name__":=by decide) (hd:(x==("__debug__":Str))=false:=by decide):PE X (.Name x pos) (tC v):=
 fun _ _ _ H _ I h=>eV I hg hm hv ⟨v,H,I,r,h⟩ hn hd
variable {a b:Expr} {ta tb:TE} {pos:Pos}
noncomputable def tB (t:TE):TT:=fun σ H Q=>t σ H fun x H1=> ∃ c,x=.bl c/\Q c H1
theorem aN {e:Expr} {t:TE} (h:PE X e t) (he: ∀ whole,isTrue e X.env whole=(do let v <- whole;standAt e.pos;holding [v] (truthy v)):=by intro _;rfl):PT X e (tB t):=by
 intro pins s σ H Q I hw
 refine isTrue_plain (thn (h pins s σ H _ I hw) fun v s1 ⟨x,H1,I1,r1,q1⟩=>?_) (he _)
 obtain ⟨d,rfl,q⟩:=q1
 cases r1
 exact wpAny_truthy_bool ⟨H1,I1,q⟩
variable {tA tB':TT} {rest:List Expr}
noncomputable def wU (t u:TT):TT:=fun σ H Q=>t σ H fun c H1=>if c=true then u σ H1 Q else Q false H1
noncomputable def tOr (t u:TT):TT:=fun σ H Q=>t σ H fun c H1=>if c=true then Q true H1 else u σ H1 Q
noncomputable def wO (t:TT):TT:=fun σ H Q=>t σ H fun c H1=>Q (!c) H1
theorem cR (ha:PT X a tA):PW X (.BoolOp .And [a] pos) tA:=by
 intro wh pins s σ H Q I h
 refine isTrue_and (thn (ha pins s σ H Q I h) fun c s1 e=>?_)
 cases c with
 | true=>exact isTrue_and_nil e
 | false=>exact e
theorem cA (ha:PT X a tA):PW X (.BoolOp .Or [a] pos) tA:=by
 intro wh pins s σ H Q I h
 refine isTrue_or (thn (ha pins s σ H Q I h) fun c s1 e=>?_)
 cases c with
 | false=>exact isTrue_or_nil e
 | true=>exact e
theorem di (ha:PT X a tA) (hb:PW X (.BoolOp .And (b::rest) pos) tB'):PW X (.BoolOp .And (a::b::rest) pos) (wU tA tB'):=by
 intro wh pins s σ H Q I h
 refine isTrue_and (thn (ha pins s σ H _ I h) fun c s1 ⟨H1,I1,q1⟩=>?_)
 cases c with
 | true=>exact hb wh pins s1 σ H1 Q I1 q1
 | false=>exact ⟨H1,I1,q1⟩
theorem cY (ha:PT X a tA) (hb:PW X (.BoolOp .Or (b::rest) pos) tB'):PW X (.BoolOp .Or (a::b::rest) pos) (tOr tA tB'):=by
 intro wh pins s σ H Q I h
 refine isTrue_or (thn (ha pins s σ H _ I h) fun c s1 ⟨H1,I1,q1⟩=>?_)
 cases c with
 | true=>exact ⟨H1,I1,q1⟩
 | false=>exact hb wh pins s1 σ H1 Q I1 q1
theorem aV (ha:PT X a tA):PT X (.UnaryOp .Not a pos) (wO tA):=by
 intro pins s σ H Q I h
 exact isTrue_not (ha pins s σ H (fun c H1=>Q (!c) H1) I h)
noncomputable def vO (ta tb:TE):TE:=fun σ H Q=>ta σ H fun x H1=> ∃ c,x=.bl c/\if c=true then tb σ H1 Q else Q (.bl false) H1
noncomputable def vI (ta:TE):TE:=fun σ H Q=>ta σ H fun x H1=> ∃ c,x=.bl c/\Q (.bl (!c)) H1
theorem cB {op} {t:TE} (h:PE X a t):PE X (.BoolOp op [a] pos) t:=fun pins s σ H Q I hw=>BoolOp_one (h pins s σ H Q I hw)
theorem ck (ha:PE X a ta) (hb:PE X (.BoolOp .And (b::rest) pos) tb):PE X (.BoolOp .And (a::b::rest) pos) (vO ta tb):=by
 intro pins s σ H Q I h
 refine BoolOp_and (thn (ha pins s σ H _ I h) fun v s1 ⟨x,H1,I1,r1,q1⟩=>?_)
 obtain ⟨c,rfl,q1⟩:=q1
 cases r1
 refine wpAny_truthy_bool ?_
 cases c with
 | true=>exact hb pins s1 σ H1 Q I1 q1
 | false=>exact ⟨.bl false,H1,I1,rfl,q1⟩
theorem rF (ha:PE X a ta):PE X (.UnaryOp .Not a pos) (vI ta):=by
 intro pins s σ H Q I h
 refine UnaryOp_ (thn (ha pins s σ H _ I h) fun v s1 ⟨x,H1,I1,r1,q1⟩=>?_)
 obtain ⟨c,rfl,q1⟩:=q1
 cases r1
 exact not_of (wpAny_truthy_bool ⟨.bl (!c),H1,I1,rfl,q1⟩)
noncomputable def tIf (t:TT) (ta tb:TE):TE:=fun σ H Q=>t σ H fun c H1=>if c=true then ta σ H1 Q else tb σ H1 Q
theorem dl {c:Expr} (hc:PT X c tA) (ha:PE X a ta) (hb:PE X b tb):PE X (.IfExp c a b pos) (tIf tA ta tb):=by
 intro pins s σ H Q I h
 refine wpAny_IfExp (thn (hc pins s σ H _ I h) fun d s1 ⟨H1,I1,q1⟩=>?_)
 cases d with
 | true=>exact ha pins s1 σ H1 Q I1 q1
 | false=>exact hb pins s1 σ H1 Q I1 q1
end
noncomputable def SqL (K:PySem.W.Frag) (H:Hp) (a:Addr) (xs:List V):Prop:=
 Rd H a (.lst xs)\/
  ∃ (o:Obj) (its:Array Value) (n:Nat),K.lookup a=some o/\o.cls=.type "list"/\o.dict=none/\o.data=.seq its n/\its.size<=sizeLine/\Vals xs its.toList
noncomputable def SqT (K:PySem.W.Frag) (H:Hp) (a:Addr) (xs:List V):Prop:=
 Rd H a (.tup xs)\/
  ∃ (o:Obj) (its:Array Value) (n:Nat),K.lookup a=some o/\o.cls=.type "tuple"/\o.data=.seq its n/\its.size<=sizeLine/\Vals xs its.toList
noncomputable def xu:Value->Option V
 | .none=>some .non
 | .bool b=>some (.bl b)
 | .int i _=>some (.int i)
 | .str x _=>some (.str x)
 | .bytes b _=>some (.byt b)
 | .float b _=>some (.flt b)
 | .ref a=>some (.ref a)
 | .type n=>some (.ty n)
 | _=>none
theorem RelV.abs {x:V} {u:Value} (r:RelV x u):xu u=some x:=by
 cases x with
 | non=>cases r;rfl
 | bl _=>cases r;rfl
 | int _=>obtain ⟨t,rfl⟩:=r;rfl
 | str _=>obtain ⟨t,rfl⟩:=r;rfl
 | byt _=>obtain ⟨t,rfl⟩:=r;rfl
 | flt _=>obtain ⟨t,rfl⟩:=r;rfl
 | ref _=>cases r;rfl
 | ty _=>cases r;rfl
theorem RelV.inj {x y:V} {u:Value} (r:RelV x u) (q:RelV y u):x=y:=Option.some.inj (r.abs.symm.trans q.abs)
theorem Vals.inj: ∀ {xs ys:List V} {us:List Value},Vals xs us->Vals ys us->xs=ys
 | _,_,_,.nil,.nil=>rfl
 | _,_,_,.cons r t,.cons r' t'=>by rw [r.inj r',Vals.inj t t']
section
variable {X:Cx} {pins:List (Addr×Obj)} {σ:St} {H:Hp} {s:Shared} {a:Addr} {xs ys:List V}
theorem SqL.of {K:PySem.W.Frag} (h:H a=some (.lst xs)):SqL K H a xs:=.inl (.inl h)
theorem SqT.of {K:PySem.W.Frag} (h:H a=some (.tup xs)):SqT K H a xs:=.inl (.inl h)
theorem Inv.list (I:Inv X pins σ H s) (h:SqL X.K H a xs): ∃ its:List Value,Vals xs its/\PlainL s.heap a its.toArray/\xs.length<=sizeLine:=by
 rcases h with h | ⟨o,its,n,hk,hc,hd,hs,hz,r⟩
 ·obtain ⟨z,its,n,r,e⟩:=h.ok I.hok
  exact ⟨its,r,⟨_,n,e,rfl,rfl,rfl⟩,z⟩
 ·refine ⟨its.toList,r,⟨o,n,I.kIn a o hk,hc,hd,by simpa using hs⟩,?_⟩
  have e:=r.length
  simp only [Array.length_toList]at e
  omega
theorem Inv.tuple (I:Inv X pins σ H s) (h:SqT X.K H a xs): ∃ its:List Value,Vals xs its/\IsTup s.heap a its.toArray/\xs.length<=sizeLine:=by
 rcases h with h | ⟨o,its,n,hk,hc,hs,hz,r⟩
 ·obtain ⟨z,its,r,p⟩:=h.ok I.hok
  exact ⟨its,r,p,z⟩
 ·refine ⟨its.toList,r,⟨o,I.kIn a o hk,hc,n,by simpa using hs⟩,?_⟩
  have e:=r.length
  simp only [Array.length_toList]at e
  omega
theorem Inv.list_inj (I:Inv X pins σ H s) (h:SqL X.K H a xs) (h':SqL X.K H a ys):xs=ys:=by
 obtain ⟨its,r,⟨o,n,e,_,_,d⟩,_⟩:=I.list h
 obtain ⟨its',r',⟨o',n',e',_,_,d'⟩,_⟩:=I.list h'
 rw [e]at e';cases e'
 rw [d]at d'
 injection d' with d1 _
 have:its=its':=by simpa using congrArg Array.toList d1
 subst this
 exact r.inj r'
theorem Inv.tuple_inj (I:Inv X pins σ H s) (h:SqT X.K H a xs) (h':SqT X.K H a ys):xs=ys:=by
 obtain ⟨its,r,⟨o,e,_,n,d⟩,_⟩:=I.tuple h
 obtain ⟨its',r',⟨o',e',_,n',d'⟩,_⟩:=I.tuple h'
 rw [e]at e';cases e'
 rw [d]at d'
 injection d' with d1 _
 have:its=its':=by simpa using congrArg Array.toList d1
 subst this
 exact r.inj r'
end
noncomputable abbrev Cx.wish (X:Cx) (E:Value->Shared->Prop):Cx:={X with xe:=E}
noncomputable abbrev Cx.nox (X:Cx):Cx:=X.wish fun _ _=>False
theorem Cx.Ok.wish {X:Cx} (ok:X.Ok) (E:Value->Shared->Prop):(X.wish E).Ok:=
 ⟨ok.mod,ok.kind,ok.glob,ok.blt,ok.above,ok.inj,ok.has,ok.cab,ok.hd,ok.frames,ok.stk,ok.exf,ok.bs,ok.bsz,ok.noex,ok.exfs,ok.funs,ok.frf⟩
theorem Cx.Ok.unwish {X:Cx} {E:Value->Shared->Prop} (ok:(X.wish E).Ok):X.Ok:=
 ⟨ok.mod,ok.kind,ok.glob,ok.blt,ok.above,ok.inj,ok.has,ok.cab,ok.hd,ok.frames,ok.stk,ok.exf,ok.bs,ok.bsz,ok.noex,ok.exfs,ok.funs,ok.frf⟩
section
variable {X:Cx} {pins:List (Addr×Obj)} {σ:St} {H:Hp} {s:Shared} {E:Value->Shared->Prop}
theorem Inv.wish (I:Inv X pins σ H s) (E:Value->Shared->Prop):Inv (X.wish E) pins σ H s:=⟨I.ok.wish E,I.os,I.bare,I.base,I.loc,I.cell,I.free,I.freeC,I.pin,I.hok,I.len⟩
theorem Inv.unwish (I:Inv (X.wish E) pins σ H s):Inv X pins σ H s:=⟨I.ok.unwish,I.os,I.bare,I.base,I.loc,I.cell,I.free,I.freeC,I.pin,I.hok,I.len⟩
theorem SP.unwish {D:ev} {f:Flow} {s':Shared} (h:SP (X.wish E) pins D f s'):SP X pins D f s':=by
 cases f with
 | next=>obtain ⟨σ',H',I,q⟩:=h;exact ⟨σ',H',I.unwish,q⟩
 | brk=>obtain ⟨σ',H',I,q⟩:=h;exact ⟨σ',H',I.unwish,q⟩
 | cont=>obtain ⟨σ',H',I,q⟩:=h;exact ⟨σ',H',I.unwish,q⟩
 | ret u=>obtain ⟨v,σ',H',I,r,q⟩:=h;exact ⟨v,σ',H',I.unwish,r,q⟩
theorem PSs.nox {st:List Stmt} {t:TS} (h:PSs X.nox st t):PSs X st t:=fun pins s σ H D I hw=>
 wpAny_mono (h pins s σ H D (I.wish _) hw) (fun _ _ q=>q.unwish) fun _ _ z=>False.elim z
end
section
variable {X:Cx} {st:Stmt} {rest:List Stmt} {t u:TS} {e:Expr} {te:TE} {pos:Pos}
noncomputable def vJ:TS:=fun D σ H=>D.nx σ H
noncomputable def qK (t u:TS):TS:=fun D σ H=>t {D with nx:=u D} σ H
theorem ax:PSs X [] vJ:=fun _ _ σ H _ I h=>wpAny_execs_nil ⟨σ,H,I,h⟩
theorem ad (h1:PS X st t) (h2:PSs X rest u):PSs X (st::rest) (qK t u):=by
 intro pins s σ H D I h
 refine wpAny_execs_cons (thn (h1 pins s σ H {D with nx:=u D} I h) fun f s1 q=>?_)
 cases f with
 | next=>
  obtain ⟨σ',H',I',q⟩:=q
  exact h2 pins s1 σ' H' D I' q
 | ret v=>exact q
 | brk=>exact q
 | cont=>exact q
theorem ah (h1:PS X st t):PSs X [st] t:=by
 intro pins s σ H D I h
 refine wpAny_execs_cons (thn (h1 pins s σ H D I h) fun f s1 q=>?_)
 cases f with
 | next=>exact wpAny_execs_nil q
 | ret v=>exact q
 | brk=>exact q
 | cont=>exact q
theorem Inv.quiet {pins:List (Addr×Obj)} {σ:St} {H:Hp} {s:Shared} (I:Inv X pins σ H s):interactive X.env=false:=by simp [interactive,I.ok.kind]
noncomputable def vL (te:TE):TS:=fun D σ H=>te σ H fun _ H1=>D.nx σ H1
theorem cy (he:PE X e te) (hs:swapsWith e none pos.line X.env=pure false:=by rfl):PS X (.Expr e pos) (vL te):=by
 intro pins s σ H D I h
 exact wpAny_Expr_any (thn (he pins s σ H _ I h) fun v s1 ⟨x,H1,I1,r1,q1⟩=>⟨σ,H1,I1,q1⟩) I.quiet hs
noncomputable def wN (te:TE):TS:=fun D σ H=>te σ H D.rt
theorem au (he:PE X e te):PS X (.Return (some e) pos) (wN te):=by
 intro pins s σ H D I h
 exact wpAny_Return_some (thn (he pins s σ H _ I h) fun v s1 ⟨x,H1,I1,r1,q1⟩=>⟨x,σ,H1,I1,r1,q1⟩)
noncomputable def wQ (c:TT) (t u:TS):TS:=fun D σ H=>c σ H fun b H1=>if b=true then t D σ H1 else u D σ H1
theorem aK {c:Expr} {a b:List Stmt} {tc:TT} (hc:PT X c tc) (ha:PSs X a t) (hb:PSs X b u):PS X (.If c a b pos) (wQ tc t u):=by
 intro pins s σ H D I h
 refine wpAny_If (thn (hc pins s σ H _ I h) fun d s1 ⟨H1,I1,q1⟩=>?_)
 cases d with
 | true=>exact ha pins s1 σ H1 D I1 q1
 | false=>exact hb pins s1 σ H1 D I1 q1
noncomputable def uP:TS:=fun _ _ _=>False
theorem aM {sts:List Stmt}:PSs X sts uP:=fun _ _ _ _ _ _ h=>h.elim
end
noncomputable abbrev TG:=V->St->Hp->(St->Hp->Prop)->Prop
noncomputable abbrev TGs:=List V->St->Hp->(St->Hp->Prop)->Prop
noncomputable def PG (X:Cx) (target:Expr) (t:TG):Prop:=
 ∀ (pins:List (Addr×Obj)) (s:Shared) (σ:St) (H:Hp) (v:V) (u:Value) (Q:St->Hp->Prop),Inv X pins σ H s->RelV v u->t v σ H Q->
  wpAny (model X.prog X.w) X.A (assign target X.env u) (fun _ s'=> ∃ σ' H',Inv X pins σ' H' s'/\Q σ' H') X.xe s
noncomputable def PGs (X:Cx) (ts:List Expr) (t:TGs):Prop:=
 ∀ (pins:List (Addr×Obj)) (s:Shared) (σ:St) (H:Hp) (vs:List V) (us:List Value) (Q:St->Hp->Prop),Inv X pins σ H s->Vals vs us->t vs σ H Q->
  wpAny (model X.prog X.w) X.A (assignInOrder ((assignEach ts X.env).map (·.2)) us) (fun _ s'=> ∃ σ' H',Inv X pins σ' H' s'/\Q σ' H') X.xe s
noncomputable abbrev vA:=V->V->V->Hp->(Hp->Prop)->Prop
noncomputable def wI (X:Cx) (t:vA):Prop:=
 ∀ (pins:List (Addr×Obj)) (s:Shared) (σ:St) (H:Hp) (o i v:V) (ov iv u:Value) (Q:Hp->Prop),Inv X pins σ H s->RelV o ov->RelV i iv->RelV v u->t o i v H Q->
  wpAny (model X.prog X.w) X.A (setItem ov iv u) (fun _ s'=> ∃ H',Inv X pins σ H' s'/\Q H') X.xe s
noncomputable abbrev TIp:=V->V->Hp->VK->Prop
noncomputable def PIp (X:Cx) (op:Operator) (t:TIp):Prop:=
 ∀ (pins:List (Addr×Obj)) (s:Shared) (σ:St) (H:Hp) (x y:V) (v u:Value) (Q:VK),Inv X pins σ H s->RelV x v->RelV y u->t x y H Q->
  wpAny (model X.prog X.w) X.A (inplaceOp op v u) (EP X pins σ Q) X.xe s
section
variable {X:Cx} {pos:Pos}
noncomputable def dH (i:Nat):TG:=fun v σ H Q=>Q (σ.set i (some v)) H
theorem aO {i:Nat} {x:Str} (hN:X.N.Nodup) (hi:X.N[i]? =some x) (hx:Loc X.env.scope x) (hf:X.fn x=true\/X.env.scope.names.lookup x=some .local:=by first | exact .inl rfl | exact .inr rfl | assumption):PG X (.Name x pos) (dH i):=by
 intro pins s σ H v u Q I r h
 exact wpAny_assign_Name (io I hN hi hx r (fun s' I'=>⟨_,H,I',h⟩) hf)
noncomputable def ww:TGs:=fun vs σ H Q=>vs=[]/\Q σ H
noncomputable def oW (t:TG) (u:TGs):TGs:=fun vs σ H Q=> ∃ v r,vs=v::r/\t v σ H fun σ' H'=>u r σ' H' Q
theorem fh:PGs X [] ww:=by
 intro pins s σ H vs us Q I r h
 obtain ⟨e,h⟩:=h
 subst e
 cases r
 exact assignInOrder_nil ⟨σ,H,I,h⟩
theorem bc {e:Expr} {es:List Expr} {t:TG} {u:TGs} (h1:PG X e t) (h2:PGs X es u)
  (hs:(assignEach (e::es) X.env).map (·.2)=assign e X.env::(assignEach es X.env).map (·.2):=by rfl):PGs X (e::es) (oW t u):=by
 intro pins s σ H vs us Q I r h
 obtain ⟨v,vr,e1,h⟩:=h
 subst e1
 cases r with
 | cons r rr=>
  rw [hs]
  refine assignInOrder_cons (thn (h1 pins s σ H _ _ _ I r h) fun _ s1 ⟨σ1,H1,I1,q1⟩=>?_)
  exact h2 pins s1 σ1 H1 _ _ Q I1 rr q1
noncomputable def wv (K:PySem.W.Frag) (n:Nat) (t:TGs):TG:=fun v σ H Q=> ∃ a xs,v=.ref a/\SqT K H a xs/\xs.length=n/\t xs σ H Q
theorem gK {es:List Expr} {k:Nat} {t:TGs} {n:Nat} (hc:X.calm=true) (h:PGs X es t)
  (hn:(assignEach es X.env).length=n:=by rfl) (hst:(assignEach es X.env).findIdx? (·.1)=none:=by rfl):PG X (.Tuple es k pos) (wv X.K n t):=by
 intro pins s σ H v u Q I r hw
 obtain ⟨a,xs,e1,hq,hl,hw⟩:=hw
 subst e1
 cases r
 obtain ⟨its,rv,ht,hz⟩:=I.tuple hq
 refine assign_Tuple_tuple (I.ok.hd hc) ht (by simp [hn,<- hl,rv.length]) hst fun h' hx=>?_
 have I1:Inv X pins σ H {s with heap:=h'}:=I.kept (t':=s.toks) fun b o e=>hx b o (Nat.ne_of_lt (Heap.lt_size e)) e
 exact h pins _ σ H xs _ Q I1 (by simpa using rv) hw
noncomputable def xp (to ti:TE) (t:vA):TG:=fun v σ H Q=>to σ H fun o H1=>ti σ H1 fun i H2=>t o i v H2 fun H3=>Q σ H3
theorem nB {o i:Expr} {to ti:TE} {t:vA} (ho:PE X o to) (hi:PE X i ti) (hs:wI X t)
  (ha: ∀ v,assign (.Subscript o i pos) X.env v=(do
   let ov <- holding [v] (eval o X.env)
   let iv <- holding [v,ov] (eval i X.env)
   standAt pos
   holding [v,ov,iv] (setItem ov iv v)
   release [v,ov,iv] []):=by intro _;rfl):PG X (.Subscript o i pos) (xp to ti t):=by
 intro pins s σ H v u Q I r h
 rw [ha]
 refine wpAny_bind (wpAny_holding (thn (ho pins s σ H _ I h) fun ov s1 ⟨x,H1,I1,r1,q1⟩=>?_))
 refine wpAny_bind (wpAny_holding (thn (hi pins s1 σ H1 _ I1 q1) fun iv s2 ⟨y,H2,I2,r2,q2⟩=>?_))
 refine wpAny_bind (wpAny_standAt (wpAny_bind (wpAny_holding (thn (hs pins s2 σ H2 x y v ov iv u _ I2 r1 r2 r q2) fun _ s3 ⟨H3,I3,q3⟩=>?_))))
 exact wpAny_release ⟨σ,H3,I3,q3⟩
noncomputable def jK (te:TE) (g:TG):TS:=fun D σ H=>te σ H fun x H1=>g x σ H1 D.nx
theorem ki {tg e:Expr} {te:TE} {g:TG} (he:PE X e te) (hg:PG X tg g) (hs:swapsWithSole [tg] e pos.line X.env=pure false:=by rfl) (hw:swappedStores [tg] e X.env=pure none:=by rfl)
  (h1:(assignEach [tg] X.env).map (·.2)=[assign tg X.env]:=by rfl):PS X (.Assign [tg] e pos) (jK te g):=by
 intro pins s σ H D I h
 refine wpAny_Assign_stores (thn (he pins s σ H _ I h) fun v s1 ⟨x,H1,I1,r1,q1⟩=>?_) hs hw
 rw [h1]
 exact thn (hg pins s1 σ H1 x v _ I1 r1 q1) fun _ s2 q=>q
theorem aw {i:Nat} {x:Str} {e:Expr} {te:TE} {pos':Pos} (hN:X.N.Nodup) (hi:X.N[i]? =some x) (hx:Loc X.env.scope x) (he:PE X e te) (hs:swapsWith e (some (.Name x pos')) pos.line X.env=pure false:=by rfl) (hf:X.fn x=true\/X.env.scope.names.lookup x=some .local:=by first | exact .inl rfl | exact .inr rfl | assumption):
  PS X (.Assign [.Name x pos'] e pos) (jK te (dH i)):=by
 intro pins s σ H D I h
 refine wpAny_Assign_Name (thn (he pins s σ H _ I h) fun v s1 ⟨y,H1,I1,r1,q1⟩=>?_) hs
 exact io I1 hN hi hx r1 (fun s2 I2=>⟨_,H1,I2,q1⟩) hf
noncomputable def wT (i:Nat) (te:TE) (ti:TIp):TS:=fun D σ H=> ∃ x,σ[i]? =some (some x)/\te σ H fun y H1=>ti x y H1 fun z H2=>D.nx (σ.set i (some z)) H2
theorem uZ {i:Nat} {x:Str} {e:Expr} {te:TE} {op:Operator} {ti:TIp} {pos':Pos} (hN:X.N.Nodup) (hi:X.N[i]? =some x) (hx:Loc X.env.scope x) (he:PE X e te) (ho:PIp X op ti) (hf:X.fn x=true\/X.env.scope.names.lookup x=some .local:=by first | exact .inl rfl | exact .inr rfl | assumption):
  PS X (.AugAssign (.Name x pos') op e pos) (wT i te ti):=by
 intro pins s σ H D I h
 obtain ⟨v,e1,h⟩:=h
 obtain ⟨m,hn,hl⟩:=I.loc
 have vis:Vis X.env.scope x:=by rcases hx with k | k;exact .inl k;exact .inr (.inl k)
 obtain ⟨u,r,l⟩:=hl i x v hi e1 vis
 refine wpAny_AugAssign_Name ?_
 have go:wpAny (model X.prog X.w) X.A (eval e X.env) (fun w s₂=>wpAny (model X.prog X.w) X.A (inplaceOp op u w) (fun r s₃=>wpAny (model X.prog X.w) X.A (storeName X.env x r) (fun _=>SP X pins D .next) X.xe s₃) X.xe s₂) X.xe s:=by
  refine thn (he pins s σ H _ I h) fun w s1 ⟨y,H1,I1,r1,q1⟩=>?_
  refine thn (ho pins s1 σ H1 v y u w _ I1 r r1 q1) fun z s2 ⟨zv,H2,I2,r2,q2⟩=>?_
  exact io I2 hN hi hx r2 (fun s3 I3=>⟨_,H2,I3,q2⟩) hf
 rcases l with ⟨hk,hm⟩ | ⟨hk,c,hc,hcell⟩
 ·exact wpAny_loadName_local I.ok.kind hk hn hm go
 ·rcases hk with hk | hk
  ·exact wpAny_loadName_cell I.ok.kind hk hc hcell go
  ·rcases hx with k | k
   ·have:X.env.scope.names.lookup x=some .free:=hk
    rw [k]at this;cases this
   ·have:X.env.scope.names.lookup x=some .free:=hk
    rw [k]at this;cases this
noncomputable def ipI (f:Int->Int->Int):TIp:=fun x y H Q=> ∃ i j,x=.int i/\y=.int j/\Q (.int (f i j)) H
theorem vp:PIp X .Add (ipI fun i j=>i+j):=by
 intro pins s σ H x y v u Q I r1 r2 h
 obtain ⟨i,j,e1,e2,q⟩:=h
 subst e1;subst e2
 obtain ⟨t,rfl⟩:=r1
 obtain ⟨t',rfl⟩:=r2
 exact iadd_int ⟨.int _,H,I.tok _,⟨_,rfl⟩,q⟩
end
section
variable {X:Cx} {pos:Pos}
noncomputable def qJ (c:TT) (tb:TS):TS:=fun D σ H=> ∃ W:Nat->St->Hp->Prop,(∃ m,W m σ H)/\ ∀ m σ H,W m σ H->
 c σ H fun b H1=>if b=true then ∃ N:St->Hp->Prop,(∀ σ' H',N σ' H'-> ∃ m',m'<m/\W m' σ' H')/\tb {D with nx:=N,ct:=N,bk:=D.nx} σ H1 else D.nx σ H1
theorem fV {c:Expr} {body:List Stmt} {tc:TT} {tb:TS} (hp:PassesOwn (model X.prog X.w) X.A X.env X.xe) (hc:PT X c tc) (hb:PSs X body tb):PS X (.While c body [] pos) (qJ tc tb):=by
 intro pins s σ H D I h
 obtain ⟨W,⟨m0,w0⟩,turn⟩:=h
 refine wpAny_While (codeAny_whileLoop (fun n s'=> ∃ σ' H',Inv X pins σ' H' s'/\W n σ' H') ?_ m0 ⟨σ,H,I,w0⟩)
 rintro n s1 ⟨σ1,H1,I1,w1⟩
 refine wpAny_passesOwn hp (thn (hc pins s1 σ1 H1 _ I1 (turn n σ1 H1 w1)) fun b s2 ⟨H2,I2,q2⟩=>?_)
 cases b with
 | true=>
  obtain ⟨N,hN,q2⟩:=q2
  rw [if_pos rfl]
  refine wpAny_passesOwn hp (thn (hb pins s2 σ1 H2 _ I2 q2) fun f s3 q3=>?_)
  cases f with
  | next=>
   obtain ⟨σ3,H3,I3,n3⟩:=q3
   obtain ⟨m',hm,w3⟩:=hN σ3 H3 n3
   exact ⟨m',hm,σ3,H3,I3,w3⟩
  | cont=>
   obtain ⟨σ3,H3,I3,n3⟩:=q3
   obtain ⟨m',hm,w3⟩:=hN σ3 H3 n3
   exact ⟨m',hm,σ3,H3,I3,w3⟩
  | brk=>exact q3
  | ret v=>exact q3
 | false=>
  rw [if_neg Bool.false_ne_true]
  exact wpAny_execs_nil ⟨σ1,H2,I2,q2⟩
end
structure It where
 go:Nat->Hp->Prop
 yld:Nat->Hp->V->Hp->Prop
 stop:Nat->Hp->Prop
noncomputable def jn (X:Cx) (pins:List (Addr×Obj)) (H:Hp) (b:Addr):Prop:=
 H b=none/\b≠X.env.locals/\b∉X.fs/\(b∈X.ex\/X.s₀.heap.objs.size<=b)/\(∀ x c,X.env.cells.lookup x=some c->c≠b)/\ ∀ p∈X.pn++pins,p.1≠b
theorem Inv.fpOk {X:Cx} {pins:List (Addr×Obj)} {σ:St} {H H':Hp} {s:Shared} {b:Addr} (I:Inv X pins σ H s) (hb:s.heap.objs.size<=b) (hn:H' b=none):jn X pins H' b:=by
 refine ⟨hn,Nat.ne_of_gt (Nat.lt_of_lt_of_le I.lt hb),I.nofs hb,.inr (Nat.le_trans I.sz hb),fun x c e z=>?_,fun p hp z=>?_⟩
 ·obtain ⟨v,q⟩:=I.cell x c e
  exact absurd (Nat.lt_of_lt_of_le q.lt (by rw [z];exact hb)) (Nat.lt_irrefl _)
 ·exact absurd (Nat.lt_of_lt_of_le (Heap.lt_size (I.pin p hp).1) (by rw [z];exact hb)) (Nat.lt_irrefl _)
structure on (P:Program) (w:World) (K:PySem.W.Frag) (tg:Expr) (J:It) (fp:List Addr) (it:Addr) (tn:Nat->Heap->Prop):Prop where
 mem:it∈fp
 obj: ∀ i h,tn i h-> ∀ b∈fp,∃ o,h.get? b=some o/\ ∀ v,o.data≠ .cell v
 keep: ∀ i h h',tn i h->(∀ b∈fp,∀ o,h.get? b=some o->h'.get? b=some o)->tn i h'
 item: ∀ (X:Cx),X.prog=P->X.w=w->X.K=K->X.calm=true-> ∀ (i:Nat) (pins:List (Addr×Obj)) (s:Shared) (σ:St) (H:Hp) (E:Value->Shared->Prop),Inv X pins σ H s->(∀ b∈fp,jn X pins H b)->tn i s.heap->J.go i H->
  wpAny (model P w) X.A (pyNext (.ref it)) (fun r s1=> ∃ u,r=some u/\
   wpAny (model P w) X.A (letOwnedTupleGo tg (.ref it) u) (fun _ s2=> ∃ x H',Inv X pins σ H' s2/\RelV x u/\J.yld i H x H'/\tn (i+1) s2.heap/\ ∀ b∈fp,H' b=none) E s1) E s
 done: ∀ (X:Cx),X.prog=P->X.w=w->X.K=K->X.calm=true-> ∀ (i:Nat) (pins:List (Addr×Obj)) (s:Shared) (σ:St) (H:Hp) (E:Value->Shared->Prop),Inv X pins σ H s->(∀ b∈fp,jn X pins H b)->tn i s.heap->J.stop i H->
  wpAny (model P w) X.A (pyNext (.ref it)) (fun r s1=>r=none/\Inv X pins σ H s1) E s
 self: ∀ (A:Around) (i:Nat) (s:Shared) (Q:Value->Shared->Prop) (E:Value->Shared->Prop),tn i s.heap->Q (.ref it) s->wpAny (model P w) A (pyIter (.ref it)) Q E s
noncomputable abbrev TI:=St->Hp->(It->Hp->Prop)->Prop
noncomputable def PIE (X:Cx) (pins:List (Addr×Obj)) (σ:St) (tg:Expr) (R:It->Hp->Prop) (itv:Value) (s2:Shared):Prop:=
 ∃ (it:Addr) (fp:List Addr) (tn:Nat->Heap->Prop) (J:It) (H':Hp),itv=.ref it/\Inv X pins σ H' s2/\on X.prog X.w X.K tg J fp it tn/\tn 0 s2.heap/\(∀ b∈fp,jn X pins H' b)/\R J H'
noncomputable def PI (X:Cx) (tg iter:Expr) (wi:TI):Prop:=
 ∀ (pins:List (Addr×Obj)) (s:Shared) (σ:St) (H:Hp) (R:It->Hp->Prop),Inv X pins σ H s->wi σ H R->
  wpAny (model X.prog X.w) X.A (eval iter X.env) (fun v s1=>wpAny (model X.prog X.w) X.A (pyIter v) (PIE X pins σ tg R) X.xe s1) X.xe s
theorem me {M:Model} {A:Around} {E:Value->Shared->Prop} {s:Shared} {tg:Expr} {it:Addr} {u:Value} {o:Obj} {n:String} {vs:Array Value} {Q:Unit->Shared->Prop} (ho:s.heap.get? it=some o) (hc:o.cls=.type n) (hd:o.data=.fields vs)
  (hn:["enumerate","zip","dict_itemiterator","dict_reverseitemiterator","odict_iterator","itertools.zip_longest","itertools.pairwise"].contains n=false) (hQ:Q () s):wpAny M A (letOwnedTupleGo tg (.ref it) u) Q E s:=by
 unfold letOwnedTupleGo
 cases tg <;> first
  | exact wpAny_pure hQ
  | (cases u <;> first
    | exact wpAny_pure hQ
    | (refine wpAny_bind (wpAny_load ho ?_)
       rw [hc,hd]
       show wpAny M A (if (["enumerate","zip","dict_itemiterator","dict_reverseitemiterator","odict_iterator","itertools.zip_longest","itertools.pairwise"].contains n&&vs[0]? ==some (rawInt _))=true then _ else _) Q E s
       rw [if_neg (by intro h;rw [hn,Bool.false_and]at h;cases h)]
       exact wpAny_pure hQ))
noncomputable def Itl (K:PySem.W.Frag) (a:Addr):It:=
 ⟨fun i H=> ∃ xs x,SqL K H a xs/\xs[i]? =some x,fun i H x H'=>H'=H/\ ∀ xs,SqL K H a xs->xs[i]? =some x,fun i H=> ∃ xs,SqL K H a xs/\xs.length<=i⟩
noncomputable def Itt (K:PySem.W.Frag) (a:Addr):It:=
 ⟨fun i H=> ∃ xs x,SqT K H a xs/\xs[i]? =some x,fun i H x H'=>H'=H/\ ∀ xs,SqT K H a xs->xs[i]? =some x,fun i H=> ∃ xs,SqT K H a xs/\xs.length<=i⟩
noncomputable def Itr (lo:Int) (n:Nat):It:=⟨fun i _=>i<n,fun i H x H'=>H'=H/\x=.int (lo+i),fun i _=>n<=i⟩
theorem pz {P:Program} {w:World} {K:PySem.W.Frag} {tg:Expr} (a it:Addr):on P w K tg (Itl K a) [it] it (fun i h=>h.IsListIter it a i) where
 mem:=by simp
 obj:=fun i h st b hb=>by
  have e:b=it:=by simpa using hb
  subst e
  obtain ⟨o,e,c,d⟩:=st
  exact ⟨o,e,fun v z=>by rw [d]at z;cases z⟩
 keep:=fun i h h' st k=>st.at fun o e=>k it (by simp) o e
 item:=by
  intro X hP hw hK hc i pins s σ H E I hf st hg
  subst hP hw hK
  obtain ⟨xs,x,hq,hx⟩:=hg
  obtain ⟨its,rv,p,hz⟩:=I.list hq
  obtain ⟨u,hu,ru⟩:=rv.get hx
  obtain ⟨f0,f1,f2,f3,f4,f5⟩:=hf it (by simp)
  refine wpAny_pyNext_list_item st p.isList (x:=u) (by simpa using hu) fun h' st' sb=>?_
  have I1:Inv X pins σ H {s with heap:=h'}:=I.turned (t':=s.toks) (fun b o hb e=>(sb.2 b hb).trans e) f0 f1 f3 f4 f5
  obtain ⟨o,e,c,d⟩:=id st'
  exact ⟨u,rfl,me (s:={s with heap:=h'}) e c d (by decide) ⟨x,H,I1,ru,⟨rfl,fun ys hy=>by rw [I.list_inj hy hq];exact hx⟩,st',fun b hb=>(hf b hb).1⟩⟩
 done:=by
  intro X hP hw hK hc i pins s σ H E I hf st hg
  subst hP hw hK
  obtain ⟨xs,hq,hx⟩:=hg
  obtain ⟨its,rv,p,hz⟩:=I.list hq
  obtain ⟨f0,f1,f2,f3,f4,f5⟩:=hf it (by simp)
  have hl:=rv.length
  exact wpAny_pyNext_list_end (I.ok.hd hc) st p.isList (by simp;omega) fun h' eb=>⟨rfl,I.turned (t':=s.toks) (fun b o hb e=>eb b o hb e) f0 f1 f3 f4 f5⟩
 self:=fun _ _ _ _ _ st h=>wpAny_pyIter_listiter st h
theorem mz {P:Program} {w:World} {K:PySem.W.Frag} {tg:Expr} (a it:Addr):on P w K tg (Itt K a) [it] it (fun i h=>h.IsTupleIter it a i) where
 mem:=by simp
 obj:=fun i h st b hb=>by
  have e:b=it:=by simpa using hb
  subst e
  obtain ⟨o,e,c,d⟩:=st
  exact ⟨o,e,fun v z=>by rw [d]at z;cases z⟩
 keep:=fun i h h' st k=>st.at fun o e=>k it (by simp) o e
 item:=by
  intro X hP hw hK hc i pins s σ H E I hf st hg
  subst hP hw hK
  obtain ⟨xs,x,hq,hx⟩:=hg
  obtain ⟨its,rv,p,hz⟩:=I.tuple hq
  obtain ⟨u,hu,ru⟩:=rv.get hx
  obtain ⟨f0,f1,f2,f3,f4,f5⟩:=hf it (by simp)
  refine wpAny_pyNext_tuple_item st (show s.heap.IsTuple a its.toArray from p) (x:=u) (by simpa using hu) fun h' st' sb=>?_
  have I1:Inv X pins σ H {s with heap:=h'}:=I.turned (t':=s.toks) (fun b o hb e=>(sb.2 b hb).trans e) f0 f1 f3 f4 f5
  obtain ⟨o,e,c,d⟩:=id st'
  exact ⟨u,rfl,me (s:={s with heap:=h'}) e c d (by decide) ⟨x,H,I1,ru,⟨rfl,fun ys hy=>by rw [I.tuple_inj hy hq];exact hx⟩,st',fun b hb=>(hf b hb).1⟩⟩
 done:=by
  intro X hP hw hK hc i pins s σ H E I hf st hg
  subst hP hw hK
  obtain ⟨xs,hq,hx⟩:=hg
  obtain ⟨its,rv,p,hz⟩:=I.tuple hq
  obtain ⟨f0,f1,f2,f3,f4,f5⟩:=hf it (by simp)
  have hl:=rv.length
  exact wpAny_pyNext_tuple_end (I.ok.hd hc) st (show s.heap.IsTuple a its.toArray from p) (by simp;omega) fun h' eb=>⟨rfl,I.turned (t':=s.toks) (fun b o hb e=>eb b o hb e) f0 f1 f3 f4 f5⟩
 self:=fun _ _ _ _ _ st h=>wpAny_pyIter_tupleiter st h
theorem mE {P:Program} {w:World} {K:PySem.W.Frag} {tg:Expr} (it:Addr) (lo:Int) (n:Nat):on P w K tg (Itr lo n) [it] it (fun i h=>IsRangeIter h it (lo+ (i:Nat) *1) ((n:Int) - (i:Nat)) 1) where
 mem:=by simp
 obj:=fun i h st b hb=>by
  have e:b=it:=by simpa using hb
  subst e
  exact ⟨_,st,fun v z=>by
   have z':Data.fields _=Data.cell v:=z
   cases z'⟩
 keep:=fun i h h' st k=>k it (by simp) _ st
 item:=by
  intro X hP hw hK hc i pins s σ H E I hf st hg
  subst hP hw hK
  obtain ⟨f0,f1,f2,f3,f4,f5⟩:=hf it (by simp)
  have W:=Walks.range (prog:=X.prog) (w:=X.w) (I.ok.hd hc) it lo 1 n
  refine W.item i s _ _ hg st fun v h' tk hv st' kk=>?_
  obtain ⟨t,rfl⟩:=hv
  have I1:Inv X pins σ H {s with heap:=h',toks:=tk}:=I.turned (fun b o hb e=>kk b o (by simpa using hb) e) f0 f1 f3 f4 f5
  refine ⟨_,rfl,me (s:={s with heap:=h',toks:=tk}) (n:="range_iterator") st' rfl rfl (by decide) ⟨.int (lo+i),H,I1,⟨t,?_⟩,⟨rfl,rfl⟩,st',fun b hb=>(hf b hb).1⟩⟩
  rw [Int.mul_one]
 done:=by
  intro X hP hw hK hc i pins s σ H E I hf st hg
  subst hP hw hK
  obtain ⟨f0,f1,f2,f3,f4,f5⟩:=hf it (by simp)
  exact wpAny_pyNext_range_end (I.ok.hd hc) st (by have:n<=i:=hg;omega) fun h' eb=>⟨rfl,I.turned (t':=s.toks) (fun b o hb e=>eb b o hb e) f0 f1 f3 f4 f5⟩
 self:=fun _ _ _ _ _ st h=>wpAny_pyIter_rangeiter st h
section
variable {X:Cx} {tg:Expr}
noncomputable def wo (K:PySem.W.Frag) (tl:TE):TI:=fun σ H R=>tl σ H fun x H1=> ∃ a,x=.ref a/\(∃ xs,SqL K H1 a xs)/\R (Itl K a) H1
noncomputable def xg (K:PySem.W.Frag) (tl:TE):TI:=fun σ H R=>tl σ H fun x H1=> ∃ a,x=.ref a/\(∃ xs,SqT K H1 a xs)/\R (Itt K a) H1
theorem cS {l:Expr} {tl:TE} (hl:PE X l tl):PI X tg l (wo X.K tl):=by
 intro pins s σ H R I h
 refine thn (hl pins s σ H _ I h) fun v s1 ⟨x,H1,I1,r1,q1⟩=>?_
 obtain ⟨a,e,⟨xs,hq⟩,q⟩:=q1
 subst e
 cases r1
 obtain ⟨its,rv,p,hz⟩:=I1.list hq
 refine wpAny_pyIter_list p.isList ?_
 refine ⟨s1.heap.objs.size,[s1.heap.objs.size],_,_,H1,rfl,I1.kept (t':=s1.toks) fun b o e=>Heap.get?_push_of_some _ e,pz a _,⟨_,Heap.get?_push_size _ rfl,rfl,rfl⟩,fun b hb=>?_,q⟩
 have e:b=s1.heap.objs.size:=by simpa using hb
 subst e
 exact I1.fpOk (Nat.le_refl _) (I1.hok.fresh (Nat.le_refl _))
theorem a8 {l:Expr} {tl:TE} (hl:PE X l tl):PI X tg l (xg X.K tl):=by
 intro pins s σ H R I h
 refine thn (hl pins s σ H _ I h) fun v s1 ⟨x,H1,I1,r1,q1⟩=>?_
 obtain ⟨a,e,⟨xs,hq⟩,q⟩:=q1
 subst e
 cases r1
 obtain ⟨its,rv,p,hz⟩:=I1.tuple hq
 refine wpAny_pyIter_tuple (show s1.heap.IsTuple a its.toArray from p) ?_
 refine ⟨s1.heap.objs.size,[s1.heap.objs.size],_,_,H1,rfl,I1.kept (t':=s1.toks) fun b o e=>Heap.get?_push_of_some _ e,mz a _,⟨_,Heap.get?_push_size _ rfl,rfl,rfl⟩,fun b hb=>?_,q⟩
 have e:b=s1.heap.objs.size:=by simpa using hb
 subst e
 exact I1.fpOk (Nat.le_refl _) (I1.hok.fresh (Nat.le_refl _))
theorem lE {pins:List (Addr×Obj)} {σ:St} {H:Hp} {s:Shared} {R:It->Hp->Prop} {E:Value->Shared->Prop} {lo hi:Int} {t u v:Tok} {tk:Nat} (I:Inv X pins σ H s) (h1: -(2^62)<=lo) (h2:lo<2^62) (h3: -(2^62)<=hi) (h4:hi<2^62)
  (q:R (Itr lo (hi-lo).toNat) H):wpAny (model X.prog X.w) X.A (pyIter (.ref s.heap.objs.size)) (PIE X pins σ tg R) E {s with heap:=s.heap.push {cls:=.type "range",data:=.fields #[.int lo t,.int hi u,.int 1 v]},toks:=tk}:=by
 refine wpAny_pyIter_range (IsRange.new ..) (small_one h1 h2 h3 h4) ?_
 have I1:Inv X pins σ H {s with heap:=s.heap.push {cls:=.type "range",data:=.fields #[.int lo t,.int hi u,.int 1 v]},toks:=tk}:=I.kept fun b o e=>Heap.get?_push_of_some _ e
 refine ⟨(s.heap.push {cls:=.type "range",data:=.fields #[.int lo t,.int hi u,.int 1 v]}).objs.size,[(s.heap.push {cls:=.type "range",data:=.fields #[.int lo t,.int hi u,.int 1 v]}).objs.size],_,_,H,rfl,
  I1.kept (t':=tk) fun b o e=>Heap.get?_push_of_some _ e,mE _ lo (hi-lo).toNat,?_,fun b hb=>?_,q⟩
 ·have e1:lo+ ((0:Nat):Int) *1=lo:=by simp
  have e2:(((hi-lo).toNat:Nat):Int) - ((0:Nat):Int)=Builtin.Range.rangeSize lo hi 1:=by rw [rangeSize_one];split <;> omega
  show IsRangeIter _ _ (lo+ ((0:Nat):Int) *1) ((((hi-lo).toNat:Nat):Int) - ((0:Nat):Int)) 1
  rw [e1,e2]
  exact Heap.get?_push_size _ rfl
 ·have e:b=(s.heap.push {cls:=.type "range",data:=.fields #[.int lo t,.int hi u,.int 1 v]}).objs.size:=by simpa using hb
  subst e
  exact I1.fpOk (Nat.le_refl _) (I1.hok.fresh (Nat.le_refl _))
noncomputable def wn (ta:TA):TI:=fun σ H R=>ta σ H fun vs H1=> ∃ j:Int,vs=[.int j]/\ -(2^62)<=j/\j<2^62/\R (Itr 0 j.toNat) H1
noncomputable def wm (ta:TA):TI:=fun σ H R=>ta σ H fun vs H1=> ∃ i j:Int,vs=[.int i,.int j]/\(-(2^62)<=i/\i<2^62/\ -(2^62)<=j/\j<2^62)/\R (Itr i (j-i).toNat) H1
theorem cE {a:Expr} {ta:TA} {p pos:Pos} (hg:Gl X "range") (hm:X.mg "range"=none) (ha:PA X [a] ta) (hs:starEach [a] X.env=[(false,eval a X.env)]:=by rfl):PI X tg (.Call (.Name "range" p) [a] [] pos) (wn ta):=by
 intro pins s σ H R I h
 refine Call_ (eV I hg hm boot_range (PyProof.Rows.callWith_type1 (thn (ha pos pins s σ H _ I h) fun us s1 ⟨vs,H1,I1,r1,q1⟩=>?_) hs rfl))
 obtain ⟨j,e,q1,q2,q⟩:=q1
 subst e
 cases r1 with
 | cons r rr=>
  cases rr
  obtain ⟨t,rfl⟩:=r
  exact call_range_1 (lE I1 (by omega) (by omega) q1 q2 (by simpa using q))
theorem pR {a b:Expr} {ta:TA} {p pos:Pos} (hg:Gl X "range") (hm:X.mg "range"=none) (ha:PA X [a,b] ta) (hs:starEach [a,b] X.env=[(false,eval a X.env),(false,eval b X.env)]:=by rfl) (hs2:starEach [b] X.env=[(false,eval b X.env)]:=by rfl):
  PI X tg (.Call (.Name "range" p) [a,b] [] pos) (wm ta):=by
 intro pins s σ H R I h
 refine Call_ (eV I hg hm boot_range (PyProof.Rows.callWith_type1 (thn (ha pos pins s σ H _ I h) fun us s1 ⟨vs,H1,I1,r1,q1⟩=>?_) (by rw [hs,hs2]) (by rw [hs2];rfl)))
 obtain ⟨i,j,e,⟨q1,q2,q3,q4⟩,q⟩:=q1
 subst e
 cases r1 with
 | cons r rr=>
  cases rr with
  | cons r' rr=>
   cases rr
   obtain ⟨t,rfl⟩:=r
   obtain ⟨t',rfl⟩:=r'
   exact call_range_2 (lE I1 q1 q2 q3 q4 q)
noncomputable def wR (wi:TI) (g:TG) (tb:TS):TS:=fun D σ H=>wi σ H fun J H1=> ∃ W:Nat->Nat->St->Hp->Prop,(∃ m,W 0 m σ H1)/\ ∀ i m σ H,W i m σ H->
 (J.stop i H/\D.nx σ H)\/(J.go i H/\ ∃ N:St->Hp->Prop,(∀ σ' H',N σ' H'-> ∃ m',m'<m/\W (i+1) m' σ' H')/\ ∀ x H',J.yld i H x H'->g x σ H' fun σ2 H2=>tb {D with nx:=N,ct:=N,bk:=D.nx} σ2 H2)
noncomputable def kj (fp:List Addr) (h:Heap):List (Addr×Obj):=fp.filterMap fun b=>(h.get? b).map fun o=>(b,o)
theorem br {fp:List Addr} {h:Heap} {b:Addr} {o:Obj} (hb:b∈fp) (e:h.get? b=some o):(b,o)∈kj fp h:=List.mem_filterMap.mpr ⟨b,hb,by rw [e];rfl⟩
theorem qk {fp:List Addr} {h:Heap} {p:Addr×Obj} (hp:p∈kj fp h):p.1∈fp/\h.get? p.1=some p.2:=by
 obtain ⟨b,hb,e⟩:=List.mem_filterMap.mp hp
 cases q:h.get? b with
 | none=>rw [q]at e;cases e
 | some o=>
  rw [q]at e
  have e':(b,o)=p:=Option.some.inj e
  subst e'
  exact ⟨hb,q⟩
theorem Inv.pinned {pins:List (Addr×Obj)} {σ:St} {H:Hp} {s:Shared} {fp:List Addr} (I:Inv X pins σ H s) (hf: ∀ b∈fp,jn X pins H b) (ho: ∀ b∈fp,∃ o,s.heap.get? b=some o/\ ∀ v,o.data≠ .cell v):Inv X (pins++kj fp s.heap) σ H s:=
 I.pins_of fun p hp=>(List.mem_append.mp hp).elim (fun z=>I.pin p (List.mem_append_right _ z)) fun z=>by
  obtain ⟨hb,e⟩:=qk z
  obtain ⟨f0,f1,f2,_⟩:=hf p.1 hb
  obtain ⟨o,e',d⟩:=ho p.1 hb
  rw [e]at e';cases e'
  exact ⟨e,f0,f1,f2,d⟩
theorem Inv.unpinned {pins pl:List (Addr×Obj)} {σ:St} {H:Hp} {s:Shared} (I:Inv X (pins++pl) σ H s):Inv X pins σ H s:=I.pins_of fun p hp=>I.pin p (List.mem_append_right _ (List.mem_append_left _ hp))
theorem cf {iter:Expr} {body:List Stmt} {wi:TI} {g:TG} {tb:TS} {pos:Pos} (hp:PassesOwn (model X.prog X.w) X.A X.env X.xe) (hc:X.calm=true) (hi:PI X tg iter wi) (hg:PG X tg g) (hb:PSs X body tb)
  (hs: ∀ x,foldedSetIterable iter X.env x=pure x:=by intro _;rfl):PS X (.For tg iter body [] pos) (wR wi g tb):=by
 intro pins s σ H D I h
 refine wpAny_For (thn (hi pins s σ H _ I h) fun v s1 h1=>thn h1 fun itv s2 h2=>?_) hs
 obtain ⟨it,fp,tn,J,H2,e,I2,T,st2,f2,W,⟨m0,w0⟩,turn⟩:=h2
 subst e
 have stat: ∀ {H':Hp},(∀ b∈fp,H' b=none)-> ∀ b∈fp,jn X pins H' b:=fun hn b hb=>⟨hn b hb,(f2 b hb).2⟩
 refine codeAny_forLoop_any (fun n s'=> ∃ i σ' H',Inv X pins σ' H' s'/\tn i s'.heap/\(∀ b∈fp,H' b=none)/\W i n σ' H') ?_ m0 ⟨0,σ,H2,I2,st2,fun b hb=>(f2 b hb).1,w0⟩
 rintro n s3 ⟨i,σ3,H3,I3,st3,fr3,w3⟩
 rcases turn i n σ3 H3 w3 with ⟨stop,qn⟩ | ⟨go,N,hN,step⟩
 ·refine wpAny_passesOwn hp (thn (T.done X rfl rfl rfl hc i pins s3 σ3 H3 X.xe I3 (stat fr3) st3 stop) fun r s4 ⟨hr,I4⟩=>?_)
  subst hr
  exact wpAny_execs_nil ⟨σ3,H3,I4,qn⟩
 ·refine wpAny_passesOwn hp (thn (T.item X rfl rfl rfl hc i pins s3 σ3 H3 X.xe I3 (stat fr3) st3 go) fun r s4 ⟨u,hr,h4⟩=>?_)
  subst hr
  refine wpAny_passesOwn hp (thn h4 fun _ s5 ⟨x,H5,I5,r5,y5,st5,fr5⟩=>?_)
  have I5':=I5.pinned (stat fr5) (T.obj _ _ st5)
  refine wpAny_passesOwn hp (thn (hg _ s5 σ3 H5 x u _ I5' r5 (step x H5 y5)) fun _ s6 ⟨σ6,H6,I6,q6⟩=>?_)
  refine wpAny_passesOwn hp (thn (hb _ s6 σ6 H6 _ I6 q6) fun f s7 q7=>?_)
  have again: ∀ {σ7:St} {H7:Hp},Inv X (pins++kj fp s5.heap) σ7 H7 s7->N σ7 H7-> ∃ m,m<n/\ ∃ i σ' H',Inv X pins σ' H' s7/\tn i s7.heap/\(∀ b∈fp,H' b=none)/\W i m σ' H':=fun {σ7 H7} I7 n7=>by
   obtain ⟨m',hm,w7⟩:=hN σ7 H7 n7
   refine ⟨m',hm,i+1,σ7,H7,I7.unpinned,T.keep _ _ _ st5 fun b hb o e=>(I7.pin (b,o) (List.mem_append_right _ (List.mem_append_right _ (br hb e)))).1,fun b hb=>?_,w7⟩
   obtain ⟨o,e,d⟩:=T.obj _ _ st5 b hb
   exact (I7.pin (b,o) (List.mem_append_right _ (List.mem_append_right _ (br hb e)))).2.1
  cases f with
  | next=>obtain ⟨σ7,H7,I7,n7⟩:=q7;exact again I7 n7
  | cont=>obtain ⟨σ7,H7,I7,n7⟩:=q7;exact again I7 n7
  | brk=>obtain ⟨σ7,H7,I7,q7⟩:=q7;exact ⟨σ7,H7,I7.unpinned,q7⟩
  | ret v=>obtain ⟨x7,σ7,H7,I7,r7,q7⟩:=q7;exact ⟨x7,σ7,H7,I7.unpinned,r7,q7⟩
end
theorem mf {K:PySem.W.Frag} {a:Addr} {xs:List V} {g:TG} {tb:TS} {D:ev} {σ:St} {H:Hp} (Pv:Nat->St->Hp->Prop) (h0:Pv 0 σ H) (hl: ∀ i σ H,i<=xs.length->Pv i σ H->SqL K H a xs)
  (hs: ∀ i x σ H,xs[i]? =some x->Pv i σ H->g x σ H fun σ2 H2=>tb {D with nx:=Pv (i+1),ct:=Pv (i+1),bk:=D.nx} σ2 H2) (hd: ∀ σ H,Pv xs.length σ H->D.nx σ H):
  ∃ W:Nat->Nat->St->Hp->Prop,(∃ m,W 0 m σ H)/\ ∀ i m σ H,W i m σ H->
   ((Itl K a).stop i H/\D.nx σ H)\/((Itl K a).go i H/\ ∃ N:St->Hp->Prop,(∀ σ' H',N σ' H'-> ∃ m',m'<m/\W (i+1) m' σ' H')/\ ∀ x H',(Itl K a).yld i H x H'->g x σ H' fun σ2 H2=>tb {D with nx:=N,ct:=N,bk:=D.nx} σ2 H2):=by
 refine ⟨fun i m σ H=>m=xs.length-i/\i<=xs.length/\Pv i σ H,⟨xs.length,by simp,Nat.zero_le _,h0⟩,?_⟩
 rintro i m σ H ⟨rfl,hi,p⟩
 have q:=hl i σ H hi p
 by_cases hlt:i<xs.length
 ·refine .inr ⟨⟨xs,xs[i],q,by simp [hlt]⟩,Pv (i+1),fun σ' H' p'=>⟨xs.length- (i+1),by omega,rfl,hlt,p'⟩,fun x H' y=>?_⟩
  obtain ⟨e,y⟩:=y
  subst e
  exact hs i x σ _ (y xs q) p
 ·have e:i=xs.length:=by omega
  subst e
  exact .inl ⟨⟨xs,q,Nat.le_refl _⟩,hd σ H p⟩
theorem c8 {K:PySem.W.Frag} {a:Addr} {xs:List V} {g:TG} {tb:TS} {D:ev} {σ:St} {H:Hp} (Pv:Nat->St->Hp->Prop) (h0:Pv 0 σ H) (hl: ∀ i σ H,i<=xs.length->Pv i σ H->SqT K H a xs)
  (hs: ∀ i x σ H,xs[i]? =some x->Pv i σ H->g x σ H fun σ2 H2=>tb {D with nx:=Pv (i+1),ct:=Pv (i+1),bk:=D.nx} σ2 H2) (hd: ∀ σ H,Pv xs.length σ H->D.nx σ H):
  ∃ W:Nat->Nat->St->Hp->Prop,(∃ m,W 0 m σ H)/\ ∀ i m σ H,W i m σ H->
   ((Itt K a).stop i H/\D.nx σ H)\/((Itt K a).go i H/\ ∃ N:St->Hp->Prop,(∀ σ' H',N σ' H'-> ∃ m',m'<m/\W (i+1) m' σ' H')/\ ∀ x H',(Itt K a).yld i H x H'->g x σ H' fun σ2 H2=>tb {D with nx:=N,ct:=N,bk:=D.nx} σ2 H2):=by
 refine ⟨fun i m σ H=>m=xs.length-i/\i<=xs.length/\Pv i σ H,⟨xs.length,by simp,Nat.zero_le _,h0⟩,?_⟩
 rintro i m σ H ⟨rfl,hi,p⟩
 have q:=hl i σ H hi p
 by_cases hlt:i<xs.length
 ·refine .inr ⟨⟨xs,xs[i],q,by simp [hlt]⟩,Pv (i+1),fun σ' H' p'=>⟨xs.length- (i+1),by omega,rfl,hlt,p'⟩,fun x H' y=>?_⟩
  obtain ⟨e,y⟩:=y
  subst e
  exact hs i x σ _ (y xs q) p
 ·have e:i=xs.length:=by omega
  subst e
  exact .inl ⟨⟨xs,q,Nat.le_refl _⟩,hd σ H p⟩
theorem dU {lo:Int} {n:Nat} {g:TG} {tb:TS} {D:ev} {σ:St} {H:Hp} (Pv:Nat->St->Hp->Prop) (h0:Pv 0 σ H)
  (hs: ∀ i σ H,i<n->Pv i σ H->g (.int (lo+i)) σ H fun σ2 H2=>tb {D with nx:=Pv (i+1),ct:=Pv (i+1),bk:=D.nx} σ2 H2) (hd: ∀ σ H,Pv n σ H->D.nx σ H):
  ∃ W:Nat->Nat->St->Hp->Prop,(∃ m,W 0 m σ H)/\ ∀ i m σ H,W i m σ H->
   ((Itr lo n).stop i H/\D.nx σ H)\/((Itr lo n).go i H/\ ∃ N:St->Hp->Prop,(∀ σ' H',N σ' H'-> ∃ m',m'<m/\W (i+1) m' σ' H')/\ ∀ x H',(Itr lo n).yld i H x H'->g x σ H' fun σ2 H2=>tb {D with nx:=N,ct:=N,bk:=D.nx} σ2 H2):=by
 refine ⟨fun i m σ H=>m=n-i/\i<=n/\Pv i σ H,⟨n,by simp,Nat.zero_le _,h0⟩,?_⟩
 rintro i m σ H ⟨rfl,hi,p⟩
 by_cases hlt:i<n
 ·refine .inr ⟨hlt,Pv (i+1),fun σ' H' p'=>⟨n- (i+1),by omega,rfl,hlt,p'⟩,fun x H' y=>?_⟩
  obtain ⟨e,y⟩:=y
  subst e y
  exact hs i σ _ hlt p
 ·have e:i=n:=by omega
  subst e
  exact .inl ⟨Nat.le_refl _,hd σ H p⟩
theorem kJ {c:TT} {tb:TS} {D:ev} {σ:St} {H:Hp} (Pv:St->Hp->Prop) (μ:St->Hp->Nat) (h0:Pv σ H)
  (hs: ∀ σ H,Pv σ H->c σ H fun b H1=>if b=true then tb {D with nx:=fun σ' H'=>Pv σ' H'/\μ σ' H'<μ σ H,ct:=fun σ' H'=>Pv σ' H'/\μ σ' H'<μ σ H,bk:=D.nx} σ H1 else D.nx σ H1)
  (mono: ∀ σ H Q Q',(∀ b H1,Q b H1->Q' b H1)->c σ H Q->c σ H Q'):qJ c tb D σ H:=by
 refine ⟨fun m σ H=>m=μ σ H/\Pv σ H,⟨_,rfl,h0⟩,?_⟩
 rintro m σ H ⟨rfl,p⟩
 refine mono σ H _ _ (fun b H1 q=>?_) (hs σ H p)
 cases b with
 | true=>exact ⟨_,fun σ' H' ⟨p',l⟩=>⟨_,l,rfl,p'⟩,q⟩
 | false=>exact q
noncomputable abbrev R2:=V->V->Hp->VK->Prop
noncomputable def OpR (X:Cx) (f:Value->Value->Sem Value) (r:R2):Prop:=
 ∀ (pins:List (Addr×Obj)) (s:Shared) (σ:St) (H:Hp) (x y:V) (v u:Value) (Q:VK),Inv X pins σ H s->RelV x v->RelV y u->r x y H Q->
  wpAny (model X.prog X.w) X.A (f v u) (EP X pins σ Q) X.xe s
noncomputable def UnR (X:Cx) (f:Value->Sem Value) (r:V->Hp->VK->Prop):Prop:=
 ∀ (pins:List (Addr×Obj)) (s:Shared) (σ:St) (H:Hp) (x:V) (v:Value) (Q:VK),Inv X pins σ H s->RelV x v->r x H Q->
  wpAny (model X.prog X.w) X.A (f v) (EP X pins σ Q) X.xe s
noncomputable def cU (X:Cx) (f:Value) (r:List V->Hp->VK->Prop):Prop:=
 ∀ (pins:List (Addr×Obj)) (s:Shared) (σ:St) (H:Hp) (xs:List V) (us:List Value) (Q:VK),Inv X pins σ H s->Vals xs us->r xs H Q->
  wpAny (model X.prog X.w) X.A (call f us) (EP X pins σ Q) X.xe s
noncomputable def xw (X:Cx) (r:V->Hp->(Bool->Hp->Prop)->Prop):Prop:=
 ∀ (pins:List (Addr×Obj)) (s:Shared) (σ:St) (H:Hp) (x:V) (v:Value) (Q:Bool->Hp->Prop),Inv X pins σ H s->RelV x v->r x H Q->
  wpAny (model X.prog X.w) X.A (truthy v) (TP X pins σ Q) X.xe s
noncomputable def tOp (r:R2) (ta tb:TE):TE:=fun σ H Q=>ta σ H fun x H1=>tb σ H1 fun y H2=>r x y H2 Q
noncomputable def tUn (r:V->Hp->VK->Prop) (ta:TE):TE:=fun σ H Q=>ta σ H fun x H1=>r x H1 Q
noncomputable def rI (C:Int->Int->Prop) (g:Int->Int->V):R2:=fun x y H Q=> ∃ i j,x=.int i/\y=.int j/\C i j/\Q (g i j) H
noncomputable def rI0 (g:Int->Int->V):R2:=fun x y H Q=> ∃ i j,x=.int i/\y=.int j/\Q (g i j) H
noncomputable def rU (g:Int->V):V->Hp->VK->Prop:=fun x H Q=> ∃ i,x=.int i/\Q (g i) H
section
variable {X:Cx} {a b c:Expr} {ta tb tc:TE} {pos:Pos}
theorem vx (ha:PE X a ta) (hb:PE X b tb) {pins:List (Addr×Obj)} {s:Shared} {σ:St} {H:Hp} {R:V->V->Hp->Prop} (I:Inv X pins σ H s)
  (h:ta σ H fun x H1=>tb σ H1 fun y H2=>R x y H2) {Q:Value->Shared->Prop} {f:Value->Value->Sem Value}
  (hf: ∀ v u s2 x y H2,Inv X pins σ H2 s2->RelV x v->RelV y u->R x y H2->wpAny (model X.prog X.w) X.A (f v u) Q X.xe s2):
  wpAny (model X.prog X.w) X.A (eval a X.env) (fun v s₁=>wpAny (model X.prog X.w) X.A (eval b X.env) (fun u s₂=>wpAny (model X.prog X.w) X.A (f v u) Q X.xe s₂) X.xe s₁) X.xe s:=by
 refine thn (ha pins s σ H _ I h) fun v s1 ⟨x,H1,I1,r1,q1⟩=>?_
 refine thn (hb pins s1 σ H1 _ I1 q1) fun u s2 ⟨y,H2,I2,r2,q2⟩=>?_
 exact hf v u s2 x y H2 I2 r1 r2 q2
theorem aJ {op:Operator} {r:R2} (ho:OpR X (binaryOp op) r) (ha:PE X a ta) (hb:PE X b tb):PE X (.BinOp a op b pos) (tOp r ta tb):=by
 intro pins s σ H Q I h
 exact wpAny_BinOp (vx ha hb I h fun v u s2 x y H2 I2 rx ry q=>ho pins s2 σ H2 x y v u Q I2 rx ry q)
theorem iL {op:UnaryOp} {r:V->Hp->VK->Prop} (ho:UnR X (unaryOp op) r) (ha:PE X a ta):PE X (.UnaryOp op a pos) (tUn r ta):=by
 intro pins s σ H Q I h
 exact UnaryOp_ (thn (ha pins s σ H _ I h) fun v s1 ⟨x,H1,I1,r1,q1⟩=>ho pins s1 σ H1 x v Q I1 r1 q1)
theorem opI {f:Value->Value->Sem Value} {C:Int->Int->Prop} {g:Int->Int->Int}
  (rule: ∀ (i j:Int) (t u:Tok) (s:Shared) (Q:Value->Shared->Prop) (E:Value->Shared->Prop),C i j->Q (.int (g i j) s.toks) {s with toks:=s.toks+1}->wpAny (model X.prog X.w) X.A (f (.int i t) (.int j u)) Q E s):
  OpR X f (rI C fun i j=>.int (g i j)):=by
 intro pins s σ H x y v u Q I rx ry h
 obtain ⟨i,j,rfl,rfl,hc,q⟩:=h
 obtain ⟨t,rfl⟩:=rx
 obtain ⟨t',rfl⟩:=ry
 exact rule i j t t' s _ _ hc ⟨.int (g i j),H,I.tok _,⟨_,rfl⟩,q⟩
theorem wa {f:Value->Value->Sem Value} {g:Int->Int->Int}
  (rule: ∀ (i j:Int) (t u:Tok) (s:Shared) (Q:Value->Shared->Prop) (E:Value->Shared->Prop),Q (.int (g i j) s.toks) {s with toks:=s.toks+1}->wpAny (model X.prog X.w) X.A (f (.int i t) (.int j u)) Q E s):
  OpR X f (rI0 fun i j=>.int (g i j)):=by
 intro pins s σ H x y v u Q I rx ry h
 obtain ⟨i,j,rfl,rfl,q⟩:=h
 obtain ⟨t,rfl⟩:=rx
 obtain ⟨t',rfl⟩:=ry
 exact rule i j t t' s _ _ ⟨.int (g i j),H,I.tok _,⟨_,rfl⟩,q⟩
theorem tX {f:Value->Value->Sem Value} {g:Int->Int->Bool}
  (rule: ∀ (i j:Int) (t u:Tok) (s:Shared) (Q:Value->Shared->Prop) (E:Value->Shared->Prop),Q (.bool (g i j)) s->wpAny (model X.prog X.w) X.A (f (.int i t) (.int j u)) Q E s):
  OpR X f (rI0 fun i j=>.bl (g i j)):=by
 intro pins s σ H x y v u Q I rx ry h
 obtain ⟨i,j,rfl,rfl,q⟩:=h
 obtain ⟨t,rfl⟩:=rx
 obtain ⟨t',rfl⟩:=ry
 exact rule i j t t' s _ _ ⟨.bl (g i j),H,I,rfl,q⟩
noncomputable def xB (i j:Int):Prop:=0<j/\j<1073741824
noncomputable def xA (i j:Int):Prop:=0<=j/\j<=1000000/\i.natAbs<2^64
noncomputable def CMul (i j:Int):Prop:=(-(2^64) <i/\i<2^64)\/(-(2^64) <j/\j<2^64)
theorem CMul.ok {i j:Int} (h:CMul i j):IntMulOk i j:=by
 rcases h with ⟨h1,h2⟩ | ⟨h1,h2⟩
 ·exact .of_left (intBits_le_64 h1 h2)
 ·exact .of_right (intBits_le_64 h1 h2)
theorem bi:OpR X (binaryOp .Add) (rI0 fun i j=>.int (i+j)):=wa fun _ _ _ _ _ _ _ q=>add_int q
theorem eS:OpR X (binaryOp .Sub) (rI0 fun i j=>.int (i-j)):=wa fun _ _ _ _ _ _ _ q=>sub_int q
theorem dn:OpR X (binaryOp .Mult) (rI CMul fun i j=>.int (i*j)):=opI fun _ _ _ _ _ _ _ hc q=>mul_int q hc.ok
theorem oG:OpR X (binaryOp .FloorDiv) (rI xB fun i j=>.int (i/j)):=opI fun i j _ _ _ _ _ hc q=>by
 have h1:(0:Int) <j:=hc.1
 have h2:j<1073741824:=hc.2
 exact floordiv_int (by omega) (by rw [Int.fdiv_eq_ediv_of_nonneg i (by omega)];exact q) (.inl (PyProof.noPylong_small (by omega)))
theorem cV:OpR X (binaryOp .Mod) (rI (fun _ j=>0<j) fun i j=>.int (i%j)):=opI fun i j _ _ _ _ _ hc q=>by
 have h1:(0:Int) <j:=hc
 exact mod_int' (by omega) (by rw [Int.fmod_eq_emod_of_nonneg i (by omega)];exact q)
theorem u8:OpR X (binaryOp .Pow) (rI xA fun i j=>.int (i^j.toNat)):=opI fun _ _ _ _ _ _ _ hc q=>pow_int_small hc.1 hc.2.1 hc.2.2 q
theorem unI {f:Value->Sem Value} {g:Int->Int}
  (rule: ∀ (i:Int) (t:Tok) (s:Shared) (Q:Value->Shared->Prop) (E:Value->Shared->Prop),Q (.int (g i) s.toks) {s with toks:=s.toks+1}->wpAny (model X.prog X.w) X.A (f (.int i t)) Q E s):
  UnR X f (rU fun i=>.int (g i)):=by
 intro pins s σ H x v Q I rx h
 obtain ⟨i,rfl,q⟩:=h
 obtain ⟨t,rfl⟩:=rx
 exact rule i t s _ _ ⟨.int (g i),H,I.tok _,⟨_,rfl⟩,q⟩
theorem fA:UnR X (unaryOp .USub) (rU fun i=>.int (-i)):=unI fun _ _ _ _ _ q=>neg_int q
end
noncomputable def vQ:V->V->Bool
 | .non,.non=>true | .non,.int _=>true | .int _,.non=>true | .non,.bl _=>true | .bl _,.non=>true | .non,.str _=>true | .str _,.non=>true
 | .int _,.int _=>true | .bl _,.bl _=>true | .str _,.str _=>true | .byt _,.byt _=>true
 | .int _,.str _=>true | .str _,.int _=>true | .bl _,.str _=>true | .str _,.bl _=>true
 | _,_=>false
noncomputable def rEq:R2:=fun x y H Q=>vQ x y=true/\Q (.bl (decide (x=y))) H
noncomputable def rNe:R2:=fun x y H Q=>vQ x y=true/\Q (.bl (!decide (x=y))) H
theorem pc {i j:Int}:decide (V.int i=V.int j)=(i==j):=by
 rw [Bool.eq_iff_iff]
 simp
theorem sW {i j:Bool}:decide (V.bl i=V.bl j)=(i==j):=by
 rw [Bool.eq_iff_iff]
 simp
theorem oZ {i j:Str}:decide (V.str i=V.str j)=(i==j):=by
 rw [Bool.eq_iff_iff]
 simp
theorem pe {i j:Array UInt8}:decide (V.byt i=V.byt j)=(i.toList==j.toList):=by
 rw [Bool.eq_iff_iff]
 cases i
 cases j
 simp
section
variable {X:Cx} {a b c:Expr} {ta tb tc:TE} {pos:Pos}
theorem aW {pins:List (Addr×Obj)} {σ:St} {H:Hp} {s:Shared} {Q:VK} {k k':Bool} (I:Inv X pins σ H s) (q:Q (.bl k) H) (e:k=k'):EP X pins σ Q (.bool k') s:=by
 subst e
 exact ⟨.bl k,H,I,rfl,q⟩
theorem aZ:OpR X (compareOp .Eq) rEq:=by
 intro pins s σ H x y v u Q I rx ry h
 obtain ⟨hs,q⟩:=h
 cases x with
 | non=>
  cases rx
  cases y with
  | non=>cases ry;exact PySem.EqNone.eq_none_none (aW I q (by simp))
  | bl j=>cases ry;exact PySem.EqNone.eq_none_bool (aW I q (by simp))
  | int j=>obtain ⟨t',rfl⟩:=ry;exact PySem.EqNone.eq_none_int (aW I q (by simp))
  | str j=>obtain ⟨t',rfl⟩:=ry;exact PySem.EqNone.eq_none_str (aW I q (by simp))
  | _=>exact absurd (show false=true from hs) Bool.false_ne_true
 | bl i=>
  cases rx
  cases y with
  | non=>cases ry;exact PySem.EqNone.eq_bool_none (aW I q (by simp))
  | bl j=>cases ry;exact eq_bool (aW I q sW)
  | str j=>obtain ⟨t',rfl⟩:=ry;exact PySem.EqMixed.eq_bool_str (aW I q (by simp))
  | _=>exact absurd (show false=true from hs) Bool.false_ne_true
 | int i=>
  obtain ⟨t,rfl⟩:=rx
  cases y with
  | non=>cases ry;exact PySem.EqNone.eq_int_none (aW I q (by simp))
  | int j=>obtain ⟨t',rfl⟩:=ry;exact eq_int (aW I q pc)
  | str j=>obtain ⟨t',rfl⟩:=ry;exact PySem.EqMixed.eq_int_str (aW I q (by simp))
  | _=>exact absurd (show false=true from hs) Bool.false_ne_true
 | str i=>
  obtain ⟨t,rfl⟩:=rx
  cases y with
  | non=>cases ry;exact PySem.EqNone.eq_str_none (aW I q (by simp))
  | bl j=>cases ry;exact PySem.EqMixed.eq_str_bool (aW I q (by simp))
  | int j=>obtain ⟨t',rfl⟩:=ry;exact PySem.EqMixed.eq_str_int (aW I q (by simp))
  | str j=>obtain ⟨t',rfl⟩:=ry;exact eq_str (aW I q oZ)
  | _=>exact absurd (show false=true from hs) Bool.false_ne_true
 | byt i=>
  obtain ⟨t,rfl⟩:=rx
  cases y with
  | byt j=>obtain ⟨t',rfl⟩:=ry;exact PySem.W.eq_bytes (aW I q pe)
  | _=>exact absurd (show false=true from hs) Bool.false_ne_true
 | _=>cases y <;> exact absurd (show false=true from hs) Bool.false_ne_true
theorem iS:OpR X (compareOp .NotEq) rNe:=by
 intro pins s σ H x y v u Q I rx ry h
 obtain ⟨hs,q⟩:=h
 cases x with
 | non=>
  cases rx
  cases y with
  | non=>cases ry;exact PySem.EqNone.ne_none_none (aW I q (by simp))
  | bl j=>cases ry;exact PySem.EqNone.ne_none_bool (aW I q (by simp))
  | int j=>obtain ⟨t',rfl⟩:=ry;exact PySem.EqNone.ne_none_int (aW I q (by simp))
  | str j=>obtain ⟨t',rfl⟩:=ry;exact PySem.EqNone.ne_none_str (aW I q (by simp))
  | _=>exact absurd (show false=true from hs) Bool.false_ne_true
 | bl i=>
  cases rx
  cases y with
  | non=>cases ry;exact PySem.EqNone.ne_bool_none (aW I q (by simp))
  | bl j=>cases ry;exact ne_bool (aW I q (congrArg not sW))
  | str j=>obtain ⟨t',rfl⟩:=ry;exact PySem.EqMixed.ne_bool_str (aW I q (by simp))
  | _=>exact absurd (show false=true from hs) Bool.false_ne_true
 | int i=>
  obtain ⟨t,rfl⟩:=rx
  cases y with
  | non=>cases ry;exact PySem.EqNone.ne_int_none (aW I q (by simp))
  | int j=>obtain ⟨t',rfl⟩:=ry;exact ne_int (aW I q (congrArg not pc))
  | str j=>obtain ⟨t',rfl⟩:=ry;exact PySem.EqMixed.ne_int_str (aW I q (by simp))
  | _=>exact absurd (show false=true from hs) Bool.false_ne_true
 | str i=>
  obtain ⟨t,rfl⟩:=rx
  cases y with
  | non=>cases ry;exact PySem.EqNone.ne_str_none (aW I q (by simp))
  | bl j=>cases ry;exact PySem.EqMixed.ne_str_bool (aW I q (by simp))
  | int j=>obtain ⟨t',rfl⟩:=ry;exact PySem.EqMixed.ne_str_int (aW I q (by simp))
  | str j=>obtain ⟨t',rfl⟩:=ry;exact ne_str (aW I q (congrArg not oZ))
  | _=>exact absurd (show false=true from hs) Bool.false_ne_true
 | byt i=>
  obtain ⟨t,rfl⟩:=rx
  cases y with
  | byt j=>obtain ⟨t',rfl⟩:=ry;exact PySem.W.ne_bytes (aW I q (congrArg not pe))
  | _=>exact absurd (show false=true from hs) Bool.false_ne_true
 | _=>cases y <;> exact absurd (show false=true from hs) Bool.false_ne_true
theorem hV:OpR X (compareOp .Lt) (rI0 fun i j=>.bl (decide (i<j))):=tX fun _ _ _ _ _ _ _ q=>lt_int q
theorem ft:OpR X (compareOp .LtE) (rI0 fun i j=>.bl (decide (i<=j))):=tX fun _ _ _ _ _ _ _ q=>le_int q
theorem rK:OpR X (compareOp .Gt) (rI0 fun i j=>.bl (decide (j<i))):=tX fun _ _ _ _ _ _ _ q=>gt_int q
theorem v8:OpR X (compareOp .GtE) (rI0 fun i j=>.bl (decide (j<=i))):=tX fun _ _ _ _ _ _ _ q=>ge_int q
theorem pT:OpR X (compareOp .In) (fun x y H Q=> ∃ i j,x=.str i/\y=.str j/\Q (.bl (!(Builtin.Str.occurrences j i 0 j.length 1).isEmpty)) H):=by
 intro pins s σ H x y v u Q I rx ry h
 obtain ⟨i,j,rfl,rfl,q⟩:=h
 obtain ⟨t,rfl⟩:=rx
 obtain ⟨t',rfl⟩:=ry
 exact in_str (aW I q rfl)
theorem nF:OpR X (compareOp .Is) (fun x y H Q=>y=.non/\Q (.bl (decide (x=.non))) H):=by
 intro pins s σ H x y v u Q I rx ry h
 obtain ⟨rfl,q⟩:=h
 cases ry
 refine is_none_gen (aW I q ?_)
 cases x <;> first
  | (cases rx;rfl)
  | (obtain ⟨t,rfl⟩:=rx;rfl)
theorem aE (b:Expr) {op:CmpOp} (h:op≠ .In:=by decide) (h2:op≠ .NotIn:=by decide):behindInMarks op b=false:=by
 have e1:(op==CmpOp.In)=false:=by cases op <;> first | rfl | exact absurd rfl h
 have e2:(op==CmpOp.NotIn)=false:=by cases op <;> first | rfl | exact absurd rfl h2
 cases b <;> simp [behindInMarks,e1,e2]
theorem bm {op:CmpOp} {r:R2} (ho:OpR X (compareOp op) r) (ha:PE X a ta) (hb:PE X b tb) (hm:behindInMarks op b=false):PE X (.Compare a [op] [b] pos) (tOp r ta tb):=by
 intro pins s σ H Q I h
 exact wpAny_Compare1 (vx ha hb I h fun v u s2 x y H2 I2 rx ry q=>ho pins s2 σ H2 x y v u Q I2 rx ry q) hm
noncomputable def uE (t:TE):TT:=fun σ H Q=>t σ H fun x H'=> ∃ k,x=.bl k/\Q k H'
theorem az {op:CmpOp} {r:R2} (ho:OpR X (compareOp op) r) (ha:PE X a ta) (hb:PE X b tb) (hm:behindInMarks op b=false):PT X (.Compare a [op] [b] pos) (uE (tOp r ta tb)):=by
 intro pins s σ H Q I h
 refine wpAny_isTrue_Compare1 (thn (ha pins s σ H _ I h) fun v s1 ⟨x,H1,I1,r1,q1⟩=>thn (hb pins s1 σ H1 _ I1 q1) fun u s2 ⟨y,H2,I2,r2,q2⟩=>
  thn (ho pins s2 σ H2 x y v u _ I2 r1 r2 q2) fun c s3 ⟨z,H3,I3,r3,k,e,q3⟩=>?_) hm
 subst e
 cases r3
 exact wpAny_truthy_bool ⟨H3,I3,q3⟩
noncomputable def qN (r r':R2) (ta tb tc:TE):TE:=fun σ H Q=>ta σ H fun x H1=>tb σ H1 fun y H2=>r x y H2 fun z H3=> ∃ k,z=.bl k/\
 (if k=true then tc σ H3 fun w' H4=>r' y w' H4 Q else Q (.bl false) H3)
theorem iO {op op':CmpOp} {r r':R2} (ho:OpR X (compareOp op) r) (ho':OpR X (compareOp op') r') (ha:PE X a ta) (hb:PE X b tb) (hc:PE X c tc)
  (hm:lastMarks [op,op'] [b,c]=false:=by with_unfolding_all rfl):PE X (.Compare a [op,op'] [b,c] pos) (qN r r' ta tb tc):=by
 intro pins s σ H Q I h
 refine Compare_chain (thn (ha pins s σ H _ I h) fun v s1 ⟨x,H1,I1,r1,q1⟩=>chain_link (thn (hb pins s1 σ H1 _ I1 q1) fun u s2 ⟨y,H2,I2,r2,q2⟩=>
  thn (ho pins s2 σ H2 x y v u _ I2 r1 r2 q2) fun d s3 ⟨z,H3,I3,r3,k,e,q3⟩=>?_)) hm
 subst e
 cases r3
 refine wpAny_truthy_bool ?_
 cases k with
 | false=>exact ite_ff ⟨.bl false,H3,I3,rfl,q3⟩
 | true=>exact ite_tt (chain_last (thn (hc pins s3 σ H3 _ I3 q3) fun w' s4 ⟨z',H4,I4,r4,q4⟩=>ho' pins s4 σ H4 y z' u w' Q I4 r2 r4 q4))
theorem iK {op op':CmpOp} {r r':R2} (ho:OpR X (compareOp op) r) (ho':OpR X (compareOp op') r') (ha:PE X a ta) (hb:PE X b tb) (hc:PE X c tc)
  (hm:lastMarks [op,op'] [b,c]=false:=by with_unfolding_all rfl):PT X (.Compare a [op,op'] [b,c] pos) (uE (qN r r' ta tb tc)):=by
 intro pins s σ H Q I h
 refine isTrue_chain (thn (ha pins s σ H _ I h) fun v s1 ⟨x,H1,I1,r1,q1⟩=>test_link (thn (hb pins s1 σ H1 _ I1 q1) fun u s2 ⟨y,H2,I2,r2,q2⟩=>
  thn (ho pins s2 σ H2 x y v u _ I2 r1 r2 q2) fun d s3 ⟨z,H3,I3,r3,k,e,q3⟩=>?_)) hm
 subst e
 cases r3
 refine wpAny_truthy_bool ?_
 cases k with
 | false=>
  obtain ⟨k',e',q'⟩:=q3
  cases e'
  exact ite_ff ⟨H3,I3,q'⟩
 | true=>
  refine ite_tt (test_last (thn (hc pins s3 σ H3 _ I3 q3) fun w' s4 ⟨z',H4,I4,r4,q4⟩=>thn (ho' pins s4 σ H4 y z' u w' _ I4 r2 r4 q4) fun d' s5 ⟨z2,H5,I5,r5,k2,e2,q5⟩=>?_))
  subst e2
  cases r5
  exact wpAny_truthy_bool ⟨H5,I5,q5⟩
noncomputable def wH (K:PySem.W.Frag) (x:V) (H:Hp) (k:Bool):Prop:=
 match x with
 | .non=>k=false
 | .bl b=>k=b
 | .int i=>k=(i !=0)
 | .str y=>y.length<=sizeLine/\k=((y.length:Int)!=0)
 | .byt y=>y.size<=sizeLine/\k=((y.size:Int)!=0)
 | .ref p=>(∃ xs,SqL K H p xs/\k= !xs.isEmpty)\/(∃ xs,SqT K H p xs/\k= !xs.isEmpty)\/ ∃ kvs,H p=some (.dK kvs)/\k= !kvs.isEmpty
 | _=>False
theorem nZ {κ:Type} {kvs:List (κ×V)} {vs:List (κ×Value)} (r:KV kvs vs):(!vs.isEmpty)= !kvs.isEmpty:=by
 cases r <;> rfl
theorem iZ {xs:List V} {its:List Value} (r:Vals xs its):(!its.toArray.isEmpty)= !xs.isEmpty:=by
 cases r <;> simp
theorem fH:(sizeLine:Nat) <2^63:=by rw [sizeLine_eq];decide
theorem uO:xw X (fun x H Q=> ∃ k,wH X.K x H k/\Q k H):=by
 intro pins s σ H x v Q I rx h
 obtain ⟨k,e,q⟩:=h
 have hl:=fH
 have hs:sizeLine=16777216:=sizeLine_eq
 cases x with
 | non=>
  cases rx
  have e':k=false:=e
  subst e'
  exact truthy_none ⟨H,I,q⟩
 | bl b=>
  cases rx
  have e':k=b:=e
  subst e'
  exact wpAny_truthy_bool ⟨H,I,q⟩
 | int i=>
  obtain ⟨t,rfl⟩:=rx
  have e':k=(i !=0):=e
  subst e'
  exact PySem.P.truthy_int ⟨H,I,q⟩
 | str y=>
  obtain ⟨t,rfl⟩:=rx
  obtain ⟨hy,e'⟩:y.length<=sizeLine/\k=((y.length:Int)!=0):=e
  subst e'
  exact PySem.P.truthy_str (by omega) ⟨H,I.tok _,q⟩
 | byt y=>
  obtain ⟨t,rfl⟩:=rx
  obtain ⟨hy,e'⟩:y.size<=sizeLine/\k=((y.size:Int)!=0):=e
  subst e'
  exact PySem.W.truthy_bytes (by omega) ⟨H,I.tok _,q⟩
 | ref p=>
  cases rx
  have e':(∃ xs,SqL X.K H p xs/\k= !xs.isEmpty)\/(∃ xs,SqT X.K H p xs/\k= !xs.isEmpty)\/ ∃ kvs,H p=some (.dK kvs)/\k= !kvs.isEmpty:=e
  rcases e' with ⟨xs,hx,e'⟩ | ⟨xs,hx,e'⟩ | ⟨kvs,hx,e'⟩
  ·subst e'
   obtain ⟨its,r,pl,hz⟩:=I.list hx
   have hlen:=r.length
   exact wpAny_truthy_list pl.isList (by simp only [List.size_toArray];omega) ⟨H,I.tok _,by rw [iZ r];exact q⟩
  ·subst e'
   obtain ⟨its,r,pl,hz⟩:=I.tuple hx
   have hlen:=r.length
   exact truthy_tuple pl (by simp only [List.size_toArray];omega) ⟨H,I.tok _,by rw [iZ r];exact q⟩
  ·subst e'
   obtain ⟨hz,hS,vs,r,m⟩:kvs.length<=sizeLine/\(p==sysModules)=false/\ ∃ vs,KV kvs vs/\s.heap.DictOf (aX X.prog X.w) p vs:=I.hok p _ hx
   have hlen:kvs.length=vs.length:=Paired.length r
   exact wpAny_truthy_dict hS m (by omega) ⟨H,I.tok _,by rw [nZ r];exact q⟩
 | _=>exact (show False from e).elim
theorem lH (ha:PE X a ta) (he: ∀ whole,isTrue a X.env whole=(do let v <- whole;standAt a.pos;holding [v] (truthy v))):
  PT X a (fun σ H Q=>ta σ H fun x H'=> ∃ k,wH X.K x H' k/\Q k H'):=by
 intro pins s σ H Q I h
 exact isTrue_plain (thn (ha pins s σ H _ I h) fun v s1 ⟨x,H1,I1,r1,q1⟩=>uO pins s1 σ H1 x v Q I1 r1 q1) (he _)
theorem fF:OpR X (binaryOp .Add) (fun x y H Q=> ∃ i j,x=.str i/\y=.str j/\i.length+j.length<=sizeLine/\Q (.str (i++j)) H):=by
 intro pins s σ H x y v u Q I rx ry h
 obtain ⟨i,j,rfl,rfl,hz,q⟩:=h
 obtain ⟨t,rfl⟩:=rx
 obtain ⟨t',rfl⟩:=ry
 exact add_str (fun t' tk=>⟨.str (i++j),H,I.tok _,⟨_,rfl⟩,q⟩) hz
theorem fj {x:V} {us:List Value} (r:Vals [x] us): ∃ u,us=[u]/\RelV x u:=by
 cases r with
 | cons r1 r2=>cases r2;exact ⟨_,rfl,r1⟩
theorem il {x y:V} {us:List Value} (r:Vals [x,y] us): ∃ u w',us=[u,w']/\RelV x u/\RelV y w':=by
 cases r with
 | cons r1 r2=>
  cases r2 with
  | cons r3 r4=>cases r4;exact ⟨_,_,rfl,r1,r3⟩
theorem tm:cU X (.builtin "abs") (fun xs H Q=> ∃ i,xs=[.int i]/\Q (.int (if i<0 then -i else i)) H):=by
 intro pins s σ H xs us Q I r h
 obtain ⟨i,rfl,q⟩:=h
 obtain ⟨u,rfl,t,rfl⟩:=fj r
 exact call_abs_int fun u tk=>⟨.int (if i<0 then -i else i),H,I.tok _,⟨_,rfl⟩,q⟩
theorem qB (hc:X.calm=true):cU X (.builtin "max") (fun xs H Q=> ∃ i j,xs=[.int i,.int j]/\Q (.int (if j>i then j else i)) H):=by
 intro pins s σ H xs us Q I r h
 obtain ⟨i,j,rfl,q⟩:=h
 obtain ⟨u,w',rfl,⟨t,rfl⟩,⟨t',rfl⟩⟩:=il r
 refine max_two_ints (I.ok.hd hc) fun h' tk k=>⟨_,H,I.kept k,?_,q⟩
 by_cases hj:j>i
 ·rw [if_pos hj,if_pos hj];exact ⟨_,rfl⟩
 ·rw [if_neg hj,if_neg hj];exact ⟨_,rfl⟩
theorem jD (hc:X.calm=true):cU X (.builtin "min") (fun xs H Q=> ∃ i j,xs=[.int i,.int j]/\Q (.int (if j<i then j else i)) H):=by
 intro pins s σ H xs us Q I r h
 obtain ⟨i,j,rfl,q⟩:=h
 obtain ⟨u,w',rfl,⟨t,rfl⟩,⟨t',rfl⟩⟩:=il r
 refine min_two_ints (I.ok.hd hc) fun h' tk k=>⟨_,H,I.kept k,?_,q⟩
 by_cases hj:j<i
 ·rw [if_pos hj,if_pos hj];exact ⟨_,rfl⟩
 ·rw [if_neg hj,if_neg hj];exact ⟨_,rfl⟩
end
structure ObjM (h:Heap) (x dx C:Addr) (mA:Str->Option Value):Prop where
 obj:h.get? x=some (PySem.W.instObj C dx)
 ns:h.Ns1 dx mA
 ne:dx≠x
theorem qm {h:Heap} {dx:Addr} {mA:Str->Option Value} (n:h.Ns1 dx mA): ∃ od,h.get? dx=some od/\ ∀ name,PySem.W.lookIn name od=some (mA name):=by
 obtain ⟨o,es,ep,ho,hd,hk,_,hm⟩:=n
 refine ⟨o,ho,fun name=>?_⟩
 have e:=hm name
 unfold nsFind findBy at e
 rw [<- Array.find?_toList]at e
 unfold PySem.W.lookIn
 rw [hd]
 dsimp only
 split
 ·rename_i y q
  rw [q]at e
  exact congrArg some e
 ·rename_i q
  rw [q]at e
  have a:es.toList.any (·.refKey)=false:=by
   rw [List.any_eq_false]
   intro y hy
   obtain ⟨z,t,hkey⟩:=hk y (Array.mem_toList_iff.mp hy)
   simp [DictEntry.refKey,hkey]
  have a': ¬ es.toList.any (·.refKey)=true:=by rw [a];exact Bool.false_ne_true
  rw [if_neg a']
  exact congrArg some e
theorem ObjM.look {h:Heap} {x dx C:Addr} {mA:Str->Option Value} (I:ObjM h x dx C mA): ∃ od,PySem.W.InstAt h x (PySem.W.instObj C dx) C (some od)/\ ∀ name,PySem.W.lookIn name od=some (mA name):=
 let ⟨od,ho,hl⟩:=qm I.ns
 ⟨od,⟨I.obj,rfl,rfl,ho⟩,hl⟩
theorem RelO.some_of {v:V} {o:Option Value} (r:RelO (some v) o): ∃ u,o=some u/\RelV v u:=by
 cases o with
 | none=>exact (show False from r).elim
 | some u=>exact ⟨u,rfl,r⟩
section
variable {P:Program} {w:World} {H H':Hp} {h h':Heap} {a C dx:Addr} {fs fs':List (Str×V)}
theorem uv (hok:HOk P w H h) (e:H a=some (.ins C dx fs)): ∃ mA,ObjM h a dx C mA/\(∀ f,RelO (fs.lookup f) (mA f))/\PySem.Within mA (fs.map (·.1))/\fs.length<=1000/\H dx=some (.own a):=by
 obtain ⟨d,z,ne,ob,mA,n,r,q⟩:=(show ObjOk P w H h a (.ins C dx fs)from hok a _ e)
 exact ⟨mA,⟨ob,n,ne⟩,r,q,z,d⟩
end
structure Cls (K:PySem.W.Frag) (C:Addr):Prop where
 pg:PySem.W.plainGet K C Str.empty=true
 hd:PySem.W.hasDictIn K C=true
 po:PySem.W.plainOver K C=true
 sa:PySem.W.findIn K (.ref C) "__setattr__"=some (some (.builtin "object.__setattr__"))
theorem Cls.get {K:PySem.W.Frag} {C:Addr} (c:Cls K C) (f:Str):PySem.W.plainGet K C f=true:=c.pg
section
variable {X:Cx} {pins:List (Addr×Obj)} {σ:St} {H:Hp} {s:Shared} {A:Around} {E:Value->Shared->Prop} {Q:Value->Shared->Prop} {c:Value} {b:Bool}
inductive gm (K:PySem.W.Frag) (H:Hp):V->Value->Prop where
 | non:gm K H .non (.type "NoneType")
 | bl (x:Bool):gm K H (.bl x) (.type "bool")
 | int (i:Int):gm K H (.int i) (.type "int")
 | str (x:Str):gm K H (.str x) (.type "str")
 | flt (x:UInt64):gm K H (.flt x) (.type "float")
 | lst {a:Addr} {xs:List V} (e:H a=some (.lst xs)):gm K H (.ref a) (.type "list")
 | frz {a:Addr} {o:Obj} {xs:List V} (e:H a=some (.frz o (.lst xs))):gm K H (.ref a) (.type "list")
 | tup {a:Addr} {xs:List V} (e:H a=some (.tup xs)):gm K H (.ref a) (.type "tuple")
 | dK {a:Addr} {kvs:List (Key×V)} (e:H a=some (.dK kvs)):gm K H (.ref a) (.type "dict")
 | dT {a:Addr} {kvs:List (List Key×V)} (e:H a=some (.dT kvs)):gm K H (.ref a) (.type "dict")
 | ins {a C dx:Addr} {fs:List (Str×V)} (e:H a=some (.ins C dx fs)) (cl:Cls K C) (ha:PySem.W.findIn K (.ref C) "__class__"=some (some (.builtin "object.__class__")))
   (hn:PySem.W.specialIn K (.builtin "object.__class__") "__get__"=some (some (.builtin "getset_descriptor.__get__"))) (htk:PySem.W.takesIn K (.builtin "object.__class__")=some true)
   (hm:PySem.W.mroIn K C (.type "object")=some true):gm K H (.ref a) (.ref C)
theorem qr {x:V} {u t:Value} (I:Inv X pins σ H s) (rx:RelV x u) (ty:gm X.K H x t) (e:PySem.W.kitOne X.K t c=some b) (h: ∀ tk,Q (.bool b) {s with toks:=tk}):
  wpAny (model X.prog X.w) A (call (.builtin "isinstance") [u,c]) Q E s:=by
 cases ty with
 | non=>cases (show u=Value.none from rx);exact PySem.W.kia_one PySem.W.kitx_none I.kIn True.intro e (fun z=>nomatch z) h
 | bl y=>cases (show u=Value.bool y from rx);exact PySem.W.kia_one PySem.W.kitx_bool I.kIn True.intro e (fun z=>nomatch z) h
 | int i=>obtain ⟨t,q⟩:=(show ∃ t,u=Value.int i t from rx);cases q;exact PySem.W.kia_one PySem.W.kitx_int I.kIn True.intro e (fun z=>nomatch z) h
 | str y=>obtain ⟨t,q⟩:=(show ∃ t,u=Value.str y t from rx);cases q;exact PySem.W.kia_one PySem.W.kitx_str I.kIn True.intro e (fun z=>nomatch z) h
 | flt y=>obtain ⟨t,q⟩:=(show ∃ t,u=Value.float y t from rx);cases q;exact PySem.W.kia_one PySem.W.kitx_float I.kIn True.intro e (fun z=>nomatch z) h
 | @lst a xs ea=>
  cases (show u=Value.ref a from rx)
  obtain ⟨_,_,n,_,h1⟩:=(show ObjOk X.prog X.w H s.heap a (.lst xs)from I.hok a _ ea)
  exact PySem.W.kia_one PySem.W.kitx_list I.kIn ⟨_,h1,rfl⟩ e (fun z=>nomatch z) h
 | @frz a ob xs ea=>
  cases (show u=Value.ref a from rx)
  obtain ⟨_,_,_,n,_,h1⟩:=(show ObjOk X.prog X.w H s.heap a (.frz ob (.lst xs))from I.hok a _ ea)
  exact PySem.W.kia_one PySem.W.kitx_list I.kIn ⟨_,h1,rfl⟩ e (fun z=>nomatch z) h
 | @tup a xs ea=>
  cases (show u=Value.ref a from rx)
  obtain ⟨_,_,_,p⟩:=(show ObjOk X.prog X.w H s.heap a (.tup xs)from I.hok a _ ea)
  obtain ⟨o,h1,h2,_⟩:=p
  exact PySem.W.kia_one PySem.W.kitx_tuple I.kIn ⟨o,h1,h2⟩ e (fun z=>nomatch z) h
 | @dK a kvs ea=>
  cases (show u=Value.ref a from rx)
  obtain ⟨_,_,vs,_,p⟩:=(show ObjOk X.prog X.w H s.heap a (.dK kvs)from I.hok a _ ea)
  obtain ⟨o,es,ep,h1,h2,_⟩:=p
  exact PySem.W.kia_one PySem.W.kitx_dict I.kIn ⟨o,h1,h2.1⟩ e (fun z=>nomatch z) h
 | @dT a kvs ea=>
  cases (show u=Value.ref a from rx)
  obtain ⟨_,_,xs,_,o,es,ep,h1,h2,_⟩:=(show ObjOk X.prog X.w H s.heap a (.dT kvs)from I.hok a _ ea)
  exact PySem.W.kia_one PySem.W.kitx_dict I.kIn ⟨o,h1,h2.1⟩ e (fun z=>nomatch z) h
 | @ins a C dx fs ea cl ha hn htk hm=>
  cases (show u=Value.ref a from rx)
  obtain ⟨mA,O,_⟩:=uv I.hok ea
  obtain ⟨od,J,_⟩:=O.look
  exact PySem.W.kia_one (PySem.W.kitx_own (cl.get _) cl.hd ha hn htk hm) I.kIn J e (fun z=>nomatch z) h
end
structure Room (k:Nat) (A:Around):Prop where
 hd:A.handled=none
 dp:A.depth+3*k+5<recursionLimit
 un:A.units+16*k+200<cLine
theorem Room.mono {j k:Nat} {A:Around} (r:Room k A) (h:j<=k):Room j A:=⟨r.hd,by have:=r.dp;omega,by have:=r.un;omega⟩
theorem Room.deeper {k:Nat} {A:Around} (r:Room (k+1) A) (env:Env):Room k (A.deeper env):=
 ⟨r.hd,by have:=r.dp;show A.depth+1+3*k+5<_;omega,by have:=r.un;show A.units+3+16*k+200<_;omega⟩
theorem Room.depth {k:Nat} {A:Around} (r:Room k A):A.depth<recursionLimit:=by have:=r.dp;omega
theorem Room.units {k:Nat} {A:Around} (r:Room k A):A.units+64<cLine:=by have:=r.un;omega
theorem Room.units0 {k:Nat} {A:Around} (r:Room k A):A.units<cLine:=by have:=r.un;omega
noncomputable def wP:TA:=fun _ H Q=>Q [] H
noncomputable def uF (ta:TE) (tr:TA):TA:=fun σ H Q=>ta σ H fun x H1=>tr σ H1 fun xs H2=>Q (x::xs) H2
section
variable {X:Cx} {e:Expr} {es:List Expr} {te:TE} {t:TA} {pos:Pos}
theorem ab:PA X [] wP:=fun _ _ _ _ H Q I h=>Calls.spliced_nil ⟨[],H,I,.nil,h⟩
theorem aa (ha:PE X e te) (hr:PA X es t) (hs:starEach (e::es) X.env=(false,eval e X.env)::starEach es X.env:=by rfl):PA X (e::es) (uF te t):=by
 intro pos pins s σ H Q I h
 rw [hs]
 show wpAny _ _ (spliced ((false,eval e X.env)::backTo pos (starEach es X.env))) _ _ s
 refine Calls.spliced_cons (thn (ha pins s σ H _ I h) fun u s1 ⟨x,H1,I1,r1,q1⟩=>?_)
 exact thn (hr pos pins s1 σ H1 _ I1 q1) fun us s2 ⟨xs,H2,I2,r2,q2⟩=>⟨x::xs,H2,I2,.cons r1 r2,q2⟩
noncomputable def wM (t:TA):TE:=fun σ H Q=>t σ H fun xs H1=>xs.length<=sizeLine/\ ∀ p,H1 p=none->Q (.ref p) (upd H1 p (.tup xs))
noncomputable def vK (t:TA):TE:=fun σ H Q=>t σ H fun xs H1=>xs.length<=sizeLine/\ ∀ p,H1 p=none->Q (.ref p) (upd H1 p (.lst xs))
theorem aS {x1} (h:PA X es t):PE X (.Tuple es x1 pos) (wM t):=by
 intro pins s σ H Q I hq
 refine wpAny_Tuple_spliced (thn (h pos pins s σ H _ I hq) fun us s1 ⟨xs,H1,I1,r,z,q⟩=>⟨by rw [<- r.length];exact z,?_⟩)
 have hf:H1 s1.heap.objs.size=none:=I1.hok.fresh (Nat.le_refl _)
 refine ⟨.ref s1.heap.objs.size,upd H1 s1.heap.objs.size (.tup xs),I1.laid (t':=s1.toks) (fun b u e=>Heap.get?_push_of_some _ e) (Nat.le_refl _) ?_,rfl,q _ hf⟩
 exact ⟨z,us,r,⟨_,Heap.get?_push_size _ rfl,rfl,_,rfl⟩⟩
theorem bd (h:PA X es t):PE X (.List es pos) (vK t):=by
 intro pins s σ H Q I hq
 refine wpAny_List_spliced (thn (h pos pins s σ H _ I hq) fun us s1 ⟨xs,H1,I1,r,z,q⟩=>⟨by rw [<- r.length];exact z,?_⟩)
 have hf:H1 s1.heap.objs.size=none:=I1.hok.fresh (Nat.le_refl _)
 refine ⟨.ref s1.heap.objs.size,upd H1 s1.heap.objs.size (.lst xs),I1.laid (t':=s1.toks) (fun b u e=>Heap.get?_push_of_some _ e) (Nat.le_refl _) ?_,rfl,q _ hf⟩
 exact ⟨z,us,0,r,Heap.get?_push_size _ rfl⟩
end
noncomputable abbrev Sp:=List V->Hp->VK->XK->Prop
noncomputable abbrev CXT:=List Env->Hp->Shared->XK->Value->Shared->Prop
structure uD (P:Program) (w:World) (K:PySem.W.Frag) (mg:Str->Option Value) (base:Heap) (A:Around) (outer:List Env) (s:Shared) (H:Hp):Prop where
 frames:A.frames=some outer
 mod:Mod K mg base
 bs: ∀ b o,base.get? b=some o->s.heap.get? b=some o/\H b=none
 bsz:base.objs.size<=s.heap.objs.size
 funs:s.heap.FunFrames base outer
 frf: ∀ b∈frs outer,H b=none
 hok:HOk P w H s.heap
 bare:AllBare s.gens
noncomputable def CE (outer:List Env) (P:Program) (w:World) (H:Hp) (s:Shared) (Q:VK) (u:Value) (s':Shared):Prop:=
 ∃ v H',s'.os=s.os/\AllBare s'.gens/\Un (frs outer) [] H H' s.heap s'.heap/\HOk P w H' s'.heap/\RelV v u/\Q v H'
noncomputable def CR (CX:CXT) (outer:List Env) (P:Program) (w:World) (H:Hp) (s:Shared) (Q:VK) (E:XK) (r:Result) (s':Shared):Prop:=
 match r with
 | .ok (.ret u)=>CE outer P w H s Q u s'
 | .ok _=>False
 | .error e=>CX outer H s E e s'
structure FnOk (P:Program) (w:World) (K:PySem.W.Frag) (mg:Str->Option Value) (base:Heap) (CX:CXT) (k:Nat) (f:Addr) (fd:FuncData) (ps:List Str) (sp:Sp):Prop where
 len: ∀ vs H Q E,sp vs H Q E->vs.length=ps.length
 run: ∀ (A:Around) (outer:List Env) (s:Shared) (H:Hp) (args:Args) (us:List Value) (vs:List V) (Q:VK) (E:XK),Room k A->uD P w K mg base A outer s H->BindsTo s fd args (ps.zip us)->Vals vs us->sp vs H Q E->
  codeAny (model P w) A (.call (.ref f) args) (CR CX outer P w H s Q E) s
section
variable {X:Cx} {pins:List (Addr×Obj)} {σ:St} {H:Hp} {s s':Shared}
theorem Inv.env0 (I:Inv X pins σ H s):uD X.prog X.w X.K X.mg X.base X.A X.stack s H:=
 ⟨I.ok.frames,I.ok.mod,I.bs,Nat.le_trans I.ok.bsz I.sz,I.stack,I.stkFree,I.hok,I.bare⟩
theorem Inv.after {Q:VK} {u:Value} (I:Inv X pins σ H s) (h:CE X.stack X.prog X.w H s Q u s'):EP X pins σ Q u s':=by
 obtain ⟨v,H',os,bare,un,hok,r,q⟩:=h
 obtain ⟨hh,g,d,t,os'⟩:=s'
 obtain rfl:os'=s.os:=os
 exact ⟨v,H',I.call (h':=hh) (g':=g) (d':=d) (t':=t) (ch:=[]) un hok bare (fun b z=>absurd z (by simp)),r,q⟩
end
noncomputable def vN (sp:Sp) (dvs:List V) (E:XK) (t:TA):TE:=fun σ H Q=>t σ H fun vs H1=>sp (vs++dvs) H1 Q E
noncomputable def Binds (K:PySem.W.Frag) (fd:FuncData) (ps:List Str) (ds:List Value):Prop:=
 ∀ (s:Shared) (us:List Value),K.In s.heap->(us++ds).length=ps.length->BindsTo s fd ⟨us,[]⟩ (ps.zip (us++ds))
theorem Binds.all {K:PySem.W.Frag} {fd:FuncData} {ps:List Str} (h: ∀ us:List Value,us.length=ps.length->bindArgs fd ⟨us,[]⟩=pure (ps.zip us)):Binds K fd ps []:=fun s us _ hl=>by
 rw [List.append_nil]at hl ⊢
 exact .of_eq (h us hl)
noncomputable def oq (CX:CXT) (X:Cx) (E:XK):Prop:= ∀ (pins:List (Addr×Obj)) (σ:St) (H:Hp) (s:Shared) (e:Value) (s':Shared),Inv X pins σ H s->CX X.stack H s E e s'->X.xe e s'
section
variable {X:Cx} {CX:CXT} {k:Nat} {f C:Addr} {fd:FuncData} {ps:List Str} {sp:Sp} {dvs:List V} {ds:List Value} {E:XK} {x m:Str} {p pos apos:Pos} {e o:Expr} {es:List Expr} {ta:TE} {t:TA}
theorem uX {pins:List (Addr×Obj)} {σ:St} {H:Hp} {s:Shared} {Q:VK} {us:List Value} {vs:List V} (F:FnOk X.prog X.w X.K X.mg X.base CX k f fd ps sp) (hr:Room k X.A) (hb:Binds X.K fd ps ds) (hd:Vals dvs ds) (hx:oq CX X E)
  (I:Inv X pins σ H s) (r:Vals vs us) (h:sp (vs++dvs) H Q E):wpAny (model X.prog X.w) X.A (call (.ref f) us) (EP X pins σ Q) X.xe s:=by
 have r2:Vals (vs++dvs) (us++ds):=r.append hd
 have hl:(us++ds).length=ps.length:=by rw [<- r2.length];exact F.len _ _ _ _ h
 refine wpAny_call (codeAny_mono (F.run X.A X.stack s H ⟨us,[]⟩ (us++ds) (vs++dvs) Q E hr I.env0 (hb s us I.kIn hl) r2 h) fun r s' hq=>?_)
 cases r with
 | error e=>exact hx pins σ H s e s' I hq
 | ok fl=>
  cases fl with
  | ret u=>exact I.after hq
  | next=>exact False.elim hq
  | brk=>exact False.elim hq
  | cont=>exact False.elim hq
theorem af (F:FnOk X.prog X.w X.K X.mg X.base CX k f fd ps sp) (hr:Room k X.A) (hg:Gl X x) (hm:X.mg x=some (.ref f)) (hk:PySem.W.keepIn X.K (.ref f)=true) (hb:Binds X.K fd ps ds) (hd:Vals dvs ds) (hx:oq CX X E)
  (ha:PA X (e::es) t) (hdb:(x==("__debug__":Str))=false:=by decide) (he:starEach (e::es) X.env=(false,eval e X.env)::starEach es X.env:=by rfl) (hpl:(backTo pos (starEach es X.env)).any (·.1)=false:=by rfl):
  PE X (.Call (.Name x p) (e::es) [] pos) (vN sp dvs E t):=by
 intro pins s σ H Q I h
 refine wpAny_Call_Name_kw (oM I hg hm ?_ hdb)
 refine PySem.W.callWith_K (h₀:=X.base) I.ok.mod.kin hk (thn (ha pos pins s σ H _ I h) fun us s1 ⟨vs,H1,I1,r,q⟩=>⟨I1.kIn,?_⟩) he hpl
 exact uX F hr hb hd hx I1 r q
end
structure ay (N P:List Str) (sc:Scope):Prop where
 kind:sc.kind=.function
 co:sc.isCoroutine=false
 gen:sc.isGenerator=false
 nd:N.Nodup
 pre:N.take P.length=P
 par: ∀ x∈P,sc.names.lookup x=some .local\/sc.names.lookup x=some .cell
 nofree: ∀ y∈sc.names,y.2≠ .free
theorem fsc {N P:List Str} {sc:Scope} (kind_:sc.kind=.function:=by rfl) (co_:sc.isCoroutine=false:=by rfl) (gen_:sc.isGenerator=false:=by rfl) (nd_:N.Nodup:=by decide +kernel) (pre_:N.take P.length=P:=by rfl) (par_: ∀ x∈P,sc.names.lookup x=some .local\/sc.names.lookup x=some .cell:=by decide +kernel) (nofree_: ∀ y∈sc.names,y.2≠ .free:=by decide +kernel):ay N P sc:=⟨kind_,co_,gen_,nd_,pre_,par_,nofree_⟩
theorem jE {kindOf:Str->Option NameKind} {x:Str}: ∀ {binds:List (Str×Value)} {m:Str->Option Value},(∀ v,(x,v)∉binds)->bindL kindOf binds m x=m x
 | [],_,_=>rfl
 | (n,v)::r,m,h=>by
  unfold bindL
  rw [jE fun w hw=>h w (List.mem_cons_of_mem _ hw)]
  split
  ·have:x≠n:=by rintro rfl;exact h v List.mem_cons_self
   simp [this]
  ·rfl
theorem jG {kindOf:Str->Option NameKind} {x:Str}: ∀ {binds:List (Str×Value)} {m:Str->Option Value},(∀ v,(x,v)∉binds)->bindC kindOf binds m x=m x
 | [],_,_=>rfl
 | (n,v)::r,m,h=>by
  unfold bindC
  rw [jG fun w hw=>h w (List.mem_cons_of_mem _ hw)]
  split
  ·rfl
  ·have:x≠n:=by rintro rfl;exact h v List.mem_cons_self
   simp [this]
theorem jF {kindOf:Str->Option NameKind} {x:Str} {v:Value}: ∀ {P:List Str} {vs:List Value} {i:Nat} {m:Str->Option Value},P.Nodup->P[i]? =some x->vs[i]? =some v->kindOf x=some .local->
  bindL kindOf (P.zip vs) m x=some v
 | [],_,_,_,_,h,_,_=>by simp at h
 | _::_,[],_,_,_,_,h,_=>by simp at h
 | p::P,w::vs,0,m,nd,h1,h2,hk=>by
  simp at h1 h2;subst h1;subst h2
  show bindL kindOf ((p,w)::P.zip vs) m p=_
  unfold bindL
  rw [jE fun v hv=>(List.nodup_cons.mp nd).1 (List.of_mem_zip hv).1,if_pos hk]
  simp
 | p::P,w::vs,i+1,m,nd,h1,h2,hk=>by
  show bindL kindOf ((p,w)::P.zip vs) m x=_
  unfold bindL
  exact jF (i:=i) (List.nodup_cons.mp nd).2 (by simpa using h1) (by simpa using h2) hk
theorem jH {kindOf:Str->Option NameKind} {x:Str} {v:Value}: ∀ {P:List Str} {vs:List Value} {i:Nat} {m:Str->Option Value},P.Nodup->P[i]? =some x->vs[i]? =some v->kindOf x≠some .local->
  bindC kindOf (P.zip vs) m x=some v
 | [],_,_,_,_,h,_,_=>by simp at h
 | _::_,[],_,_,_,_,h,_=>by simp at h
 | p::P,w::vs,0,m,nd,h1,h2,hk=>by
  simp at h1 h2;subst h1;subst h2
  show bindC kindOf ((p,w)::P.zip vs) m p=_
  unfold bindC
  rw [jG fun v hv=>(List.nodup_cons.mp nd).1 (List.of_mem_zip hv).1,if_neg hk]
  simp
 | p::P,w::vs,i+1,m,nd,h1,h2,hk=>by
  show bindC kindOf ((p,w)::P.zip vs) m x=_
  unfold bindC
  exact jH (i:=i) (List.nodup_cons.mp nd).2 (by simpa using h1) (by simpa using h2) hk
noncomputable def gV (N:List Str) (vs:List V):St:=vs.map some++List.replicate (N.length-vs.length) none
noncomputable def dv (CX:CXT) (P:Program) (w:World) (K:PySem.W.Frag) (mg:Str->Option Value) (base:Heap) (N:List Str) (qual:Str) (scope:Scope) (f:Addr) (cd:Value) (A:Around) (outer:List Env) (s:Shared) (H:Hp) (E:XK):Cx where
 prog:=P
 w:=w
 K:=K
 mg:=mg
 base:=base
 A:=A.deeper (envOfC qual scope s.heap.objs.size f cd)
 N:=N
 s₀:=s
 H₀:=H
 env:=envOfC qual scope s.heap.objs.size f cd
 outer:=outer
 stack:=envOfC qual scope s.heap.objs.size f cd::outer
 ex:=[]
 calm:=true
 fn:=fun _=>true
 pn:=[]
 xe:=fun e s'=>wpAny (model P w) (A.deeper (envOfC qual scope s.heap.objs.size f cd)) (leaving (envOfC qual scope s.heap.objs.size f cd) e) (fun _ s''=>CX outer H s E e s'') (fun e' s''=>CX outer H s E e' s'') s'
theorem mq {sc:Scope} {n:Nat} {x:Str} (h:sc.names.lookup x=some .cell): ∃ c,(cellsFrom n sc.names []).lookup x=some c:=by
 have q:=PySem.W.cellsFrom_some sc.names n [] (.inl h)
 exact Option.isSome_iff_exists.mp q
theorem qt {CX:CXT} {P:Program} {w:World} {K:PySem.W.Frag} {mg:Str->Option Value} {base:Heap} {N ps:List Str} {qual:Str} {scope:Scope} {f:Addr} {cd:Value} {A:Around} {outer:List Env} {s s1:Shared} {H:Hp} {E:XK} {us:List Value} {vs:List V}
  (S:ay N ps scope) (hd:A.handled=none) (e0:uD P w K mg base A outer s H) (hl:vs.length=ps.length) (r:Vals vs us)
  (x:InCallC s s.heap.objs.size (bindL (envOfC qual scope s.heap.objs.size f cd).kindOf (ps.zip us) fun _=>none) (cellsFrom (s.heap.objs.size+1) scope.names []) (bindC (envOfC qual scope s.heap.objs.size f cd).kindOf (ps.zip us) fun _=>none) s1):
  Inv (dv CX P w K mg base N qual scope f cd A outer s H E) [] (gV N vs) H s1:=by
 have hpl:ps.length<=N.length:=by have:=congrArg List.length S.pre;rw [List.length_take]at this;omega
 obtain ⟨h1,tk,rfl,hk⟩:=x.done
 have noA: ∀ b:Addr,b∉(dv CX P w K mg base N qual scope f cd A outer s H E).ex:=fun b z=>absurd (show b∈([]:List Addr)from z) (by simp)
 refine ⟨⟨e0.mod,S.kind,rfl,rfl,Nat.le_refl _,fun y z c h1 h2=>?_,fun y hy=>?_,fun y c _ h=>?_,fun _=>hd,Around.frames_deeper e0.frames,.inr ⟨rfl,rfl⟩,fun b z=>absurd z (noA b),e0.bs,e0.bsz,fun b _ _=>noA b,fun b z=>absurd z (noA b),e0.funs,e0.frf⟩,
  rfl,e0.bare,Un.kept hk,⟨_,x.toInCall.ns,fun i y v h1 h2 h3=>?_⟩,fun y c h=>⟨_,x.cell y c h⟩,e0.hok.fresh (Nat.le_refl _),fun y c h=>?_,fun p hp=>absurd (show p∈([]:List (Addr×Obj))from hp) (by simp),e0.hok.kept hk,?_⟩
 ·exact name_of_addr x.apart (PySem.mem_of_lookup h1) (PySem.mem_of_lookup h2)
 ·have hy:scope.names.lookup y=some .cell\/scope.names.lookup y=some .free:=hy
  rcases hy with hy | hy
  ·exact mq hy
  ·exact absurd rfl (S.nofree _ (PySem.mem_of_lookup hy))
 ·exact Nat.le_of_lt (x.above y c (PySem.mem_of_lookup h))
 ·have hi:i<vs.length:=by
   unfold gV at h2
   by_cases hi:i<vs.length
   ·exact hi
   ·rw [List.getElem?_append_right (by simpa using hi)]at h2
    rw [List.getElem?_replicate]at h2
    split at h2 <;> cases h2
  have ha:vs[i]? =some v:=by
   unfold gV at h2
   rw [List.getElem?_append_left (by simpa using hi),List.getElem?_map]at h2
   cases e:vs[i]? with
   | none=>rw [e]at h2;cases h2
   | some a=>rw [e]at h2;cases h2;rfl
  obtain ⟨u,hu,rv⟩:=r.get ha
  have hp:ps[i]? =some y:=by
   rw [<- S.pre,List.getElem?_take_of_lt (by omega)];exact h1
  have ndP:ps.Nodup:=by rw [<- S.pre];exact S.nd.sublist (List.take_sublist _ _)
  refine ⟨u,rv,?_⟩
  rcases S.par y (List.mem_of_getElem? hp)with k | k
  ·exact .inl ⟨k,jF ndP hp hu k⟩
  ·obtain ⟨c,e⟩:=mq (n:=s.heap.objs.size+1) k
   refine .inr ⟨.inl k,c,e,?_⟩
   have q:=x.cell y c e
   rw [jH ndP hp hu (by show scope.names.lookup y≠_;rw [k];decide)]at q
   exact q
 ·exact e0.hok.fresh (Nat.le_of_lt (x.above y c (PySem.mem_of_lookup h)))
 ·unfold gV
  show _=N.length
  rw [List.length_append,List.length_map,List.length_replicate]
  omega
theorem wx {CX:CXT} {P:Program} {w:World} {K:PySem.W.Frag} {mg:Str->Option Value} {base:Heap} {k:Nat} {f:Addr} {name qual:Str} {params:Arguments} {body:List Stmt} {scope:Scope} {dV kV doc pm cdv ct oc:Value} {an od:Option Addr}
  {osl:Array (Option Value)} {N ps:List Str} {sp:Sp} (lk:K.lookup f=some ⟨oc,od,.func (PySem.W.fnOf name qual params body scope dV kV doc pm an cdv ct),osl⟩) (hcd:PySem.W.codeIn K cdv qual=true) (S:ay N ps scope)
  (len: ∀ vs H Q E,sp vs H Q E->vs.length=ps.length)
  (hbody: ∀ (A:Around) (outer:List Env) (s:Shared) (H:Hp) (vs:List V) (Q:VK) (E:XK),Room k (A.deeper (envOfC qual scope s.heap.objs.size f cdv))->sp vs H Q E->
   ∃ t,PSs (dv CX P w K mg base N qual scope f cdv A outer s H E) body t/\t {nx:=fun _ H'=>Q .non H',rt:=Q} (gV N vs) H):
  FnOk P w K mg base CX (k+1) f (PySem.W.fnOf name qual params body scope dV kV doc pm an cdv ct) ps sp:=by
 refine ⟨len,fun A outer s H args us vs Q E hr e0 hb r hsp=>?_⟩
 have hl:=len _ _ _ _ hsp
 have KX:K.In s.heap:=e0.mod.kin.keeps fun b o e=>(e0.bs b o e).1
 have lim:s.heap.NoLimit:=e0.mod.nolimit.keeps fun b o e=>(e0.bs b o e).1
 have hkind: ∀ y∈ps.zip us,scope.names.lookup y.1=some .local\/(scope.names.lookup y.1=some .cell/\((cellsFrom (s.heap.objs.size+1) scope.names []).lookup y.1).isSome=true):=fun ⟨n,v⟩ hy=>by
  rcases S.par n (List.of_mem_zip hy).1 with q | q
  ·exact .inl q
  ·exact .inr ⟨q,PySem.W.cellsFrom_some _ _ _ (.inl q)⟩
 refine codeAny_call_function hr.depth (KX _ _ lk) rfl S.co S.gen rfl (PySem.W.codeRec_of KX hcd) (hb _ _ _ _ ?_)
 refine wpAny_newFunctionEnv_cells S.kind hkind fun env he s1 x=>?_
 subst he
 refine ⟨lim.keeps x.toInCall.keep,codeAny_func ?_⟩
 obtain ⟨t,ht,hq⟩:=hbody A outer s H vs Q E (hr.deeper _) hsp
 have I:Inv (dv CX P w K mg base N qual scope f cdv A outer s H E) [] (gV N vs) H s1:=qt S hr.hd e0 hl r x
 refine wpAny_mono (ht [] s1 (gV N vs) H _ I hq) (fun fl s' hs=>?_) fun e s' hs=>hs
 have fin: ∀ {σ':St} {H':Hp} {v:V} {u:Value},Inv (dv CX P w K mg base N qual scope f cdv A outer s H E) [] σ' H' s'->RelV v u->Q v H'->CE outer P w H s Q u s':=
  fun {σ' H' v u} J rv q=>⟨v,H',J.os,J.bare,J.base,J.hok,rv,q⟩
 cases fl with
 | ret u=>
  obtain ⟨v,σ',H',J,rv,q⟩:=hs
  exact fin J rv q
 | next=>
  obtain ⟨σ',H',J,q⟩:=hs
  exact fin (v:=V.non) (u:=Value.none) J rfl q
 | brk=>
  obtain ⟨_,_,_,q⟩:=hs
  exact False.elim q
 | cont=>
  obtain ⟨_,_,_,q⟩:=hs
  exact False.elim q
section
variable {X:Cx} {x:Str} {p pos:Pos} {e:Expr} {es:List Expr} {t:TA} {id T:String} {r:List V->Hp->VK->Prop}
noncomputable def tCB (r:List V->Hp->VK->Prop) (t:TA):TE:=fun σ H Q=>t σ H fun vs H1=>r vs H1 Q
theorem ao (hc:cU X (.builtin id) r) (hg:Gl X x) (hm:X.mg x=none) (hv:bootBuiltins x=some (.builtin id)) (ha:PA X (e::es) t) (hn:x≠"__name__":=by decide) (hdb:(x==("__debug__":Str))=false:=by decide)
  (he:starEach (e::es) X.env=(false,eval e X.env)::starEach es X.env:=by rfl) (hpl:(backTo pos (starEach es X.env)).any (·.1)=false:=by rfl):PE X (.Call (.Name x p) (e::es) [] pos) (tCB r t):=by
 intro pins s σ H Q I h
 refine wpAny_Call_Name_kw (eV I hg hm hv ?_ hn hdb)
 exact PyProof.Rows.callWith_builtin1 (thn (ha pos pins s σ H _ I h) fun us s1 ⟨vs,H1,I1,r1,q1⟩=>hc pins s1 σ H1 vs us Q I1 r1 q1) he hpl
theorem bG (hc:cU X (.type T) r) (hg:Gl X x) (hm:X.mg x=none) (hv:bootBuiltins x=some (.type T)) (ha:PA X (e::es) t) (hn:x≠"__name__":=by decide) (hdb:(x==("__debug__":Str))=false:=by decide)
  (he:starEach (e::es) X.env=(false,eval e X.env)::starEach es X.env:=by rfl) (hpl:(backTo pos (starEach es X.env)).any (·.1)=false:=by rfl):PE X (.Call (.Name x p) (e::es) [] pos) (tCB r t):=by
 intro pins s σ H Q I h
 refine wpAny_Call_Name_kw (eV I hg hm hv ?_ hn hdb)
 exact PyProof.Rows.callWith_type1 (thn (ha pos pins s σ H _ I h) fun us s1 ⟨vs,H1,I1,r1,q1⟩=>hc pins s1 σ H1 vs us Q I1 r1 q1) he hpl
end
end L2
namespace HT
open PySem PyProof.Rows
section
variable {prog:Program} {w:World} {A:Around} {E:Value->Shared->Prop} {s:Shared}
theorem cat_tup {t b:Addr} {vs ws:List Value} {Q:Value->Shared->Prop} (ht:IsTup s.heap t vs.toArray) (hb:IsTup s.heap b ws.toArray) (hv:vs≠[])
  (h1:ws=[]->Q (.ref t) s) (h2:ws≠[]->Q (.ref s.heap.objs.size) {s with heap:=s.heap.push {cls:=.type "tuple",data:=.seq (vs++ws).toArray}})
  (hsz:vs.length+ws.length<=sizeLine):wpAny (model prog w) A (binaryOp .Add (.ref t) (.ref b)) Q E s:=by
 obtain ⟨⟨cls,dd,data,sl⟩,ho,hc,n,hd⟩:=id ht
 obtain ⟨⟨cls2,dd2,data2,sl2⟩,ho2,hc2,n2,hd2⟩:=id hb
 simp only at hc hd hc2 hd2
 subst hc hd hc2 hd2
 have e:vs.toArray++ws.toArray=(vs++ws).toArray:=by simp
 by_cases hw:ws=[]
 ·exact concat_meets ⟨_,ho,rfl⟩ ⟨_,ho2,rfl⟩ noFill_tuple_add seq_tuple_add PySem.F.slot_tuple_add PySem.F.entry_tuple_add (PySem.F.args_tuple_add_2 _ _)
   (tuple_addW1 t b vs.toArray ws.toArray n n2 dd dd2 sl sl2 (by simpa using hv) (by simp [hw])) ⟨ho,ho2,h1 hw⟩
 ·refine concat_meets ⟨_,ho,rfl⟩ ⟨_,ho2,rfl⟩ noFill_tuple_add seq_tuple_add PySem.F.slot_tuple_add PySem.F.entry_tuple_add (PySem.F.args_tuple_add_2 _ _)
   (tuple_addW2 t b vs.toArray ws.toArray n n2 dd dd2 sl sl2 (by simpa using hv) (by simpa using hw) (by rw [List.size_toArray,List.size_toArray];exact hsz)) ⟨ho,ho2,?_⟩
  rw [e]
  exact h2 hw
noncomputable def sIx (n d:Nat):Option Int->Nat
 | none=>d
 | some v=>if v<0 then (v+ (n:Int)).toNat else min v.toNat n
theorem sIx_none (n d:Nat):sIx n d none=d:=rfl
theorem sIx_nat (n d k:Nat):sIx n d (some (k:Int))=min k n:=by
 show (if (k:Int) <0 then ((k:Int) + (n:Int)).toNat else min (k:Int).toNat n)=min k n
 rw [if_neg (by omega),Int.toNat_natCast]
theorem uW (n d:Nat) (hd:d<=n) (o:Option Int):sIx n d o<=n:=by
 cases o with
 | none=>exact hd
 | some v=>
  show (if v<0 then (v+ (n:Int)).toNat else min v.toNat n)<=n
  by_cases hv:v<0
  ·rw [if_pos hv];omega
  ·rw [if_neg hv];exact Nat.min_le_right _ _
theorem ph (v:Int) (n d:Nat):(if v<0 then max (v+ (n:Int)) 0 else min v (n:Int))=((sIx n d (some v):Nat):Int):=by
 show (if v<0 then max (v+ (n:Int)) 0 else min v (n:Int))=(((if v<0 then (v+ (n:Int)).toNat else min v.toNat n):Nat):Int)
 by_cases hv:v<0
 ·simp only [if_pos hv];omega
 ·simp only [if_neg hv];omega
theorem om (lo hi:Option Int) (n:Nat):Builtin.Slice.sliceAdjust lo hi 1 (n:Int)=(((sIx n 0 lo:Nat):Int),((sIx n n hi:Nat):Int)):=by
 have h1: ¬ ((1:Int) <0):=by omega
 unfold Builtin.Slice.sliceAdjust
 simp only [h1,if_false]
 refine Prod.ext ?_ ?_
 ·cases lo with
  | none=>rfl
  | some v=>exact ph v n 0
 ·cases hi with
  | none=>rfl
  | some v=>exact ph v n n
theorem nz (i j:Nat):Builtin.Slice.slicePlaces (i:Int) (j:Int) 1=j-i:=by
 unfold Builtin.Slice.slicePlaces
 have h1:(1:Int) >0:=by omega
 simp only [h1,if_true,Int.ediv_one]
 split <;> omega
theorem dh {v:Value} {o:Option Int} {Q:Option Int->Shared->Prop} (p:IsPart v o) (h:Q o s):wpAny (model prog w) A (Builtin.Slice.slicePartIndex v) Q E s:=by
 cases p with
 | none=>exact slicePart_none h
 | int i t=>exact slicePart_int h
theorem dO {sl:Addr} {vl vu:Value} {lo hi:Option Int} {n:Nat} {Q:Int×Int×Nat->Shared->Prop} (hs:s.heap.IsSliceOf sl vl vu .none) (pl:IsPart vl lo) (pu:IsPart vu hi)
  (h:Q (((sIx n 0 lo:Nat):Int),1,sIx n n hi-sIx n 0 lo) s):wpAny (model prog w) A (Builtin.Slice.sliceApplied (.ref sl) (pure (n:Int))) Q E s:=by
 obtain ⟨os,hos,hcs,hds⟩:=id hs
 unfold Builtin.Slice.sliceApplied Builtin.Slice.sliceFields
 refine wpAny_bind (wpAny_bind (wpAny_field hos hds (x:=vl) rfl (wpAny_bind (wpAny_field hos hds (x:=vu) rfl (wpAny_bind (wpAny_field hos hds (x:=.none) rfl (wpAny_pure ?_)))))))
 refine wpAny_bind (slicePart_none ?_)
 show wpAny _ _ (if ((1:Int)==0)=true then _ else _) _ _ s
 rw [if_neg (by decide)]
 refine wpAny_bind (dh pl (wpAny_bind (dh pu (wpAny_bind (wpAny_pure ?_)))))
 show wpAny _ _ (match Builtin.Slice.sliceAdjust lo hi 1 (n:Int)with | (lo,hi)=>pure (lo,(1:Int),Builtin.Slice.slicePlaces lo hi 1)) _ _ s
 rw [om lo hi n]
 show wpAny _ _ (pure (((sIx n 0 lo:Nat):Int),(1:Int),Builtin.Slice.slicePlaces ((sIx n 0 lo:Nat):Int) ((sIx n n hi:Nat):Int) 1)) _ _ s
 rw [nz]
 exact wpAny_pure h
theorem rD (xs:Array Value) (i k:Nat):((List.range k).filterMap fun (m:Nat)=>xs[((i:Int) + (m:Int) *1).toNat]?).toArray=((xs.toList.drop i).take k).toArray:=by
 have e:(fun (m:Nat)=>xs[((i:Int) + (m:Int) *1).toNat]?)=fun m=>xs[i+m]? :=by
  funext m
  have:((i:Int) + (m:Int) *1).toNat=i+m:=by omega
  rw [this]
 rw [e]
 have:=pick_run xs i k
 rw [List.filterMap_map]at this
 have e2:((fun x=>xs[x]?)∘fun x=>i+x)=fun m=>xs[i+m]? :=rfl
 rw [e2]at this
 rw [this]
theorem getItem_tuple_cut {t sl:Addr} {items:Array Value} {vl vu:Value} {lo hi:Option Int} {Q:Value->Shared->Prop} (ht:IsTup s.heap t items) (hs:s.heap.IsSliceOf sl vl vu .none) (pl:IsPart vl lo) (pu:IsPart vu hi)
  (hw: ¬ (sIx items.size 0 lo=0/\sIx items.size items.size hi=items.size))
  (h:Q (.ref s.heap.objs.size) {s with heap:=s.heap.push {cls:=.type "tuple",data:=.seq ((items.toList.drop (sIx items.size 0 lo)).take (sIx items.size items.size hi-sIx items.size 0 lo)).toArray}})
  (hsz:items.size<=sizeLine):wpAny (model prog w) A (getItem (.ref t) (.ref sl)) Q E s:=by
 have htake:sizeOk (.seq ((items.toList.drop (sIx items.size 0 lo)).take (sIx items.size items.size hi-sIx items.size 0 lo)).toArray):=by
  show ((items.toList.drop (sIx items.size 0 lo)).take (sIx items.size items.size hi-sIx items.size 0 lo)).toArray.size<=sizeLine
  rw [List.size_toArray,List.length_take,List.length_drop,Array.length_toList]
  omega
 have hj:sIx items.size items.size hi<=items.size:=uW _ _ (Nat.le_refl _) hi
 obtain ⟨os,hos,hcs,hds⟩:=id hs
 have hTs:s.TypeIs (.ref sl) "slice":=⟨os,hos,hcs⟩
 unfold getItem
 try with_reducible refine wpAny_holding ?_
 first | refine wpAny_bind (wpAny_pure ?_) | skip
 refine wpAny_bind (wpAny_sequenceKey ht.typeIs (by decide) ?_)
 refine wpAny_bind (wpAny_callSpecial?_slot (name:=Str.ofString "__getitem__") ht.typeIs PyProof.Rows.slot_tuple_getitem
  (wpAny_call_entry PyProof.Rows.slot_tuple_getitem ht.typeIs entry_tuple_getitem ?_ (args_tuple_getitem _ _)))
 show wpAny _ _ (Builtin.Tuple.tupleItemsOf (.ref t) >>= _) _ _ s
 refine wpAny_bind (tupleItemsOf_ ht ?_)
 refine wpAny_bind (wpAny_typeOf hTs ?_)
 rw [if_pos (by decide)]
 refine wpAny_bind (dO hs pl pu ?_)
 have hno: ¬ ((((sIx items.size 0 lo:Nat):Int)==0&&(1:Int)==1&&(sIx items.size items.size hi-sIx items.size 0 lo)==items.size)=true):=by
  intro q
  rw [Bool.and_eq_true,Bool.and_eq_true]at q
  have q1:((sIx items.size 0 lo:Nat):Int)=0:=eq_of_beq q.1.1
  have q2:sIx items.size items.size hi-sIx items.size 0 lo=items.size:=eq_of_beq q.2
  exact hw ⟨by omega,by omega⟩
 show wpAny _ _ (if (((sIx items.size 0 lo:Nat):Int)==0&&(1:Int)==1&&(sIx items.size items.size hi-sIx items.size 0 lo)==items.size)=true then _ else _) _ _ s
 rw [if_neg hno,rD]
 first
  | exact wpAny_bind (m:=Builtin.Tuple.tupleExact _) (wpAny_newObj_type (wpAny_pure ⟨_,rfl,wpAny_pure h⟩) htake)
  | exact wpAny_bind (m:=Builtin.Tuple.tupleExact _) (wpAny_newObj_type (wpAny_bind (wpAny_pure (wpAny_pure ⟨_,rfl,wpAny_pure h⟩))) htake)
  | exact wpAny_bind (wpAny_bind (m:=Builtin.Tuple.tupleExact _) (wpAny_newObj_type (wpAny_pure (wpAny_pure ⟨_,rfl,wpAny_pure h⟩)) htake))
  | exact wpAny_bind (wpAny_bind (m:=Builtin.Tuple.tupleExact _) (wpAny_newObj_type (wpAny_pure ⟨_,rfl,wpAny_pure h⟩) htake))
end
end HT
namespace L2
open PySem PySem.Spec PyProof.Rows
noncomputable abbrev TO:=St->Hp->(Option Int->Hp->Prop)->Prop
noncomputable def PO (X:Cx) (e:Option Expr) (t:TO):Prop:=
 ∀ (pins:List (Addr×Obj)) (s:Shared) (σ:St) (H:Hp) (Q:Option Int->Hp->Prop),Inv X pins σ H s->t σ H Q->
  wpAny (model X.prog X.w) X.A (evalPart e X.env) (fun u s'=> ∃ o H',Inv X pins σ H' s'/\IsPart u o/\Q o H') X.xe s
noncomputable def tw:TO:=fun _ H Q=>Q none H
noncomputable def vH (t:TE):TO:=fun σ H Q=>t σ H fun x H1=> ∃ i,x=.int i/\Q (some i) H1
section
variable {X:Cx} {e:Expr} {te:TE} {lo hi:Option Expr} {tl th:TO} {pos p2:Pos}
theorem ca:PO X none tw:=by
 intro pins s σ H Q I h
 rw [evalPart_none]
 exact wpAny_pure ⟨none,H,I,.none,h⟩
theorem bZ (h:PE X e te):PO X (some e) (vH te):=by
 intro pins s σ H Q I hw
 rw [evalPart_some]
 refine thn (h pins s σ H _ I hw) fun u s1 ⟨x,H1,I1,r1,q1⟩=>?_
 obtain ⟨i,rfl,q⟩:=q1
 obtain ⟨t,rfl⟩:=r1
 exact ⟨some i,H1,I1,.int i t,q⟩
noncomputable def SlR (X:Cx) (r:V->Option Int->Option Int->Hp->VK->Prop):Prop:=
 ∀ (pins:List (Addr×Obj)) (s:Shared) (σ:St) (H:Hp) (x:V) (v vl vu:Value) (lo hi:Option Int) (sl:Addr) (Q:VK),Inv X pins σ H s->RelV x v->s.heap.IsSliceOf sl vl vu .none->IsPart vl lo->IsPart vu hi->r x lo hi H Q->
  ∃ T id,typeLookup (.type T) "__getitem__"=pure (some (.builtin id))/\s.TypeIs v T/\wpAny (model X.prog X.w) X.A (getItem v (.ref sl)) (EP X pins σ Q) X.xe s
noncomputable def tSl (r:V->Option Int->Option Int->Hp->VK->Prop) (te:TE) (tl th:TO):TE:=fun σ H Q=>te σ H fun x H1=>tl σ H1 fun l H2=>th σ H2 fun u H3=>r x l u H3 Q
theorem bh {r:V->Option Int->Option Int->Hp->VK->Prop} (hr:SlR X r) (he:PE X e te) (hl:PO X lo tl) (hu:PO X hi th):PE X (.Subscript e (.Slice lo hi none p2) pos) (tSl r te tl th):=by
 intro pins s σ H Q I h
 refine Subscript_ (thn (he pins s σ H _ I h) fun v s1 ⟨x,H1,I1,r1,q1⟩=>?_)
 refine wpAny_Slice (thn (hl pins s1 σ H1 _ I1 q1) fun vl s2 ⟨l,H2,I2,pl,q2⟩=>thn (hu pins s2 σ H2 _ I2 q2) fun vu s3 ⟨u,H3,I3,pu,q3⟩=>?_)
 rw [evalPart_none]
 refine wpAny_pure ?_
 have I4:Inv X pins σ H3 {s3 with heap:=s3.heap.push {cls:=.type "slice",data:=.fields #[vl,vu,.none]}}:=I3.kept (t':=s3.toks) fun b ob q=>Heap.get?_push_of_some _ q
 obtain ⟨T,id,hT,ht,hg⟩:=hr pins {s3 with heap:=s3.heap.push {cls:=.type "slice",data:=.fields #[vl,vu,.none]}} σ H3 x v vl vu l u s3.heap.objs.size Q I4 r1 (Heap.IsSliceOf.new ..) pl pu q3
 show wpAny (model X.prog X.w) X.A (subscriptTail e (.Slice lo hi none p2) v (.ref s3.heap.objs.size)) (EP X pins σ Q) X.xe {s3 with heap:=s3.heap.push {cls:=.type "slice",data:=.fields #[vl,vu,.none]}}
 exact tail_any (ops:=[.ref s3.heap.objs.size,v]) ht hT hg (by with_unfolding_all rfl)
noncomputable def dW (xs:List V) (lo hi:Option Int):List V:=(xs.drop (HT.sIx xs.length 0 lo)).take (HT.sIx xs.length xs.length hi-HT.sIx xs.length 0 lo)
theorem h9 (xs:List V) (lo hi:Option Int):(dW xs lo hi).length<=xs.length:=by
 unfold dW
 rw [List.length_take,List.length_drop]
 omega
noncomputable def vW (K:PySem.W.Frag):V->Option Int->Option Int->Hp->VK->Prop:=fun x lo hi H Q=> ∃ a xs,x=.ref a/\SqT K H a xs/\
 ¬ (HT.sIx xs.length 0 lo=0/\HT.sIx xs.length xs.length hi=xs.length)/\ ∀ p,H p=none->Q (.ref p) (upd H p (.tup (dW xs lo hi)))
theorem gE:SlR X (vW X.K):=by
 intro pins s σ H x v vl vu lo hi sl Q I rx hs pl pu h
 obtain ⟨a,xs,rfl,hx,hw,q⟩:=h
 cases rx
 obtain ⟨its,r,ht,hz⟩:=I.tuple hx
 have hlen:its.toArray.size=xs.length:=by rw [List.size_toArray];exact r.length.symm
 refine ⟨"tuple",_,PyProof.Rows.slot_tuple_getitem.lookup,ht.typeIs,?_⟩
 refine HT.getItem_tuple_cut ht hs pl pu (by rw [hlen];exact hw) ?_ (by rw [hlen];exact hz)
 rw [hlen]
 refine ⟨.ref s.heap.objs.size,_,I.laid (t':=s.toks) (o:=.tup (dW xs lo hi)) (fun b ob q=>Heap.get?_push_of_some _ q) (Nat.le_refl _) ?_,rfl,q _ (I.hok.fresh (Nat.le_refl _))⟩
 exact ⟨Nat.le_trans (h9 xs lo hi) hz,_,(r.drop (HT.sIx xs.length 0 lo)).take (HT.sIx xs.length xs.length hi-HT.sIx xs.length 0 lo),IsTup.new _ _⟩
noncomputable def v6 (K:PySem.W.Frag):R2:=fun x y H Q=> ∃ a b xs ys,x=.ref a/\y=.ref b/\SqT K H a xs/\SqT K H b ys/\xs≠[]/\xs.length+ys.length<=sizeLine/\
 (ys=[]->Q (.ref a) H)/\(ys≠[]-> ∀ p,H p=none->Q (.ref p) (upd H p (.tup (xs++ys))))
theorem Vals.nil_iff {xs:List V} {us:List Value} (r:Vals xs us):us=[]↔xs=[]:=by
 cases r with
 | nil=>simp
 | cons _ _=>simp
theorem tW:OpR X (binaryOp .Add) (v6 X.K):=by
 intro pins s σ H x y v u Q I rx ry h
 obtain ⟨a,b,xs,ys,rfl,rfl,ha,hb,hx,hz,q1,q2⟩:=h
 cases rx
 cases ry
 obtain ⟨its,r1,p1,_⟩:=I.tuple ha
 obtain ⟨its2,r2,p2,_⟩:=I.tuple hb
 refine HT.cat_tup p1 p2 (fun z=>hx (r1.nil_iff.mp z)) (fun z=>⟨.ref a,H,I,rfl,q1 (r2.nil_iff.mp z)⟩) (fun z=>?_) (by rw [<- r1.length,<- r2.length];exact hz)
 refine ⟨.ref s.heap.objs.size,_,I.laid (t':=s.toks) (o:=.tup (xs++ys)) (fun b ob q=>Heap.get?_push_of_some _ q) (Nat.le_refl _) ?_,rfl,q2 (fun w=>z (r2.nil_iff.mpr w)) _ (I.hok.fresh (Nat.le_refl _))⟩
 exact ⟨by rw [List.length_append];exact hz,_,r1.append r2,IsTup.new _ _⟩
end
noncomputable def ixN (n:Nat) (i:Int):Option Nat:=if 0<=i then (if i<n then some i.toNat else none)else if -(n:Int)<=i then some (i+n).toNat else none
noncomputable def atI {α:Type} (xs:List α) (i:Int):Option α:=(ixN xs.length i).bind fun j=>xs[j]?
theorem oQ {n:Nat} {i:Int} {j:Nat} (h:ixN n i=some j):seqIndex? i n=some j/\j<n/\ -(n:Int)<=i/\i<n:=by
 unfold ixN at h
 by_cases h0:0<=i
 ·rw [if_pos h0]at h
  by_cases h1:i<n
  ·rw [if_pos h1]at h
   have e:i.toNat=j:=Option.some.inj h
   exact ⟨by rw [seqIndex_of h0 h1,e],by omega,by omega,h1⟩
  ·rw [if_neg h1]at h;cases h
 ·rw [if_neg h0]at h
  by_cases h1: -(n:Int)<=i
  ·rw [if_pos h1]at h
   have e:(i+n).toNat=j:=Option.some.inj h
   exact ⟨by rw [seqIndex_neg (by omega) h1,e],by omega,h1,by omega⟩
  ·rw [if_neg h1]at h;cases h
theorem kE {α:Type} {xs:List α} {i:Int} {v:α} (h:atI xs i=some v): ∃ j,seqIndex? i xs.length=some j/\xs[j]? =some v/\j<xs.length/\ -(xs.length:Int)<=i/\i<xs.length:=by
 unfold atI at h
 cases e:ixN xs.length i with
 | none=>rw [e]at h;cases h
 | some j=>
  rw [e]at h
  obtain ⟨h1,h2,h3,h4⟩:=oQ e
  exact ⟨j,h1,h,h2,h3,h4⟩
theorem aB {α:Type} {xs:List α} {j:Nat} {v:α} (h:xs[j]? =some v):atI xs (j:Int)=some v:=by
 have hj:j<xs.length:=(List.getElem?_eq_some_iff.mp h).1
 have e:ixN xs.length (j:Int)=some j:=by
  unfold ixN
  rw [if_pos (by omega),if_pos (by omega)];simp
 unfold atI;rw [e];exact h
noncomputable def uC (b:Expr):Prop:= ∀ o i,subscripted b false o i=operate [o,i] (getItem o i)
noncomputable def IxR (X:Cx) (r:R2):Prop:=
 ∀ (value slice:Expr) (pins:List (Addr×Obj)) (s:Shared) (σ:St) (H:Hp) (x y:V) (v u:Value) (Q:VK),Inv X pins σ H s->RelV x v->RelV y u->r x y H Q->
  subscripted slice false v u=operate [v,u] (getItem v u)->wpAny (model X.prog X.w) X.A (subscriptTail value slice v u) (EP X pins σ Q) X.xe s
noncomputable def MtR (X:Cx) (id:String) (r:V->List V->Hp->VK->Prop):Prop:=
 ∀ (pins:List (Addr×Obj)) (s:Shared) (σ:St) (H:Hp) (x:V) (xs:List V) (v:Value) (us:List Value) (Q:VK),Inv X pins σ H s->RelV x v->Vals xs us->r x xs H Q->
  wpAny (model X.prog X.w) X.A (call (.builtin id) (v::us)) (EP X pins σ Q) X.xe s
section
variable {X:Cx} {a b:Expr} {ta tb:TE} {pos:Pos}
theorem av {r:R2} (hr:IxR X r) (ha:PE X a ta) (hb:PE X b tb) (hs:uC b):PE X (.Subscript a b pos) (tOp r ta tb):=by
 intro pins s σ H Q I h
 exact Subscript_ (vx ha hb I h fun v u s2 x y H2 I2 rx ry q=>hr a b pins s2 σ H2 x y v u Q I2 rx ry q (hs _ _))
noncomputable def vY (K:PySem.W.Frag):R2:=fun x y H Q=> ∃ p xs i v,x=.ref p/\y=.int i/\SqL K H p xs/\atI xs i=some v/\Q v H
noncomputable def gJ (K:PySem.W.Frag):R2:=fun x y H Q=> ∃ p xs i v,x=.ref p/\y=.int i/\SqT K H p xs/\atI xs i=some v/\Q v H
noncomputable def w8:R2:=fun x y H Q=> ∃ z i c,x=.str z/\y=.int i/\z.length<=sizeLine/\atI z.cps.toList i=some c/\Q (.str ⟨#[c]⟩) H
theorem bn:IxR X (vY X.K):=by
 intro value slice pins s σ H x y v u Q I rx ry h hs
 obtain ⟨p,xs,i,z,rfl,rfl,hq,he,q⟩:=h
 cases rx
 obtain ⟨t,rfl⟩:=ry
 obtain ⟨its,r,pl,hz⟩:=I.list hq
 obtain ⟨j,h1,h2,h3,h4,h5⟩:=kE he
 obtain ⟨w,ew,rw'⟩:=r.get h2
 have hl:=r.length
 have hn:=fH
 have fin:EP X pins σ Q w s:=⟨z,H,I,rw',q⟩
 by_cases h0:0<=i
 ·have hj:i.toNat=j:=by
   rw [seqIndex_of h0 h5]at h1
   exact Option.some.inj h1
  exact item_listR pl.isList h0 (by omega) (by rw [hj];simpa using ew) fin hs
 ·have hj:(i+ (its.toArray.size:Int)).toNat=j:=by
   rw [seqIndex_neg (by omega) h4]at h1
   rw [List.size_toArray,<- hl]
   exact Option.some.inj h1
  exact subscriptTail_builtinR (x:=w) pl.isList.typeIs slot_list_getitem.lookup
   (wpAny_getItem_list_neg (Q:=fun r s'=>r=w/\EP X pins σ Q r s') pl.isList (by omega) (by rw [List.size_toArray] <;> omega) (by omega) (by rw [hj];simpa using ew) ⟨rfl,fin⟩) hs
theorem aq:IxR X (gJ X.K):=by
 intro value slice pins s σ H x y v u Q I rx ry h hs
 obtain ⟨p,xs,i,z,rfl,rfl,hq,he,q⟩:=h
 cases rx
 obtain ⟨t,rfl⟩:=ry
 obtain ⟨its,r,pl,hz⟩:=I.tuple hq
 obtain ⟨j,h1,h2,h3,h4,h5⟩:=kE he
 obtain ⟨w,ew,rw'⟩:=r.get h2
 have hl:=r.length
 have hn:=fH
 have fin:EP X pins σ Q w s:=⟨z,H,I,rw',q⟩
 exact subscriptTail_builtinR (x:=w) pl.typeIs slot_tuple_getitem.lookup
  (getItem_tuple (j:=j) (Q:=fun r s'=>r=w/\EP X pins σ Q r s') pl (by omega) (by omega) (by rw [List.size_toArray,<- hl];exact h1) (by simpa using ew) ⟨rfl,fin⟩) hs
theorem nX:IxR X w8:=by
 intro value slice pins s σ H x y v u Q I rx ry h hs
 obtain ⟨z,i,c,rfl,rfl,hz,he,q⟩:=h
 obtain ⟨t,rfl⟩:=rx
 obtain ⟨t',rfl⟩:=ry
 obtain ⟨j,h1,h2,h3,h4,h5⟩:=kE he
 have hl:z.cps.toList.length=z.length:=by simp [Str.length]
 rw [hl]at h1 h4 h5
 have hn:=fH
 exact tail_any (typeIs_str s z t) slot_str_getitem.lookup (getItem_str (c:=c) (by
  have e1:decide (i< -(2^63:Int))=false:=decide_eq_false (by omega)
  have e2:decide (i≥2^63)=false:=decide_eq_false (by omega)
  rw [e1,e2,Bool.or_false]) (by rw [h1];simpa using h2) ⟨.str ⟨#[c]⟩,H,I.tok _,⟨_,rfl⟩,q⟩) hs
theorem nU (its:List Value) (n j:Nat) (u:Value):Obj.mapSeq (·.setIfInBounds j u) {cls:=.type "list",data:=.seq its.toArray n}={cls:=.type "list",data:=.seq (its.set j u).toArray n}:=by
 simp [Obj.mapSeq]
theorem Inv.lst {pins:List (Addr×Obj)} {σ:St} {H:Hp} {s:Shared} {p:Addr} {xs:List V} (I:Inv X pins σ H s) (h:H p=some (.lst xs)):
  ∃ (its:List Value) (n:Nat),Vals xs its/\s.heap.get? p=some {cls:=.type "list",data:=.seq its.toArray n}/\xs.length<=sizeLine:=by
 obtain ⟨z,its,n,r,e⟩:=I.hok p _ h
 exact ⟨its,n,r,e,z⟩
theorem Inv.lstUpd {pins:List (Addr×Obj)} {σ:St} {H:Hp} {s:Shared} {p:Addr} {xs ys:List V} {its its':List Value} {n n':Nat} {f:Obj->Obj} (I:Inv X pins σ H s) (h:H p=some (.lst xs))
  (ho:s.heap.get? p=some {cls:=.type "list",data:=.seq its.toArray n}) (hf:f {cls:=.type "list",data:=.seq its.toArray n}={cls:=.type "list",data:=.seq its'.toArray n'}) (r:Vals ys its') (hz:ys.length<=sizeLine) (t:Nat):
  Inv X pins σ (upd H p (.lst ys)) {s with heap:=s.heap.update p f,toks:=t}:=by
 have e:(s.heap.update p f).get? p=some {cls:=.type "list",data:=.seq its'.toArray n'}:=by
  rw [Heap.get?_update_self f ho (by rw [hf] <;> rfl),hf]
 refine I.write (x:=p) (e:=p) (by rw [h];trivial) (.inl rfl) (fun b u hb q=>(Heap.get?_update_other _ _ (Ne.symm hb)).trans q) ⟨_,e⟩ ?_
 exact ⟨hz,its',n',r,e⟩
noncomputable def vX:V->V->V->Hp->(Hp->Prop)->Prop:=fun o i v H Q=> ∃ p xs k j,o=.ref p/\i=.int k/\H p=some (.lst xs)/\ixN xs.length k=some j/\Q (upd H p (.lst (xs.set j v)))
theorem iB:wI X vX:=by
 intro pins s σ H o i v ov iv u Q I ro ri rv h
 obtain ⟨p,xs,k,j,rfl,rfl,hp,hj,q⟩:=h
 cases ro
 obtain ⟨t,rfl⟩:=ri
 obtain ⟨its,n,r,ho,hz⟩:=I.lst hp
 obtain ⟨h1,h2,h3,h4⟩:=oQ hj
 have hl:=r.length
 have hn:=fH
 have I':Inv X pins σ (upd H p (.lst (xs.set j v))) {s with heap:=s.heap.update p (Obj.mapSeq (·.setIfInBounds j u))}:=
  I.lstUpd hp ho (nU its n j u) (r.set rv j) (by rw [List.length_set];exact hz) s.toks
 by_cases h0:0<=k
 ·have hk:k.toNat=j:=by
   rw [seqIndex_of h0 h4]at h1
   exact Option.some.inj h1
  exact PySem.W.ki_setAt ho h0 (by omega) (by rw [List.size_toArray,<- hl];exact h4) (by rw [hk];exact ⟨_,I',q⟩)
 ·have hk:(k+ (its.toArray.size:Int)).toNat=j:=by
   rw [seqIndex_neg (by omega) h3]at h1
   rw [List.size_toArray,<- hl]
   exact Option.some.inj h1
  exact PySem.W.ki_setBack ho (by omega) (by rw [List.size_toArray,<- hl];exact h3) (by omega) (by rw [hk];exact ⟨_,I',q⟩)
theorem jO (lo hi:Option Int) (n:Nat):(sliceBounds lo hi none n).1=((HT.sIx n 0 lo:Nat):Int)/\(sliceBounds lo hi none n).2.1=((HT.sIx n n hi:Nat):Int)/\(sliceBounds lo hi none n).2.2=1:=by
 refine ⟨?_,?_,rfl⟩
 ·cases lo with
  | none=>simp [sliceBounds,HT.sIx]
  | some i=>
   simp only [sliceBounds,HT.sIx,Option.getD_none,show (1:Int) >0 by decide,if_true]
   by_cases h:i<0
   ·simp only [h,if_true] <;> omega
   ·simp only [h,if_false] <;> omega
 ·cases hi with
  | none=>simp [sliceBounds,HT.sIx]
  | some i=>
   simp only [sliceBounds,HT.sIx,Option.getD_none,show (1:Int) >0 by decide,if_true]
   by_cases h:i<0
   ·simp only [h,if_true] <;> omega
   ·simp only [h,if_false] <;> omega
theorem jk (its:List Value) (lo hi:Option Int):slicePick its.toArray lo hi none=((its.drop (HT.sIx its.length 0 lo)).take (HT.sIx its.length its.length hi-HT.sIx its.length 0 lo)).toArray:=by
 obtain ⟨h1,h2,h3⟩:=jO lo hi its.toArray.size
 unfold slicePick
 rw [h1,h2,h3]
 simp only [sliceRange_one,pick_run,List.size_toArray] <;> rfl
noncomputable def wY (K:PySem.W.Frag):V->Option Int->Option Int->Hp->VK->Prop:=fun x lo hi H Q=> ∃ a xs,x=.ref a/\SqL K H a xs/\ ∀ p,H p=none->Q (.ref p) (upd H p (.lst (dW xs lo hi)))
theorem ic:SlR X (wY X.K):=by
 intro pins s σ H x v vl vu lo hi sl Q I rx hs pl pu h
 obtain ⟨a,xs,rfl,hx,q⟩:=h
 cases rx
 obtain ⟨its,r,ht,hz⟩:=I.list hx
 have hlen:=r.length
 refine ⟨"list",_,slot_list_getitem.lookup,ht.isList.typeIs,?_⟩
 refine wpAny_getItem_list_slice ht.isList hs pl pu .none (by simp) ?_ (by rw [List.size_toArray] <;> omega)
 rw [jk,<- hlen]
 refine ⟨.ref s.heap.objs.size,_,I.laid (t':=s.toks) (o:=.lst (dW xs lo hi)) (fun b ob q=>Heap.get?_push_of_some _ q) (Nat.le_refl _) ?_,rfl,q _ (I.hok.fresh (Nat.le_refl _))⟩
 exact ⟨Nat.le_trans (h9 xs lo hi) hz,_,0,(r.drop (HT.sIx xs.length 0 lo)).take (HT.sIx xs.length xs.length hi-HT.sIx xs.length 0 lo),Heap.get?_push_size _ rfl⟩
noncomputable def eB:V->Bool
 | .non=>true
 | .bl _=>true
 | .int _=>true
 | .str _=>true
 | _=>false
noncomputable def eqV:V->V->Bool
 | .non,.non=>true
 | .bl a,.bl b=>a==b
 | .bl a,.int b=>(if a then 1 else 0)==b
 | .int a,.bl b=>a==(if b then 1 else 0)
 | .int a,.int b=>a==b
 | .str a,.str b=>a==b
 | _,_=>false
theorem vv {A:Around} {s:Shared} {y x:V} {u v:Value} (ry:RelV y u) (rx:RelV x v) (fy:eB y=true) (fx:eB x=true):SeqAt.EqAt A s u v (eqV y x):=by
 cases y with
 | non=>
  cases ry
  cases x with
  | non=>cases rx;exact SeqAt.EqAt.same _
  | bl b=>cases rx;exact SeqAt.EqAt.none_bool b
  | int b=>obtain ⟨t,rfl⟩:=rx;exact SeqAt.EqAt.none_int b t
  | str b=>obtain ⟨t,rfl⟩:=rx;exact SeqAt.EqAt.none_str b t
  | _=>exact absurd (show false=true from fx) Bool.false_ne_true
 | bl a=>
  cases ry
  cases x with
  | non=>cases rx;exact SeqAt.EqAt.bool_none a
  | bl b=>cases rx;exact SeqAt.EqAt.bool_bool a b
  | int b=>obtain ⟨t,rfl⟩:=rx;exact SeqAt.EqAt.bool_int a b t
  | str b=>obtain ⟨t,rfl⟩:=rx;exact SeqAt.EqAt.bool_str a b t
  | _=>exact absurd (show false=true from fx) Bool.false_ne_true
 | int a=>
  obtain ⟨t',rfl⟩:=ry
  cases x with
  | non=>cases rx;exact SeqAt.EqAt.int_none a t'
  | bl b=>cases rx;exact SeqAt.EqAt.int_bool a t' b
  | int b=>obtain ⟨t,rfl⟩:=rx;exact SeqAt.EqAt.int_int a t' b t
  | str b=>obtain ⟨t,rfl⟩:=rx;exact SeqAt.EqAt.int_str a t' b t
  | _=>exact absurd (show false=true from fx) Bool.false_ne_true
 | str a=>
  obtain ⟨t',rfl⟩:=ry
  cases x with
  | non=>cases rx;exact SeqAt.EqAt.str_none a t'
  | bl b=>cases rx;exact SeqAt.EqAt.str_bool a t' b
  | int b=>obtain ⟨t,rfl⟩:=rx;exact SeqAt.EqAt.str_int a t' b t
  | str b=>obtain ⟨t,rfl⟩:=rx;exact SeqAt.EqAt.str_str a t' b t
  | _=>exact absurd (show false=true from fx) Bool.false_ne_true
 | _=>exact absurd (show false=true from fy) Bool.false_ne_true
noncomputable def eqU (x:V) (u:Value):Bool:=match u with
 | .none=>eqV .non x
 | .bool b=>eqV (.bl b) x
 | .int i _=>eqV (.int i) x
 | .str z _=>eqV (.str z) x
 | _=>false
theorem sT {x y:V} {u:Value} (r:RelV y u) (f:eB y=true):eqU x u=eqV y x:=by
 cases y with
 | non=>cases r;rfl
 | bl b=>cases r;rfl
 | int i=>obtain ⟨t,rfl⟩:=r;rfl
 | str z=>obtain ⟨t,rfl⟩:=r;rfl
 | _=>exact absurd (show false=true from f) Bool.false_ne_true
theorem gk {x:V}: ∀ {xs:List V} {us:List Value},Vals xs us->xs.all eB=true->us.any (eqU x)=xs.any fun y=>eqV y x
 | _,_,.nil,_=>rfl
 | y::xs,u::us,.cons r t,f=>by
  rw [List.all_cons,Bool.and_eq_true]at f
  rw [List.any_cons,List.any_cons,sT r f.1,gk t f.2]
theorem eU {A:Around} {s:Shared} {x:V} {v:Value} (rx:RelV x v) (fx:eB x=true): ∀ {xs:List V} {us:List Value},Vals xs us->xs.all eB=true-> ∀ u∈us,SeqAt.EqAt A s u v (eqU x u)
 | _,_,.nil,_=>fun u hu=>by cases hu
 | y::xs,u::us,.cons r t,f=>fun u' hu=>by
  rw [List.all_cons,Bool.and_eq_true]at f
  rcases List.mem_cons.mp hu with rfl | hu
  ·rw [sT r f.1];exact vv r rx f.1 fx
  ·exact eU rx fx t f.2 u' hu
noncomputable def inV (x:V) (xs:List V):Bool:=xs.any fun y=>eqV y x
noncomputable def rIn (K:PySem.W.Frag) (neg:Bool):R2:=fun x y H Q=> ∃ p xs,y=.ref p/\(SqL K H p xs\/SqT K H p xs)/\eB x=true/\xs.all eB=true/\Q (.bl (if neg then !inV x xs else inV x xs)) H
theorem cN:OpR X (compareOp .In) (rIn X.K false):=by
 intro pins s σ H x y v u Q I rx ry h
 obtain ⟨p,xs,rfl,hq,fx,fs,q⟩:=h
 cases ry
 rcases hq with hq | hq
 ·obtain ⟨its,r,pl,hz⟩:=I.list hq
  refine SeqAt.in_listAt (eqU x) pl.isList (fun w hw=>eU rx fx r fs w (by simpa using hw)) ⟨.bl _,H,I,rfl,?_⟩
  rw [show its.toArray.any (eqU x)=its.any (eqU x) by simp,gk r fs]
  exact q
 ·obtain ⟨its,r,pl,hz⟩:=I.tuple hq
  refine SeqAt.in_tupleAt (eqU x) pl (fun w hw=>eU rx fx r fs w (by simpa using hw)) ⟨.bl _,H,I,rfl,?_⟩
  rw [show its.toArray.any (eqU x)=its.any (eqU x) by simp,gk r fs]
  exact q
theorem fX:OpR X (compareOp .NotIn) (rIn X.K true):=by
 intro pins s σ H x y v u Q I rx ry h
 obtain ⟨p,xs,rfl,hq,fx,fs,q⟩:=h
 cases ry
 rcases hq with hq | hq
 ·obtain ⟨its,r,pl,hz⟩:=I.list hq
  refine SeqAt.notIn_listAt (eqU x) pl.isList (fun w hw=>eU rx fx r fs w (by simpa using hw)) ⟨.bl _,H,I,rfl,?_⟩
  rw [show its.toArray.any (eqU x)=its.any (eqU x) by simp,gk r fs]
  exact q
 ·obtain ⟨its,r,pl,hz⟩:=I.tuple hq
  refine SeqAt.notIn_tupleAt (eqU x) pl (fun w hw=>eU rx fx r fs w (by simpa using hw)) ⟨.bl _,H,I,rfl,?_⟩
  rw [show its.toArray.any (eqU x)=its.any (eqU x) by simp,gk r fs]
  exact q
theorem aA:cU X (.builtin "len") (fun xs H Q=> ∃ p ys,xs=[.ref p]/\(SqL X.K H p ys\/SqT X.K H p ys)/\Q (.int ys.length) H):=by
 intro pins s σ H xs us Q I r h
 obtain ⟨p,ys,rfl,hq,q⟩:=h
 obtain ⟨u,rfl,rx⟩:=fj r
 cases rx
 have hn:=fH
 rcases hq with hq | hq
 ·obtain ⟨its,r',pl,hz⟩:=I.list hq
  have hlen:=r'.length
  exact Calls.call_len_list pl.isList (by simp only [List.size_toArray] <;> omega) ⟨.int ys.length,H,I.tok _,⟨s.toks+1,by rw [List.size_toArray,hlen]⟩,q⟩
 ·obtain ⟨its,r',pl,hz⟩:=I.tuple hq
  have hlen:=r'.length
  exact len_tuple pl (by simp only [List.size_toArray] <;> omega) ⟨.int ys.length,H,I.tok _,⟨s.toks+1,by rw [List.size_toArray,hlen]⟩,q⟩
theorem gj:cU X (.builtin "len") (fun xs H Q=> ∃ z,xs=[.str z]/\z.length<=sizeLine/\Q (.int z.length) H):=by
 intro pins s σ H xs us Q I r h
 obtain ⟨z,rfl,hz,q⟩:=h
 obtain ⟨u,rfl,t,rfl⟩:=fj r
 have hn:=fH
 exact len_str (by omega) ⟨.int z.length,H,I.tok _,⟨_,rfl⟩,q⟩
theorem el:cU X (.type "list") (fun xs H Q=> ∃ p ys,xs=[.ref p]/\(SqL X.K H p ys\/SqT X.K H p ys)/\ ∀ l,H l=none->Q (.ref l) (upd H l (.lst ys))):=by
 intro pins s σ H xs us Q I r h
 obtain ⟨p,ys,rfl,hq,q⟩:=h
 obtain ⟨u,rfl,rx⟩:=fj r
 cases rx
 have fin: ∀ (its:List Value),Vals ys its->ys.length<=sizeLine-> ∀ (h':Heap) (c':Nat),(∀ b o',s.heap.get? b=some o'->h'.get? b=some o')->
   h'.get? s.heap.objs.size=some {cls:=.type "list",dict:=none,data:=.seq its.toArray c',slots:= #[]}->EP X pins σ Q (.ref s.heap.objs.size) {s with heap:=h'}:=fun its r' hz h' c' kp e=>
  ⟨.ref s.heap.objs.size,_,I.laid (t':=s.toks) kp (Nat.le_refl _) (show ObjOk X.prog X.w _ h' _ (.lst ys)from ⟨hz,its,c',r',e⟩),rfl,q _ (I.hok.fresh (Nat.le_refl _))⟩
 rcases hq with hq | hq
 ·obtain ⟨its,r',pl,hz⟩:=I.list hq
  have hlen:=r'.length
  obtain ⟨o,ho,hc,n,hd⟩:=pl.isList
  exact call_list_seq p (.inl rfl) ho hc hd (fun h' c' kp e=>fin its r' hz h' c' kp e) (by simp only [List.size_toArray] <;> omega)
 ·obtain ⟨its,r',pl,hz⟩:=I.tuple hq
  have hlen:=r'.length
  obtain ⟨o,ho,hc,n,hd⟩:=pl
  exact call_list_seq p (.inr rfl) ho hc hd (fun h' c' kp e=>fin its r' hz h' c' kp e) (by simp only [List.size_toArray] <;> omega)
theorem bt:cU X (.type "tuple") (fun xs H Q=> ∃ p ys,xs=[.ref p]/\((SqL X.K H p ys/\ ∀ l,H l=none->Q (.ref l) (upd H l (.tup ys)))\/(SqT X.K H p ys/\Q (.ref p) H))):=by
 intro pins s σ H xs us Q I r h
 obtain ⟨p,ys,rfl,h⟩:=h
 obtain ⟨u,rfl,rx⟩:=fj r
 cases rx
 rcases h with ⟨hq,q⟩ | ⟨hq,q⟩
 ·obtain ⟨its,r',pl,hz⟩:=I.list hq
  have hlen:=r'.length
  refine call_tuple_list pl.isList (fun h' kp=>?_) (by simp only [List.size_toArray] <;> omega)
  have I1:Inv X pins σ H {s with heap:=h'}:=I.kept (t':=s.toks) kp
  have I2:Inv X pins σ (upd H h'.objs.size (.tup ys)) {s with heap:=h'.push {cls:=.type "tuple",data:=.seq its.toArray}}:=
   I1.laid (t':=s.toks) (fun b o e=>Heap.get?_push_of_some _ e) (Nat.le_refl _) (show ObjOk X.prog X.w _ _ _ (.tup ys)from ⟨hz,its,r',IsTup.new _ _⟩)
  exact ⟨.ref h'.objs.size,_,I2,rfl,q _ (I1.hok.fresh (Nat.le_refl _))⟩
 ·obtain ⟨its,r',pl,hz⟩:=I.tuple hq
  exact call_tuple_same pl ⟨.ref p,H,I,rfl,q⟩
noncomputable def tyV (K:PySem.W.Frag) (T:String) (x:V) (H:Hp):Prop:=match x with
 | .str _=>T="str"
 | .int _=>T="int"
 | .ref p=>(T="list"/\ ∃ xs,SqL K H p xs)\/(T="tuple"/\ ∃ o,K.lookup p=some o/\o.cls=.type "tuple"/\o.dict=none)\/
   (T="dict"/\((∃ kvs,H p=some (.dK kvs))\/ ∃ kvs,H p=some (.dT kvs)))\/(T="set"/\ ∃ S n,H p=some (.set S n))
 | _=>False
theorem qI {pins:List (Addr×Obj)} {σ:St} {H:Hp} {s:Shared} {T:String} {x:V} {v:Value} (I:Inv X pins σ H s) (r:RelV x v) (ty:tyV X.K T x H):
  s.TypeIs v T/\ ∀ a,v=.ref a-> ∃ ob,s.heap.get? a=some ob/\ob.dict=none:=by
 cases x with
 | str z=>
  obtain ⟨t,rfl⟩:=r
  cases (show T="str" from ty)
  exact ⟨typeIs_str s z t,fun _ e=>nomatch e⟩
 | int i=>
  obtain ⟨t,rfl⟩:=r
  cases (show T="int" from ty)
  exact ⟨typeIs_int s i t,fun _ e=>nomatch e⟩
 | ref p=>
  cases r
  rcases ty with ⟨rfl,xs,hq⟩ | ⟨rfl,o,hk,hc,hd⟩ | ⟨rfl,hk⟩ | ⟨rfl,S,n,hk⟩
  ·obtain ⟨its,_,pl,_⟩:=I.list hq
   refine ⟨pl.isList.typeIs,fun a e=>?_⟩
   cases e
   obtain ⟨o,n,e,c,hd,_⟩:=pl
   exact ⟨o,e,hd⟩
  ·refine ⟨⟨o,I.kIn p o hk,hc⟩,fun a e=>?_⟩
   cases e
   exact ⟨o,I.kIn _ o hk,hd⟩
  ·have z: ∃ o,s.heap.get? p=some o/\o.ExactDict:=by
    rcases hk with ⟨kvs,hk⟩ | ⟨kvs,hk⟩
    ·obtain ⟨_,_,_,_,o,_,_,e,ex,_⟩:=I.hok p _ hk
     exact ⟨o,e,ex⟩
    ·obtain ⟨_,_,_,_,o,_,_,e,ex,_⟩:=I.hok p _ hk
     exact ⟨o,e,ex⟩
   obtain ⟨o,e,ex⟩:=z
   refine ⟨⟨o,e,ex.1⟩,fun a e2=>?_⟩
   cases e2
   exact ⟨o,e,ex.2.1⟩
  ·obtain ⟨o,_,_,_,e,ex,_⟩:=I.hok p _ hk
   refine ⟨⟨o,e,ex.1⟩,fun a e2=>?_⟩
   cases e2
   exact ⟨o,e,ex.2.1⟩
 | _=>exact False.elim ty
noncomputable def wS (K:PySem.W.Frag) (T:String) (r:V->List V->Hp->VK->Prop) (to:TE):TE:=fun σ H Q=>to σ H fun x H1=>tyV K T x H1/\r x [] H1 Q
noncomputable def tBM (K:PySem.W.Frag) (T:String) (r:V->List V->Hp->VK->Prop) (to:TE) (t:TA):TE:=fun σ H Q=>to σ H fun x H1=>tyV K T x H1/\t σ H1 fun xs H2=>r x xs H2 Q
variable {o e:Expr} {es:List Expr} {to:TE} {t:TA} {name:Str} {apos cpos:Pos} {T id:String} {r:V->List V->Hp->VK->Prop}
theorem nC (pa:PlainAttrs T) (slot:Slot T name id) (hty:typeOf (.builtin id)=pure (.type "method_descriptor")) (hm:MtR X id r) (ho:PE X o to)
  (hbase:attributeBase o name X.env (eval o X.env)=eval o X.env:=by rfl) (hline:(apos.endLine==cpos.line)=true:=by rfl):PE X (.Call (.Attribute o name apos) [] [] cpos) (wS X.K T r to):=by
 intro pins s σ H Q I h
 refine wpAny_Call_method0_late hbase hline (thn (ho pins s σ H _ I h) fun v s1 ⟨x,H1,I1,r1,ty,q1⟩=>?_)
 obtain ⟨h1,h2⟩:=qI I1 r1 ty
 exact ⟨T,id,pa,slot,hty,h1,h2,Calls.callWith_builtin rfl (PySem.evalArgs_none (hm pins s1 σ H1 x [] v [] Q I1 r1 .nil q1))⟩
theorem eA (pa:PlainAttrs T) (slot:Slot T name id) (hty:typeOf (.builtin id)=pure (.type "method_descriptor")) (hm:MtR X id r) (ho:PE X o to) (ha:PA X (e::es) t)
  (hbase:attributeBase o name X.env (eval o X.env)=eval o X.env:=by rfl)
  (hfew:((backTo cpos (starEach (e::es) X.env)).all (fun x=> !x.1)&&(backToKw cpos (keywordEach [] X.env)).all (fun x=>x.1.isSome)
   &&decide ((e::es).length+ ([]:List Keyword).length+ (if ([]:List Keyword).isEmpty then 0 else 1) <30))=true:=by rfl)
  (hline:(apos.endLine==cpos.line)=true:=by rfl) (hs:starEach (e::es) X.env=(false,eval e X.env)::starEach es X.env:=by rfl) (hplain:(backTo cpos (starEach es X.env)).any (·.1)=false:=by rfl):
  PE X (.Call (.Attribute o name apos) (e::es) [] cpos) (tBM X.K T r to t):=by
 intro pins s σ H Q I h
 refine wpAny_Call_method_late hbase hfew hline rfl (thn (ho pins s σ H _ I h) fun v s1 ⟨x,H1,I1,r1,ty,q1⟩=>?_)
 obtain ⟨h1,h2⟩:=qI I1 r1 ty
 refine ⟨T,id,pa,slot,hty,h1,h2,?_⟩
 have hA:=ha cpos pins s1 σ H1 _ I1 q1
 rw [hs]at hA ⊢
 refine Calls.callWith_builtin (by show (false||(backTo cpos (starEach es X.env)).any (·.1))=false;rw [hplain] <;> rfl) (Calls.evalArgs_plain ?_)
 exact thn hA fun us s2 ⟨vs,H2,I2,r2,q2⟩=>hm pins s2 σ H2 x vs v us Q I2 r1 r2 q2
end
noncomputable def MtM (X:Cx) (id:String) (r:V->List V->Hp->VK->Prop):Prop:=
 ∀ (pins:List (Addr×Obj)) (s:Shared) (σ:St) (H:Hp) (x:V) (xs:List V) (v:Value) (us:List Value) (Q:VK),Inv X pins σ H s->RelV x v->Vals xs us->r x xs H Q->
  wpAny (model X.prog X.w) X.A (call (.builtin id) (v::us)) (EP X pins σ Q) X.xe s
theorem Vals.one: ∀ {x:V} {us:List Value},Vals [x] us-> ∃ u,us=[u]/\RelV x u
 | _,_,.cons r .nil=>⟨_,rfl,r⟩
theorem Vals.two: ∀ {x y:V} {us:List Value},Vals [x,y] us-> ∃ u v,us=[u,v]/\RelV x u/\RelV y v
 | _,_,_,.cons r (.cons q .nil)=>⟨_,_,rfl,r,q⟩
theorem Vals.zero: ∀ {us:List Value},Vals [] us->us=[]
 | _,.nil=>rfl
theorem Vals.dropLast {xs:List V} {us:List Value} (h:Vals xs us):Vals xs.dropLast us.dropLast:=by
 induction h with
 | nil=>exact .nil
 | cons r t ih=>
  cases t with
  | nil=>exact .nil
  | cons q t'=>exact .cons r ih
theorem n4 {α:Type} (l:List α):l.eraseIdx (l.length-1)=l.dropLast:=by
 induction l with
 | nil=>rfl
 | cons a r ih=>
  cases r with
  | nil=>rfl
  | cons b r=>
   have e:(a::b::r).length-1=((b::r).length-1) +1:=by
    have h1:(a::b::r).length=r.length+2:=rfl
    have h2:(b::r).length=r.length+1:=rfl
    omega
   rw [e,List.eraseIdx_cons_succ,ih]
   all_goals rfl
section
variable {X:Cx} {pins:List (Addr×Obj)} {σ:St} {H:Hp} {s:Shared} {l b:Addr} {xs ys zs:List V}
theorem Inv.lset {its its':List Value} {n:Nat} {f:Array Value->Array Value} {t':Nat} (I:Inv X pins σ H s) (hH:H l=some (.lst xs))
  (e:s.heap.get? l=some {cls:=.type "list",data:=.seq its.toArray n}) (hf:f its.toArray=its'.toArray) (hv:Vals ys its') (hz:ys.length<=sizeLine):
  Inv X pins σ (upd H l (.lst ys)) {s with heap:=s.heap.update l (Obj.mapSeq f),toks:=t'}:=by
 have q:=PySem.IsL.update e f
 rw [hf]at q
 refine I.write (x:=l) (e:=l) (by rw [hH];exact trivial) (.inl rfl) (fun b' u hb hu=>(Heap.get?_update_other s.heap (Obj.mapSeq f) (Ne.symm hb)).trans hu) ⟨_,q⟩ ?_
 exact ⟨hz,its',_,hv,q⟩
theorem Inv.lnew {its:List Value} {t':Nat} (I:Inv X pins σ H s) (hv:Vals ys its) (hz:ys.length<=sizeLine):
  Inv X pins σ (upd H s.heap.objs.size (.lst ys)) {s with heap:=s.heap.push {cls:=.type "list",data:=.seq its.toArray},toks:=t'}:=
 I.laid (fun _ _ q=>Heap.get?_push_of_some _ q) (Nat.le_refl _) ⟨hz,its,0,hv,Heap.get?_push_size _ rfl⟩
theorem Inv.fresh (I:Inv X pins σ H s):H s.heap.objs.size=none:=I.hok.fresh (Nat.le_refl _)
theorem Inv.lstM (I:Inv X pins σ H s) (hH:H l=some (.lst xs)):xs.length<=sizeLine/\ ∃ (its:List Value) (n:Nat),Vals xs its/\xs.length=its.length/\s.heap.get? l=some {cls:=.type "list",data:=.seq its.toArray n}:=by
 obtain ⟨z,its,n,r,e⟩:=I.hok l _ hH
 exact ⟨z,its,n,r,r.length,e⟩
theorem lV {n:Nat} (h:n<=sizeLine):Builtin.List.listTooLong n=false:=by
 unfold Builtin.List.listTooLong
 exact decide_eq_false (by omega)
end
section
variable {X:Cx}
noncomputable def tO:V->List V->Hp->VK->Prop:=fun x vs H Q=> ∃ l xs y,x=.ref l/\vs=[y]/\H l=some (.lst xs)/\xs.length<sizeLine/\Q .non (upd H l (.lst (xs++[y])))
theorem cr:MtM X "list.append" tO:=by
 intro pins s σ H x vs v us Q I rx rv h
 obtain ⟨l,xs,y,rfl,rfl,hH,hz,q⟩:=h
 cases rx
 obtain ⟨u,rfl,ru⟩:=rv.one
 obtain ⟨z,its,n,r,hl,e⟩:=I.lstM hH
 refine call_meets F.slot_list_append ⟨_,e,rfl⟩ F.entry_list_append (F.args_list_append_2 _ _) (PySem.list_append l its.toArray n u (by rw [List.size_toArray];omega)) ⟨e,?_⟩
 refine ⟨.non,_,I.lset (its':=its++[u]) hH e (by simp) (r.append (.cons ru .nil)) ?_,rfl,q⟩
 rw [List.length_append,List.length_singleton]
 omega
noncomputable def tM:V->List V->Hp->VK->Prop:=fun x vs H Q=> ∃ l b xs zs,x=.ref l/\vs=[.ref b]/\H l=some (.lst xs)/\H b=some (.lst zs)/\xs.length+zs.length<=sizeLine/\Q .non (upd H l (.lst (xs++zs)))
theorem gM:MtM X "list.extend" tM:=by
 intro pins s σ H x vs v us Q I rx rv h
 obtain ⟨l,b,xs,zs,rfl,rfl,hH,hB,hz,q⟩:=h
 cases rx
 obtain ⟨u,rfl,ru⟩:=rv.one
 cases ru
 obtain ⟨z,its,n,r,hl,e⟩:=I.lstM hH
 obtain ⟨z2,its2,n2,r2,hl2,e2⟩:=I.lstM hB
 have hsz:its.toArray.size+its2.toArray.size<=sizeLine:=by rw [List.size_toArray,List.size_toArray];omega
 have hlong: ¬ (!its.toArray.isEmpty&&Builtin.List.listTooLong (its.toArray.size+its2.toArray.size))=true:=by
  rw [lV hsz,Bool.and_false]
  exact Bool.false_ne_true
 refine call_meets F.slot_list_extend ⟨_,e,rfl⟩ F.entry_list_extend (F.args_list_extend_2 _ _)
  (AutoSeq1.list_extend_list_list_0 l its.toArray n b its2.toArray n2 hlong (by rw [List.size_toArray];omega) (by omega)) ⟨e,e2,?_⟩
 refine ⟨.non,_,I.lset (its':=its++its2) hH e (by simp) (r.append r2) ?_,rfl,q⟩
 rw [List.length_append]
 omega
noncomputable def w4:V->List V->Hp->VK->Prop:=fun x vs H Q=> ∃ l xs y,x=.ref l/\vs=[]/\H l=some (.lst xs)/\xs[xs.length-1]? =some y/\Q y (upd H l (.lst xs.dropLast))
theorem nT:MtM X "list.pop" w4:=by
 intro pins s σ H x vs v us Q I rx rv h
 obtain ⟨l,xs,y,rfl,rfl,hH,hy,q⟩:=h
 cases rx
 have hus:=rv.zero
 subst hus
 obtain ⟨z,its,n,r,hl,e⟩:=I.lstM hH
 obtain ⟨u,hu,ru⟩:=r.get hy
 have hy':its.toArray[its.toArray.size-1]? =some u:=by
  show its.toArray[its.length-1]? =some u
  rw [<- Array.getElem?_toList,<- hl]
  exact hu
 refine call_meets F.slot_list_pop ⟨_,e,rfl⟩ F.entry_list_pop (F.args_list_pop_1 _) (MeetsSeq.list_pop_last l its.toArray n u hy' (by rw [List.size_toArray];omega)) ⟨e,?_⟩
 refine ⟨y,_,I.lset (its':=its.dropLast) hH e ?_ r.dropLast ?_,ru,q⟩
 ·show its.toArray.eraseIdxIfInBounds (its.toArray.size-1)=its.dropLast.toArray
  rw [List.size_toArray,List.eraseIdxIfInBounds_toArray,n4]
 ·rw [List.length_dropLast]
  omega
noncomputable def xb:R2:=fun x y H Q=> ∃ l b xs zs,x=.ref l/\y=.ref b/\H l=some (.lst xs)/\H b=some (.lst zs)/\xs.length+zs.length<=sizeLine/\ ∀ p,H p=none->Q (.ref p) (upd H p (.lst (xs++zs)))
theorem iU:OpR X (binaryOp .Add) xb:=by
 intro pins s σ H x y v u Q I rx ry h
 obtain ⟨l,b,xs,zs,rfl,rfl,hH,hB,hz,q⟩:=h
 cases rx
 cases ry
 obtain ⟨z,its,n,r,hl,e⟩:=I.lstM hH
 obtain ⟨z2,its2,n2,r2,hl2,e2⟩:=I.lstM hB
 refine PySem.P.add_list e e2 ?_ (by rw [List.size_toArray,List.size_toArray];omega)
 have ea:its.toArray++its2.toArray=(its++its2).toArray:=by simp
 rw [ea]
 exact ⟨.ref _,_,I.lnew (t':=s.toks) (r.append r2) (by rw [List.length_append];omega),rfl,q _ I.fresh⟩
end
section
variable {κ:Type} [DecidableEq κ]
noncomputable def cT (kvs:List (κ×V)) (k:κ):Option V:=(kvs.find? fun kv=>decide (kv.1=k)).map (·.2)
noncomputable def c7 (kvs:List (κ×V)) (k:κ) (v:V):List (κ×V):=
 if (kvs.any fun kv=>decide (kv.1=k))=true then kvs.map (fun kv=>if kv.1=k then (kv.1,v)else kv)else kvs++[(k,v)]
theorem qH {k:κ}:cT ([]:List (κ×V)) k=none:=rfl
theorem cb {p:κ×V} {r:List (κ×V)} {k:κ} (e:p.1=k):cT (p::r) k=some p.2:=by simp [cT,List.find?_cons,e]
theorem a6 {p:κ×V} {r:List (κ×V)} {k:κ} (e: ¬ p.1=k):cT (p::r) k=cT r k:=by simp [cT,List.find?_cons,e]
theorem eE (k:κ): ∀ kvs:List (κ×V),(kvs.any fun kv=>decide (kv.1=k))=(cT kvs k).isSome
 | []=>rfl
 | p::r=>by
  rw [List.any_cons]
  by_cases e:p.1=k
  ·simp only [cb e,decide_eq_true e,Bool.true_or,Option.isSome_some]
  ·rw [a6 e,decide_eq_false e,Bool.false_or];exact eE k r
theorem kZ (k j:κ) (y:V): ∀ kvs:List (κ×V),cT (kvs.map fun kv=>if kv.1=k then (kv.1,y)else kv) j=(cT kvs j).map fun x=>if j=k then y else x
 | []=>rfl
 | p::r=>by
  have ih:=kZ k j y r
  rw [List.map_cons]
  by_cases h:p.1=k
  ·rw [if_pos h]
   by_cases e:p.1=j
   ·rw [cb (p:=(p.1,y)) e,cb e,Option.map_some,if_pos (e.symm.trans h)]
   ·rw [a6 (p:=(p.1,y)) e,a6 e,ih]
  ·rw [if_neg h]
   by_cases e:p.1=j
   ·rw [cb (p:=p) e,cb e,Option.map_some,if_neg (fun z=>h (e.trans z))]
   ·rw [a6 (p:=p) e,a6 e,ih]
theorem jp (k j:κ) (y:V): ∀ kvs:List (κ×V),cT kvs k=none->cT (kvs++[(k,y)]) j=if j=k then some y else cT kvs j
 | [],_=>by
  by_cases e:k=j
  ·rw [if_pos e.symm];exact cb (p:=(k,y)) e
  ·rw [if_neg (fun z=>e z.symm)];exact a6 (p:=(k,y)) e
 | p::r,hn=>by
  rw [List.cons_append]
  have hk: ¬ p.1=k:=fun z=>by rw [cb z]at hn;cases hn
  rw [a6 hk]at hn
  have ih:=jp k j y r hn
  by_cases e:p.1=j
  ·rw [cb e,cb e,if_neg (fun z=>hk (e.trans z))]
  ·rw [a6 e,a6 e,ih]
theorem qG (kvs:List (κ×V)) (k j:κ) (y:V):cT (c7 kvs k y) j=if j=k then some y else cT kvs j:=by
 unfold c7
 by_cases a:(kvs.any fun kv=>decide (kv.1=k))=true
 ·rw [if_pos a,kZ]
  rw [eE]at a
  by_cases e:j=k
  ·obtain ⟨x,hx⟩:=Option.isSome_iff_exists.mp a
   rw [if_pos e,e,hx,Option.map_some,if_pos rfl]
  ·rw [if_neg e]
   cases cT kvs j with
   | none=>rfl
   | some x=>rw [Option.map_some,if_neg e]
 ·rw [if_neg a]
  refine jp k j y kvs ?_
  rw [eE]at a
  cases q:cT kvs k with
  | none=>rfl
  | some x=>rw [q]at a;exact (a rfl).elim
theorem dD (kvs:List (κ×V)) (k:κ) (v:V):(c7 kvs k v).length<=kvs.length+1:=by
 unfold c7
 split
 ·rw [List.length_map];omega
 ·rw [List.length_append,List.length_cons,List.length_nil];omega
theorem RelO.isSome_eq {o:Option V} {u:Option Value} (r:RelO o u):o.isSome=u.isSome:=by
 cases o with
 | none=>cases u with
  | none=>rfl
  | some _=>exact (show False from r).elim
 | some _=>cases u with
  | none=>exact (show False from r).elim
  | some _=>rfl
theorem KV.val {kvs:List (κ×V)} {vs:List (κ×Value)} (r:KV kvs vs) (k:κ):RelO (cT kvs k) (valueAt vs k):=by
 unfold KV at r
 induction r with
 | nil=>exact True.intro
 | @cons p q ps qs h t ih=>
  obtain ⟨h1,h2⟩:=h
  by_cases e:p.1=k
  ·have e':q.1=k:=h1.symm.trans e
   have b:valueAt (q::qs) k=some q.2:=by simp [valueAt,List.find?_cons,e']
   rw [cb e,b];exact h2
  ·have e': ¬ q.1=k:=fun z=>e (h1.trans z)
   have b:valueAt (q::qs) k=valueAt qs k:=by simp [valueAt,List.find?_cons,e']
   rw [a6 e,b];exact ih
theorem KV.any {kvs:List (κ×V)} {vs:List (κ×Value)} (r:KV kvs vs) (k:κ):(kvs.any fun kv=>decide (kv.1=k))=vs.any fun kv=>decide (kv.1=k):=by
 unfold KV at r
 induction r with
 | nil=>rfl
 | cons h t ih=>rw [List.any_cons,List.any_cons,ih,h.1]
theorem KV.repl {kvs:List (κ×V)} {vs:List (κ×Value)} (r:KV kvs vs) (k:κ) {y:V} {u:Value} (ry:RelV y u):
  KV (kvs.map fun kv=>if kv.1=k then (kv.1,y)else kv) (vs.map fun kv=>if kv.1=k then (kv.1,u)else kv):=by
 unfold KV at r ⊢
 induction r with
 | nil=>exact .nil
 | @cons p q ps qs h t ih=>
  rw [List.map_cons,List.map_cons]
  refine .cons ?_ ih
  obtain ⟨h1,h2⟩:=h
  by_cases e:p.1=k
  ·rw [if_pos e,if_pos (h1.symm.trans e)];exact ⟨h1,ry⟩
  ·rw [if_neg e,if_neg (fun z=>e (h1.trans z))];exact ⟨h1,h2⟩
theorem KV.put {kvs:List (κ×V)} {vs:List (κ×Value)} (r:KV kvs vs) (k:κ) {y:V} {u:Value} (ry:RelV y u):KV (c7 kvs k y) (stored vs k u):=by
 unfold c7 stored
 rw [r.any k]
 by_cases e:(vs.any fun kv=>decide (kv.1=k))=true
 ·rw [if_pos e,if_pos e];exact r.repl k ry
 ·rw [if_neg e,if_neg e];exact Paired.snoc r ⟨rfl,ry⟩
theorem KV.length {kvs:List (κ×V)} {vs:List (κ×Value)} (r:KV kvs vs):kvs.length=vs.length:=Paired.length r
end
theorem l7 {P:Program} {w:World} {k:Key} {u:Value} (r:RelV (kV k) u):(aX P w).is k u=true:=by
 cases k with
 | inl i=>obtain ⟨t,e⟩:=(show ∃ t,u=Value.int i t from r);subst e;exact lX P w i t
 | inr x=>obtain ⟨t,e⟩:=(show ∃ t,u=Value.str x t from r);subst e;exact lW P w x t
theorem vj {a b:Key} (e:kV a=kV b):a=b:=by
 cases a with
 | inl i=>cases b with
  | inl j=>have e':V.int i=V.int j:=e;injection e' with e';rw [e']
  | inr y=>exact nomatch (show V.int i=V.str y from e)
 | inr x=>cases b with
  | inl j=>exact nomatch (show V.str x=V.int j from e)
  | inr y=>have e':V.str x=V.str y:=e;injection e' with e';rw [e']
theorem oP: ∀ {a b:List Key},a.map kV=b.map kV->a=b
 | [],[],_=>rfl
 | [],_::_,e=>by simp at e
 | _::_,[],e=>by simp at e
 | x::xs,y::ys,e=>by
  rw [List.map_cons,List.map_cons]at e
  injection e with e1 e2
  rw [vj e1,oP e2]
theorem gO {P:Program} {w:World}: ∀ {ks:List Key} {us:List Value},Vals (ks.map kV) us->ItemsAre (aX P w) ks us
 | [],_,r=>by rw [List.map_nil]at r;cases r;exact .nil
 | k::ks,_,r=>by
  rw [List.map_cons]at r
  cases r with
  | cons h t=>exact .cons (l7 h) (gO t)
noncomputable abbrev KT (H:Hp):List (List Key×V)->List (List Key×Addr×Value)->Prop:=Paired fun p q=>p.1=q.1/\H q.2.1=some (.tup (p.1.map kV))/\RelV p.2 q.2.2
theorem KT.val {H:Hp} {kvs:List (List Key×V)} {xs:List (List Key×Addr×Value)} (r:KT H kvs xs) (k:List Key):RelO (cT kvs k) ((atKey xs k).map (·.2)):=by
 induction r with
 | nil=>exact True.intro
 | @cons p q ps qs h t ih=>
  obtain ⟨h1,_,h2⟩:=h
  by_cases e:p.1=k
  ·have e':q.1=k:=h1.symm.trans e
   have b:atKey (q::qs) k=some q.2:=by simp [atKey,List.find?_cons,e']
   rw [cb e,b];exact h2
  ·have e': ¬ q.1=k:=fun z=>e (h1.trans z)
   have b:atKey (q::qs) k=atKey qs k:=by simp [atKey,List.find?_cons,e']
   rw [a6 e,b];exact ih
theorem KT.repl {H:Hp} {kvs:List (List Key×V)} {xs:List (List Key×Addr×Value)} (r:KT H kvs xs) (k:List Key) {y:V} {u:Value} (ry:RelV y u):
  KT H (kvs.map fun kv=>if kv.1=k then (kv.1,y)else kv) (xs.map (putAt k u)):=by
 induction r with
 | nil=>exact .nil
 | @cons p q ps qs h t ih=>
  rw [List.map_cons,List.map_cons]
  refine .cons ?_ ih
  obtain ⟨h1,h2,h3⟩:=h
  unfold putAt
  by_cases e:p.1=k
  ·rw [if_pos e,if_pos (h1.symm.trans e)];exact ⟨h1,h2,ry⟩
  ·rw [if_neg e,if_neg (fun z=>e (h1.trans z))];exact ⟨h1,h2,h3⟩
theorem KT.put {H:Hp} {kvs:List (List Key×V)} {xs:List (List Key×Addr×Value)} (r:KT H kvs xs) (k:List Key) {b:Addr} {y:V} {u:Value} (hb:H b=some (.tup (k.map kV))) (ry:RelV y u):
  KT H (c7 kvs k y) (storedH xs k b u):=by
 have e:(kvs.any fun kv=>decide (kv.1=k))=(atKey xs k).isSome:=by
  rw [eE,(r.val k).isSome_eq,Option.isSome_map]
 unfold c7 storedH
 rw [e]
 by_cases q:(atKey xs k).isSome=true
 ·rw [if_pos q,if_pos q];exact r.repl k ry
 ·rw [if_neg q,if_neg q];exact Paired.snoc r ⟨rfl,hb,ry⟩
theorem KT.keeps {H H':Hp} {kvs:List (List Key×V)} {xs:List (List Key×Addr×Value)} (r:KT H kvs xs) (ht: ∀ b ys,H b=some (.tup ys)->H' b=some (.tup ys)):KT H' kvs xs:=
 Paired.mapP r fun _ _ z=>⟨z.1,ht _ _ z.2.1,z.2.2⟩
noncomputable abbrev KP (H:Hp):List ((List Key×Key)×V)->List ((List Key×Key)×Addr×Value)->Prop:=Paired fun p q=>p.1=q.1/\(∃ c,H q.2.1=some (.tup [.ref c,kV p.1.2])/\H c=some (.tup (p.1.1.map kV)))/\RelV p.2 q.2.2
theorem KP.val {H:Hp} {kvs:List ((List Key×Key)×V)} {xs:List ((List Key×Key)×Addr×Value)} (r:KP H kvs xs) (k:List Key×Key):RelO (cT kvs k) ((atKey xs k).map (·.2)):=by
 induction r with
 | nil=>exact True.intro
 | @cons p q ps qs h t ih=>
  obtain ⟨h1,_,h2⟩:=h
  by_cases e:p.1=k
  ·have e':q.1=k:=h1.symm.trans e
   have b:atKey (q::qs) k=some q.2:=by simp [atKey,List.find?_cons,e']
   rw [cb e,b];exact h2
  ·have e': ¬ q.1=k:=fun z=>e (h1.trans z)
   have b:atKey (q::qs) k=atKey qs k:=by simp [atKey,List.find?_cons,e']
   rw [a6 e,b];exact ih
theorem KP.repl {H:Hp} {kvs:List ((List Key×Key)×V)} {xs:List ((List Key×Key)×Addr×Value)} (r:KP H kvs xs) (k:List Key×Key) {y:V} {u:Value} (ry:RelV y u):
  KP H (kvs.map fun kv=>if kv.1=k then (kv.1,y)else kv) (xs.map (putAt k u)):=by
 induction r with
 | nil=>exact .nil
 | @cons p q ps qs h t ih=>
  rw [List.map_cons,List.map_cons]
  refine .cons ?_ ih
  obtain ⟨h1,h2,h3⟩:=h
  unfold putAt
  by_cases e:p.1=k
  ·rw [if_pos e,if_pos (h1.symm.trans e)];exact ⟨h1,h2,ry⟩
  ·rw [if_neg e,if_neg (fun z=>e (h1.trans z))];exact ⟨h1,h2,h3⟩
theorem KP.put {H:Hp} {kvs:List ((List Key×Key)×V)} {xs:List ((List Key×Key)×Addr×Value)} (r:KP H kvs xs) (k:List Key×Key) {b:Addr} {y:V} {u:Value} (hb: ∃ c,H b=some (.tup [.ref c,kV k.2])/\H c=some (.tup (k.1.map kV))) (ry:RelV y u):
  KP H (c7 kvs k y) (storedH xs k b u):=by
 have e:(kvs.any fun kv=>decide (kv.1=k))=(atKey xs k).isSome:=by
  rw [eE,(r.val k).isSome_eq,Option.isSome_map]
 unfold c7 storedH
 rw [e]
 by_cases q:(atKey xs k).isSome=true
 ·rw [if_pos q,if_pos q];exact r.repl k ry
 ·rw [if_neg q,if_neg q];exact Paired.snoc r ⟨rfl,hb,ry⟩
theorem KP.keeps {H H':Hp} {kvs:List ((List Key×Key)×V)} {xs:List ((List Key×Key)×Addr×Value)} (r:KP H kvs xs) (ht: ∀ b ys,H b=some (.tup ys)->H' b=some (.tup ys)):KP H' kvs xs:=
 Paired.mapP r fun _ _ z=>⟨z.1,let ⟨c,e1,e2⟩:=z.2.1;⟨c,ht _ _ e1,ht _ _ e2⟩,z.2.2⟩
section
variable {P:Program} {w:World} {H:Hp} {h:Heap} {a:Addr}
theorem rz {u:HO} (ok:HOk P w H h) (e:Rd H a u):ObjOk P w H h a u:=e.ok ok
theorem wD {kvs:List (Key×V)} (ok:HOk P w H h) (e:Rd H a (.dK kvs)):kvs.length<=sizeLine/\(a==sysModules)=false/\ ∃ vs,KV kvs vs/\h.DictOf (aX P w) a vs:=
 show ObjOk P w H h a (.dK kvs)from rz ok e
theorem wE {kvs:List (Key×V)} (ok:HOk P w H h) (e:H a=some (.dK kvs)):kvs.length<=sizeLine/\(a==sysModules)=false/\ ∃ vs,KV kvs vs/\h.DictOf (aX P w) a vs:=wD ok (.inl e)
theorem nW {ks:List Key} (ok:HOk P w H h) (e:H a=some (.tup (ks.map kV))):(tupleKind (aX P w)).is h ks a:=by
 obtain ⟨_,its,r,o,h1,h2,n,h3⟩:=(show ObjOk P w H h a (.tup (ks.map kV))from ok a _ e)
 exact ⟨o,its.toArray,n,h1,h2,h3,by simpa using gO r⟩
theorem wz {kvs:List (List Key×V)} (ok:HOk P w H h) (e:Rd H a (.dT kvs)):kvs.length<=sizeLine/\(a==sysModules)=false/\
  ∃ xs,KT H kvs xs/\h.DictOfH (tupleKind (aX P w)) a xs:=by
 obtain ⟨z,y,xs,r,o,es,ep,h1,h2,h3,h4,h5⟩:=(show ObjOk P w H h a (.dT kvs)from rz ok e)
 refine ⟨z,y,xs,r,o,es,ep,h1,h2,h3,h4,fun x hx=>?_,h5⟩
 have all: ∀ {l:List (List Key×V)} {m:List (List Key×Addr×Value)},KT H l m-> ∀ x∈m,(tupleKind (aX P w)).is h x.1 x.2.1:=by
  intro l m q
  induction q with
  | nil=>intro x hx;exact nomatch hx
  | @cons p q ps qs hq t ih=>
   intro x hx
   rcases List.mem_cons.mp hx with e | hx
   ·subst e
    exact nW ok (by rw [<- hq.1];exact hq.2.1)
   ·exact ih x hx
 exact all r x hx
theorem wA {kvs:List (List Key×V)} (ok:HOk P w H h) (e:H a=some (.dT kvs)):kvs.length<=sizeLine/\(a==sysModules)=false/\
  ∃ xs,KT H kvs xs/\h.DictOfH (tupleKind (aX P w)) a xs:=wz ok (.inl e)
theorem oO {k:List Key×Key} (ok:HOk P w H h) (e: ∃ c,H a=some (.tup [.ref c,kV k.2])/\H c=some (.tup (k.1.map kV))):(eR (aX P w) (aX P w)).is h k a:=by
 obtain ⟨c,e1,e2⟩:=e
 obtain ⟨_,its,r,o,h1,h2,n,h3⟩:=(show ObjOk P w H h a (.tup [.ref c,kV k.2])from ok a _ e1)
 obtain ⟨u,v,rfl,ru,rv⟩:=r.two
 cases (show u=Value.ref c from ru)
 exact ⟨o,_,n,c,v,h1,h2,h3,by simp,nW ok e2,l7 rv⟩
theorem wB {kvs:List ((List Key×Key)×V)} (ok:HOk P w H h) (e:Rd H a (.dP kvs)):kvs.length<=sizeLine/\(a==sysModules)=false/\
  ∃ xs,KP H kvs xs/\h.DictOfH (eR (aX P w) (aX P w)) a xs:=by
 obtain ⟨z,y,xs,r,o,es,ep,h1,h2,h3,h4,h5⟩:=(show ObjOk P w H h a (.dP kvs)from rz ok e)
 refine ⟨z,y,xs,r,o,es,ep,h1,h2,h3,h4,fun x hx=>?_,h5⟩
 have all: ∀ {l:List ((List Key×Key)×V)} {m:List ((List Key×Key)×Addr×Value)},KP H l m-> ∀ x∈m,(eR (aX P w) (aX P w)).is h x.1 x.2.1:=by
  intro l m q
  induction q with
  | nil=>intro x hx;exact nomatch hx
  | @cons p q ps qs hq t ih=>
   intro x hx
   rcases List.mem_cons.mp hx with e | hx
   ·subst e
    rw [<- hq.1];exact oO ok hq.2.1
   ·exact ih x hx
 exact all r x hx
theorem wC {kvs:List ((List Key×Key)×V)} (ok:HOk P w H h) (e:H a=some (.dP kvs)):kvs.length<=sizeLine/\(a==sysModules)=false/\
  ∃ xs,KP H kvs xs/\h.DictOfH (eR (aX P w) (aX P w)) a xs:=wB ok (.inl e)
end
noncomputable def DPut (H:Hp) (a:Addr) (y v:V) (H':Hp):Prop:=
 (∃ kvs k,H a=some (.dK kvs)/\y=kV k/\kvs.length<sizeLine/\H'=upd H a (.dK (c7 kvs k v)))\/
 (∃ kvs k b,H a=some (.dT kvs)/\y=.ref b/\H b=some (.tup (k.map kV))/\kvs.length<sizeLine/\H'=upd H a (.dT (c7 kvs k v)))\/
 ∃ kvs k b,H a=some (.dP kvs)/\y=.ref b/\(∃ c,H b=some (.tup [.ref c,kV k.2])/\H c=some (.tup (k.1.map kV)))/\kvs.length<sizeLine/\H'=upd H a (.dP (c7 kvs k v))
theorem DPut.t {H:Hp} {a b:Addr} {kvs:List (List Key×V)} {k:List Key} {v:V} (e:H a=some (.dT kvs)) (eb:H b=some (.tup (k.map kV))) (hl:kvs.length<sizeLine):
  DPut H a (.ref b) v (upd H a (.dT (c7 kvs k v))):=.inr (.inl ⟨kvs,k,b,e,rfl,eb,hl,rfl⟩)
section
variable {X:Cx} {pins:List (Addr×Obj)} {σ:St} {H:Hp} {s:Shared} {a:Addr} {y v:V} {u r:Value} {o:Option V} {A:Around} {E:Value->Shared->Prop}
theorem Inv.big (I:Inv X pins σ H s):sysModules<s.heap.objs.size:=by
 have h:mainGlobals<s.heap.objs.size:=(I.mod.glob.keeps I.bk).lt
 exact Nat.lt_trans (by decide) h
theorem ij {h':Heap} {t':Nat} {ob:HO} (I:Inv X pins σ H s) (mu:Mut (H a)) (hs:Heap.SameBut a s.heap h') (he: ∃ q,h'.get? a=some q) (new:ObjOk X.prog X.w (upd H a ob) h' a ob):
  Inv X pins σ (upd H a ob) {s with heap:=h',toks:=t'}:=
 I.write (x:=a) (e:=a) mu (.inl rfl) (fun b q hb z=>(hs.2 b hb).trans z) he new
theorem vw {P:Program} {w:World} {H':Hp} {h':Heap} {kvs:List (Key×V)} {vs:List (Key×Value)} (z:kvs.length<=sizeLine) (hd:(a==sysModules)=false) (rel:KV kvs vs) (dd:h'.DictOf (aX P w) a vs):
  ObjOk P w H' h' a (.dK kvs):=⟨z,hd,vs,rel,dd⟩
theorem qy {H':Hp} {Q:Unit->Shared->Prop} (hu:A.units+16<cLine) (I:Inv X pins σ H s) (g:DPut H a y v H') (ry:RelV y u) (rv:RelV v r) (h: ∀ s',Inv X pins σ H' s'->Q () s'):
  wpAny (model X.prog X.w) A (setItem (.ref a) u r) Q E s:=by
 rcases g with ⟨kvs,k,e,ey,l,eH⟩ | ⟨kvs,k,b,e,ey,eb,l,eH⟩ | ⟨kvs,k,b,e,ey,eb,l,eH⟩
 ·subst ey eH
  obtain ⟨z,hd,vs,rel,dd⟩:=wE I.hok e
  have hz:vs.length<=sizeLine:=by rw [<- rel.length];exact z
  have hl:(c7 kvs k v).length<=sizeLine:=by have:=dD kvs k v;omega
  refine wpAny_setItem_pairs (hsz:=hz) (l7 ry) dd fun h' dd' hs=>h _ ?_
  have he: ∃ q,h'.get? a=some q:=let ⟨q,_,_,hq,_⟩:=dd';⟨q,hq⟩
  exact ij I (by rw [e];exact True.intro) hs he (vw hl hd (rel.put k rv) dd')
 ·subst ey eH
  cases (show u=Value.ref b from ry)
  obtain ⟨z,hd,xs,rel,dd⟩:=wA I.hok e
  have hz:xs.length<=sizeLine:=by rw [<- Paired.length rel];exact z
  have hl:(c7 kvs k v).length<=sizeLine:=by have:=dD kvs k v;omega
  refine wpAny_setItem_heap (hsz:=hz) (tupleKind_room_in1 (by omega)) (nW I.hok eb) dd fun h' dd' hs=>h _ ?_
  obtain ⟨q,es,ep,hq,h2,h3,h4,_,h5⟩:=dd'
  refine ij I (by rw [e];exact True.intro) hs ⟨q,hq⟩ ⟨hl,hd,_,(rel.put k eb rv).keeps fun c ys ec=>?_,q,es,ep,hq,h2,h3,h4,h5⟩
  rw [am (uH ec e (fun z=>nomatch z))]
  exact ec
 ·subst ey eH
  cases (show u=Value.ref b from ry)
  obtain ⟨z,hd,xs,rel,dd⟩:=wC I.hok e
  have hz:xs.length<=sizeLine:=by rw [<- Paired.length rel];exact z
  have hl:(c7 kvs k v).length<=sizeLine:=by have:=dD kvs k v;omega
  refine wpAny_setItem_heap (hsz:=hz) (show _+8<cLine by show A.units+1+8<cLine;omega) (oO I.hok eb) dd fun h' dd' hs=>h _ ?_
  obtain ⟨q,es,ep,hq,h2,h3,h4,_,h5⟩:=dd'
  refine ij I (by rw [e];exact True.intro) hs ⟨q,hq⟩ ⟨hl,hd,_,(rel.put k eb rv).keeps fun c ys ec=>?_,q,es,ep,hq,h2,h3,h4,h5⟩
  rw [am (uH ec e (fun z=>nomatch z))]
  exact ec
end
noncomputable def wJ (i:Expr):Prop:= ∀ ov iv,subscripted i false ov iv=operate [ov,iv] (getItem ov iv)
theorem tz {prog:Program} {w:World} {A:Around} {E:Value->Shared->Prop} {s:Shared} {env:Env} {value slice:Expr} {pos:Pos} {T id:String} {Q:Value->Shared->Prop}
  (hl:typeLookup (.type T) "__getitem__"=pure (some (.builtin id))) (hs:wJ slice)
  (h:wpAny (model prog w) A (eval value env) (fun o s₁=>wpAny (model prog w) A (eval slice env) (fun i s₂=>s₂.TypeIs o T/\wpAny (model prog w) A (getItem o i) Q E s₂) E s₁) E s):
  wpAny (model prog w) A (eval (.Subscript value slice pos) env) Q E s:=by
 refine Subscript_ (wpAny_mono h (fun o s₁ h₁=>wpAny_mono h₁ (fun i s₂ h₂=>?_) fun _ _ x=>x) fun _ _ x=>x)
 obtain ⟨hT,h₂⟩:=h₂
 unfold subscriptTail
 refine wpAny_bind ?_
 rw [getitemInPython_of_ne hT.not_modules]
 refine wpAny_bind (wpAny_specialOf hT hl ?_)
 have fin:wpAny (model prog w) A (subscripted slice false o i) (fun r s₃=>wpAny (model prog w) A (letTemporaryGo value o r >>= fun _=>pure r) Q E s₃) E s₂:=by
  rw [hs o i]
  exact wpAny_operating (wpAny_mono h₂ (fun r s₃ h₃=>wpAny_bind (wpAny_letTemporaryGo (wpAny_pure h₃))) fun _ _ x=>x)
 first
  | exact wpAny_pure (wpAny_bind fin)
  | exact wpAny_bind (wpAny_pure (wpAny_bind fin))
  | exact wpAny_bind fin
noncomputable def vT (td ty tv:TE):TS:=fun D σ H=>tv σ H fun v H1=>td σ H1 fun x H2=>ty σ H2 fun y H3=> ∃ a H4,x=.ref a/\DPut H3 a y v H4/\D.nx σ H4
section
variable {X:Cx} {o i e value:Expr} {pos pos' tpos:Pos} {td ty tv:TE}
theorem kg (hu:X.A.units+16<cLine) (ho:PE X o td) (hi:PE X i ty) (hv:PE X value tv) (hs:swapsWith value (some (.Subscript o i pos')) pos.line X.env=pure false):
  PS X (.Assign [.Subscript o i pos'] value pos) (vT td ty tv):=by
 intro pins s σ H D I h
 refine wpAny_Assign_Subscript (thn (hv pins s σ H _ I h) fun r s1 ⟨v,H1,I1,rv,q1⟩=>thn (ho pins s1 σ H1 _ I1 q1) fun u s2 ⟨x,H2,I2,rx,q2⟩=>thn (hi pins s2 σ H2 _ I2 q2) fun iv s3 ⟨y,H3,I3,ry,a,H4,ex,g,q3⟩=>?_) hs
 subst ex
 obtain rfl:u=Value.ref a:=rx
 exact qy hu I3 g ry rv fun s4 I4=>⟨σ,H4,I4,q3⟩
end
theorem sU {P:Program} {w:World} {H:Hp} (h:Heap) (hb:sysModules<h.objs.size):ObjOk P w H (h.push {cls:=.type "dict",data:=.dict #[]}) h.objs.size (.dT []):=
 ⟨Nat.zero_le _,beq_eq_false_iff_ne.mpr (Ne.symm (Nat.ne_of_lt hb)),[],.nil,_,#[],0,Heap.get?_push_size _ rfl,⟨rfl,rfl,rfl⟩,rfl,rfl,List.nodup_nil⟩
noncomputable def uQ:TE:=fun _ H Q=> ∀ p,H p=none->Q (.ref p) (upd H p (.dT []))
section
variable {X:Cx} {pos:Pos}
theorem iM:PE X (.Dict [] [] pos) uQ:=fun pins s σ H Q I h=>
 wpAny_Dict_empty ⟨.ref s.heap.objs.size,_,I.laid (a:=s.heap.objs.size) (o:=.dT []) (t':=s.toks) (fun _ _ q=>Heap.get?_push_of_some _ q) (Nat.le_refl _) (sU s.heap I.big),rfl,h _ (I.hok.fresh (Nat.le_refl _))⟩
end
end L2
namespace Att
open PySem PySem.W PySem.Calls PyProof.Rows
theorem ib {P:Params} {h:Heap}: ∀ (ns:List Int) (vs:List Value),WellAll P h vs (ns.map WData.int)->IntsAre vs ns:=by
 intro ns
 induction ns with
 | nil=>
  intro vs w
  rw [List.map_nil]at w
  cases w
  exact .nil
 | cons n ns ih=>
  intro vs w
  rw [List.map_cons]at w
  cases w with
  | cons a b=>
   cases a
   exact .cons _ _ (ih _ b)
theorem pD {l:OpenLaw} {n:Nat} (hn:l.most=some n) {P:Params} {h:Heap} {args:List WData} {vals:List Value}
  (hpre:l.row.toRowW.claim.pre args=true) (hwl:WellAll P h vals args):
  ∃ a vs ns,vals=[Value.ref a]/\args=[WData.list (ns.map WData.int)]/\h.get? a=some {cls:=.type "list",data:=.seq vs.toArray}/\IntsAre vs ns/\ns.length<=n:=by
 have hsh:WShape.hasAll [] args [.list .int]=true:=(pre_splitW hpre).1
 have hc:l.pre.holds [] {args:=args}=true:=(pre_splitW hpre).2
 obtain ⟨d,r,rfl,h1,h2⟩:=hasAllW_cons hsh
 obtain rfl:=hasAllW_nil h2
 obtain ⟨xs,rfl,h3⟩:=hasW_list h1
 obtain ⟨ns,rfl⟩:=items_int h3
 have hlen:ns.length<=n:=by
  unfold OpenLaw.pre at hc
  have h4:(WTm.not (.lt (.lit (.int (n:Int))) (.len (.arg 0)))).holds [] {args:=[.list (ns.map .int)]}=true:=by
   have h4:=(holds_andW hc).1
   rw [hn]at h4
   exact h4
  have h5:=condW_of h4 (w_not (w_lt w_lit (w_len_list (w_arg rfl))))
  rw [List.length_map]at h5
  refine Nat.le_of_not_lt fun q=>?_
  have q':(n:Int) < ((ns.length:Nat):Int):=by omega
  first
   | (rw [decide_eq_true q']at h5;exact absurd h5 (by decide))
   | (simp at h5;omega)
 cases hwl with
 | cons w1 w2=>
  cases w2
  cases w1 with
  | list ho hall=>exact ⟨_,_,ns,rfl,rfl,ho,ib ns _ hall,hlen⟩
theorem pP (l:OpenLaw) (args:List WData):l.row.toRowW.claim.post args (.bool true) args=true:=
 postW_of (r:=l.row.toRowW) (X:=(true==true))
  (show WShape.has [] (.bool true) .bool=true by first | rfl | decide | simp [WShape.has,WShape.arms,WShape.armsAll])
  (show (WTm.eq .res (.lit (.bool true))).value [] {args:=args,res:=some (.bool true),after:=args}=some (.bool (true==true))from w_eq_bool (w_res rfl) w_lit) rfl
theorem attach_call {l:OpenLaw} {n:Nat} {q:Program} {loose:List Str} {XP:(Str->Option Value)->Heap->Prop} {YP:World->Heap->Prop} {d:DefRec}
  (hn:l.most=some n) (hdf:d.params.defaults=[])
  (call: ∀ (w:World) (s₀ s₁:Shared) (mg mb:Str->Option Value) (fa:Addr) (o:Obj) (pm cd doc:Value) (a:Addr) (vs:List Value) (ns:List Int),
   Ground q loose [] XP w s₀ mg mb s₁.heap->YP w s₁.heap->
   s₁.heap.get? fa=some o->o.data=.func (docDef d.name d.params d.body d.scope pm cd doc)->s₁.heap.CodeRec cd d.name->mg d.name=some (.ref fa)->
   s₁.heap.get? a=some {cls:=.type "list",data:=.seq vs.toArray}->IntsAre vs ns->ns.length<=n->s₁.gens= #[]->
   codeAny (model l.prog w) callerA (.call (.ref fa) ⟨[.ref a],[]⟩) (fun r s'=>r=.ok (.ret (.bool true))/\OldK s₁.heap s'.heap/\s'.os=s₁.os/\AllBare s'.gens) s₁):
  WalkO q loose XP YP l.row.toRowW d [] (fun f vs=>PySem.call f vs):=by
 intro w s₀ s₁ mg mb G Y fa o pm cd doc dV kV ho hd hcd hD hmg hg args vals as hpre hlay hrd hwl hlo
 obtain rfl:dV=.none:=Dflts.none hD hdf
 obtain rfl:kV=.none:=Dflts.noKw hD
 obtain ⟨a,vs,ns,rfl,rfl,hobj,hints,hlen⟩:=pD hn hpre hwl
 refine enter_call (codeAny_mono (call w s₀ s₁ mg mb fa o pm cd doc a vs ns G Y ho (fd_plain hd) hcd hmg hobj hints hlen hg) fun r s' hq=>?_)
 obtain ⟨rfl,h2,h3,h4⟩:=hq
 exact ⟨.inl ⟨.bool true,.bool true,[],rfl,fun _=>rfl,.bool true,pP l _,fun _=>⟨List.Pairwise.nil,fun _ hm=>(nomatch hm)⟩⟩,h2,h3,h4⟩
end Att
namespace L2
open PySem PySem.Spec PyProof.Rows
theorem jo: ∀ {vs:List Value} {ns:List Int},IntsAre vs ns->Vals (ns.map V.int) vs
 | _,_,.nil=>.nil
 | _,_,.cons n t h=>.cons ⟨t,rfl⟩ (jo h)
noncomputable def vB (H:Hp):Prop:= ∀ b,H b=none\/ ∃ o xs,H b=some (.frz o (.lst xs))
theorem sE {P:Program} {w:World} {K:PySem.W.Frag} {mg mb:Str->Option Value} {CX:CXT} {k:Nat} {fa a:Addr} {fd:FuncData} {x:Str} {sp:Sp} {s₁:Shared} {vs:List Value} {ns:List Int}
  (KX:K.In s₁.heap) (hns:s₁.heap.Ns mainGlobals mg) (hb:s₁.heap.Ns builtinsNs mb) (hbb: ∀ x:Str,x≠"__name__"->mb x=bootBuiltins x) (hlim:s₁.heap.NoLimit) (hg:s₁.gens= #[])
  (ha:s₁.heap.get? a=some {cls:=.type "list",data:=.seq vs.toArray}) (hi:IntsAre vs ns) (hl:ns.length<=sizeLine) (hr:Room k callerA)
  (F: ∀ base:Heap,K.In base->base.Ns mainGlobals mg->FnOk P w K mg base CX k fa fd [x] sp) (hbind: ∀ (s:Shared) (u:Value),BindsTo s fd ⟨[u],[]⟩ [(x,u)])
  (hsp: ∀ H:Hp,vB H->SqL K H a (ns.map V.int)->sp [.ref a] H (fun v _=>v=.bl true) fun _ _ _=>False)
  (hCX: ∀ H e s',CX [] H s₁ (fun _ _ _=>False) e s'->False):
  codeAny (model P w) callerA (.call (.ref fa) ⟨[.ref a],[]⟩) (fun r s'=>r=.ok (.ret (.bool true))/\OldK s₁.heap s'.heap/\s'.os=s₁.os/\AllBare s'.gens) s₁:=by
 have rv:=jo hi
 have lenV:=hi.length
 have core: ∀ H:Hp,vB H->SqL K H a (ns.map V.int)->HOk P w H s₁.heap->(∀ b,H b≠none->b=a)->(H a≠none->K.lookup a=none)->
   codeAny (model P w) callerA (.call (.ref fa) ⟨[.ref a],[]⟩) (fun r s'=>r=.ok (.ret (.bool true))/\OldK s₁.heap s'.heap/\s'.os=s₁.os/\AllBare s'.gens) s₁:=by
  intro H hO hS hok hA hK
  have base_of: ∀ {b:Addr} {o:Obj},s₁.heap.get? b=some o->H b=none->(ky s₁.heap H).get? b=some o:=fun e n=>sO e n
  have noA: ∀ {b:Addr} {o:Obj} {es:Array DictEntry} {ep:Nat},s₁.heap.get? b=some o->o.data=.dict es ep->H b=none:=fun {b o es ep} e d=>by
   cases q:H b with
   | none=>rfl
   | some u=>
    have e':b=a:=hA b (by rw [q];simp)
    subst e'
    rw [ha]at e;cases e
    have d':Data.seq vs.toArray _=Data.dict es ep:=d
    cases d'
  have nsK: ∀ {b:Addr} {m:Str->Option Value},s₁.heap.Ns b m->(ky s₁.heap H).Ns b m:=fun {b m} ⟨o,es,ep,e,d,r⟩=>⟨o,es,ep,base_of e (noA e d),d,r⟩
  have hKb:K.In (ky s₁.heap H):=fun b o e=>base_of (KX b o e) (by
   cases q:H b with
   | none=>rfl
   | some u=>
    have e':b=a:=hA b (by rw [q];simp)
    subst e'
    rw [hK (by rw [q];simp)]at e;cases e)
  have hM:Mod K mg (ky s₁.heap H):=⟨hKb,nsK hns,⟨mb,nsK hb,hbb⟩,let ⟨mc,h1,h2⟩:=hlim;⟨mc,nsK h1,h2⟩⟩
  have e0:uD P w K mg (ky s₁.heap H) callerA [] s₁ H:=⟨rfl,hM,fun b o e=>uj e,Nat.le_of_eq (qu _ _),trivial,fun b hb=>absurd (show b∈([]:List Addr)from hb) (by simp),hok,.of_eq hg⟩
  refine codeAny_mono ((F _ hKb (nsK hns)).run callerA [] s₁ H ⟨[.ref a],[]⟩ [.ref a] [.ref a] _ _ hr e0 (hbind s₁ (.ref a)) (.cons rfl .nil) (hsp H hO hS)) fun r s' h=>?_
  cases r with
  | error e=>exact (hCX H e s' h).elim
  | ok fl=>
   cases fl with
   | next=>exact False.elim h
   | brk=>exact False.elim h
   | cont=>exact False.elim h
   | ret u=>
    obtain ⟨v,H',os,bare,un,hok',r',q⟩:=h
    have q':v=.bl true:=q
    subst q'
    obtain rfl:u=Value.bool true:=r'
    refine ⟨rfl,OldK.of_keep fun b o e=>?_,os,bare⟩
    cases q:H b with
    | none=>exact un.keep b o e q (by intro z;exact absurd (show b∈([]:List Addr)from z) (by simp)) (by simp)
    | some u=>
     rcases hO b with z | ⟨ob,xs,z⟩
     ·rw [q]at z;cases z
     ·have z2:=un.frzs b ob _ z
      obtain ⟨e1,_⟩:=hok b _ z
      obtain ⟨e2,_⟩:=hok' b _ z2
      rw [e]at e1;cases e1
      exact e2
 cases hk:K.lookup a with
 | some o=>
  have e:=KX a o hk
  rw [ha]at e
  cases e
  refine core (fun _=>none) (fun _=>.inl rfl) (.inr ⟨_,vs.toArray,_,hk,rfl,rfl,rfl,by rw [List.size_toArray,lenV];exact hl,by simpa using rv⟩) (fun b u z=>by have z':(none:Option HO)=some u:=z;cases z') (fun b z=>absurd rfl z) fun z=>absurd rfl z
 | none=>
  refine core (fun b=>if b=a then some (.frz {cls:=.type "list",data:=.seq vs.toArray} (.lst (ns.map V.int)))else none) (fun b=>?_) (.inl (.inr ⟨{cls:=.type "list",data:=.seq vs.toArray},if_pos rfl⟩)) (fun b u z=>?_) (fun b z=>?_) fun _=>hk
  ·by_cases hb:b=a
   ·exact .inr ⟨_,_,if_pos hb⟩
   ·exact .inl (if_neg hb)
  ·by_cases hb:b=a
   ·have z':=(if_pos hb).symm.trans z
    cases z'
    subst hb
    exact ⟨ha,by rw [List.length_map];exact hl,vs,_,rv,ha⟩
   ·have z':=(if_neg hb).symm.trans z
    cases z'
  ·by_cases hb:b=a
   ·exact hb
   ·exact absurd (if_neg hb) z
theorem walk_of {l:PySem.W.OpenLaw} {n k:Nat} {q:Program} {loose:List Str} {XP:(Str->Option Value)->Heap->Prop} {YP:World->Heap->Prop} {d:DefRec} {K:Params->PySem.W.Frag} {CX:World->CXT} {sp:World->Sp} {x:Str}
  (hn:l.most=some n) (hn2:n<=sizeLine) (hdf:d.params.defaults=[]) (hr:Room k callerA)
  (hY: ∀ (w:World) (h:Heap),YP w h->(K w.params).In h)
  (F: ∀ (w:World) (mg:Str->Option Value) (fa:Addr) (h:Heap),(K w.params).In h->h.Ns mainGlobals mg->mg d.name=some (.ref fa)->
   ∃ fd:FuncData,(∀ (s:Shared) (u:Value),BindsTo s fd ⟨[u],[]⟩ [(x,u)])/\
    ∀ base:Heap,(K w.params).In base->base.Ns mainGlobals mg->FnOk l.prog w (K w.params) mg base (CX w) k fa fd [x] (sp w))
  (hsp: ∀ (w:World) (H:Hp) (a:Addr) (ns:List Int),ns.length<=n->vB H->SqL (K w.params) H a (ns.map V.int)->sp w [.ref a] H (fun v _=>v=.bl true) fun _ _ _=>False)
  (hCX: ∀ (w:World) (H:Hp) (s:Shared) (e:Value) (s':Shared),CX w [] H s (fun _ _ _=>False) e s'->False):
  PySem.W.WalkO q loose XP YP l.row.toRowW d [] (fun f vs=>PySem.call f vs):=by
 refine Att.attach_call hn hdf fun w s₀ s₁ mg mb fa o pm cd doc a vs ns G Y ho hd hcd hmg hobj hints hlen hg=>?_
 have KX:=hY w _ Y
 obtain ⟨fd,hb,hF⟩:=F w mg fa _ KX G.T.g hmg
 exact sE KX G.T.g G.T.b G.T.builtins G.T.nolimit hg hobj hints (Nat.le_trans hlen hn2) hr hF hb (fun H hO hS=>hsp w H a ns hlen hO hS) fun H e s'=>hCX w H s₁ e s'
noncomputable def gh (s:Stmt):Arguments:=match s with
 | .FunctionDef _ a _ _ _ _ _ _ _ _=>a
 | _=>{posonlyargs:=[],args:=[],vararg:=none,kwonlyargs:=[],kw_defaults:=[],kwarg:=none,defaults:=[]}
noncomputable def cs (s:Stmt):List Stmt:=match s with
 | .FunctionDef _ _ b _ _ _ _ _ _ _=>b
 | _=>[]
noncomputable def ag (s:Stmt):Scope:=match s with
 | .FunctionDef _ _ _ _ _ _ sc _ _ _=>sc
 | _=>{kind:=.function,names:=[],isGenerator:=false,isCoroutine:=false}
noncomputable abbrev CX0:CXT:=fun _ _ _ _ _ _=>False
noncomputable abbrev E0:XK:=fun _ _ _=>False
theorem al {X:Cx}:oq CX0 X E0:=fun _ _ _ _ _ _ _ h=>h.elim
structure Fun (K:PySem.W.Frag) (x qual:Str) (st:Stmt) (f:Addr) (fd:FuncData):Prop where
 ex: ∃ (oc:Value) (od:Option Addr) (kV doc pm:Value) (an:Option Addr) (cdv ct:Value) (osl:Array (Option Value)),
  fd=PySem.W.fnOf x qual (gh st) (cs st) (ag st) .none kV doc pm an cdv ct/\K.lookup f=some ⟨oc,od,.func fd,osl⟩/\PySem.W.codeIn K cdv qual=true
 kp:PySem.W.keepIn K (.ref f)=true
section
variable {P:Program} {w:World} {K:PySem.W.Frag} {mg:Str->Option Value} {base:Heap}
theorem Fun.ok {x qual:Str} {st:Stmt} {f:Addr} {fd:FuncData} {N ps:List Str} {k:Nat} {sp:Sp} (F:Fun K x qual st f fd) (S:ay N ps (ag st)) (len: ∀ vs H Q E,sp vs H Q E->vs.length=ps.length)
  (hbody: ∀ (cdv:Value) (A:Around) (outer:List Env) (s:Shared) (H:Hp) (vs:List V) (Q:VK) (E:XK),Room k (A.deeper (envOfC qual (ag st) s.heap.objs.size f cdv))->sp vs H Q E->
   ∃ t,PSs (dv CX0 P w K mg base N qual (ag st) f cdv A outer s H E).nox (cs st) t/\t {nx:=fun _ H'=>Q .non H',rt:=Q} (gV N vs) H):FnOk P w K mg base CX0 (k+1) f fd ps sp:=by
 obtain ⟨oc,od,kV,doc,pm,an,cdv,ct,osl,rfl,lk,hcd⟩:=F.ex
 refine wx lk hcd S len fun A outer s H vs Q E hr hsp=>?_
 obtain ⟨t,h,q⟩:=hbody cdv A outer s H vs Q E hr hsp
 exact ⟨t,h.nox,q⟩
theorem Fun.binds {x qual:Str} {st:Stmt} {f:Addr} {fd:FuncData} {ps:List Str} (F:Fun K x qual st f fd)
  (h: ∀ (kV doc pm:Value) (an:Option Addr) (cdv ct:Value) (us:List Value),us.length=ps.length->bindArgs (PySem.W.fnOf x qual (gh st) (cs st) (ag st) .none kV doc pm an cdv ct) ⟨us,[]⟩=pure (ps.zip us)):Binds K fd ps []:=by
 obtain ⟨oc,od,kV,doc,pm,an,cdv,ct,osl,rfl,lk,hcd⟩:=F.ex
 exact .all (h kV doc pm an cdv ct)
end
theorem ma {A:Around} {k:Nat} (hr:Room k A):A.units+16<cLine:=Nat.lt_of_le_of_lt (Nat.add_le_add_left (by decide:16<=64) _) hr.units
theorem aF {n:Nat} (h:n<=1000):n<sizeLine:=Nat.lt_of_le_of_lt h (by decide)
section
variable {X:Cx}
theorem pv (i:Nat) {x:Str} {pos:Pos} (hN:X.N[i]? =some x:=by rfl) (hv:Vis X.env.scope x:=by first | exact Or.inl rfl | exact Or.inr (Or.inl rfl) | exact Or.inr (Or.inr rfl)) (hd:(x==("__debug__":Str))=false:=by decide)
  (hcd:(x==("__classdict__":Str))=false:=by decide):PE X (.Name x pos) (vF i):=u7 hN hv hd hcd
end
theorem aH {A B:Prop} (h:B):if false=true then A else B:=by
 rw [if_neg Bool.false_ne_true]
 exact h
theorem aY {A B:Prop} (h:A):if true=true then A else B:=by
 rw [if_pos rfl]
 exact h
theorem bo {c A B:Prop} [Decidable c] (h1:c->A) (h2: ¬ c->B):if c then A else B:=by
 by_cases h:c
 ·rw [if_pos h]
  exact h1 h
 ·rw [if_neg h]
  exact h2 h
noncomputable def Same (H H':Hp):Prop:= ∀ b o,H b=some o->H' b=some o
theorem Same.refl (H:Hp):Same H H:=fun _ _ h=>h
theorem Same.trans {H H1 H2:Hp} (a:Same H H1) (b:Same H1 H2):Same H H2:=fun c o h=>b c o (a c o h)
theorem Same.free {H H':Hp} (e:Same H H') {l:Addr} (h:H' l=Option.none):H l=Option.none:=by
 cases q:H l with
 | none=>rfl
 | some o=>
  rw [e l o q]at h
  cases h
theorem Same.seq {K:PySem.W.Frag} {H H':Hp} {a:Addr} {xs:List V} (e:Same H H') (h:SqL K H a xs):SqL K H' a xs:=by
 rcases h with (h | ⟨o,h⟩) | h
 ·exact .inl (.inl (e _ _ h))
 ·exact .inl (.inr ⟨o,e _ _ h⟩)
 ·exact .inr h
section
variable {X:Cx}
theorem tf:cU X (.builtin "isinstance") (fun xs H Q=> ∃ x T t b,xs=[x,.ty T]/\gm X.K H x t/\PySem.W.kitOne X.K t (.type T)=some b/\Q (.bl b) H):=by
 intro pins s σ H xs us Q I r h
 obtain ⟨x,T,t,b,rfl,ty,e,q⟩:=h
 obtain ⟨u,w',rfl,ru,rw'⟩:=il r
 cases (show w'=Value.type T from rw')
 exact qr I ru ty e fun tk=>⟨.bl b,H,I.tok tk,rfl,q⟩
theorem jy:OpR X (compareOp .LtE) (fun x y H Q=> ∃ i j,x=.str i/\y=.str j/\Q (.bl (!decide (j.cps.toList<i.cps.toList))) H):=by
 intro pins s σ H x y v u Q I rx ry h
 obtain ⟨i,j,rfl,rfl,q⟩:=h
 obtain ⟨t,rfl⟩:=rx
 obtain ⟨t',rfl⟩:=ry
 exact PySem.P.le_str (aW I q rfl)
end
noncomputable def Itw (n:Nat) (R:Nat->V->Prop):It:=⟨fun i _=>i<n,fun i H x H'=>H'=H/\R i x,fun i _=>i=n⟩
theorem my {P:Program} {w:World} {K:PySem.W.Frag} {tg:Expr} (it:Addr) (n:Nat) (Pv:Nat->Value->Prop) (tn:Nat->Heap->Prop) (R:Nat->V->Prop)
  (hW: ∀ A:Around,A.handled=none->Walks P w A it [it] [it] n Pv tn)
  (hobj: ∀ i h,tn i h-> ∃ (o:Obj) (nm:String) (vs:Array Value),h.get? it=some o/\o.cls=.type nm/\o.data=.fields vs/\
   ["enumerate","zip","dict_itemiterator","dict_reverseitemiterator","odict_iterator","itertools.zip_longest","itertools.pairwise"].contains nm=false)
  (hP: ∀ i v,Pv i v-> ∃ x,RelV x v/\R i x)
  (hself: ∀ (A:Around) (i:Nat) (s:Shared) (Q:Value->Shared->Prop) (E:Value->Shared->Prop),tn i s.heap->Q (.ref it) s->wpAny (model P w) A (pyIter (.ref it)) Q E s):on P w K tg (Itw n R) [it] it tn where
 mem:=by simp
 obj:=fun i h st b hb=>by
  have e:b=it:=by simpa using hb
  subst e
  obtain ⟨o,nm,vs,e,_,d,_⟩:=hobj i h st
  exact ⟨o,e,fun v z=>by rw [d]at z;cases z⟩
 keep:=fun i h h' st k=>(hW callerA rfl).frame i h h' st fun b hb o e=>k b hb o e
 item:=by
  intro X hP' hw hK hc i pins s σ H E I hf st hg
  subst hP' hw hK
  obtain ⟨f0,f1,f2,f3,f4,f5⟩:=hf it (by simp)
  refine (hW X.A (I.ok.hd hc)).item i s _ _ hg st fun v h' tk hv st' kk=>?_
  obtain ⟨x,rx,qx⟩:=hP i v hv
  have I1:Inv X pins σ H {s with heap:=h',toks:=tk}:=I.turned (fun b o hb e=>kk b o (by simpa using hb) e) f0 f1 f3 f4 f5
  obtain ⟨o,nm,vs,e,c,d,ne⟩:=hobj _ _ st'
  exact ⟨v,rfl,me (s:={s with heap:=h',toks:=tk}) e c d ne ⟨x,H,I1,rx,⟨rfl,qx⟩,st',fun b hb=>(hf b hb).1⟩⟩
 done:=by
  intro X hP' hw hK hc i pins s σ H E I hf st hg
  subst hP' hw hK
  obtain ⟨f0,f1,f2,f3,f4,f5⟩:=hf it (by simp)
  have hg':i=n:=hg
  subst hg'
  exact (hW X.A (I.ok.hd hc)).done s _ _ st fun h' tk kk=>⟨rfl,I.turned (t':=tk) (fun b o hb e=>kk b o (by simpa using hb) e) f0 f1 f3 f4 f5⟩
 self:=hself
section
variable {X:Cx} {tg:Expr}
noncomputable def xh (tl:TE):TI:=fun σ H R=>tl σ H fun x H1=> ∃ z,x=.str z/\R (Itw z.length fun i v=> ∃ c,z.cps[i]? =some c/\v=.str ⟨#[c]⟩) H1
theorem rE {l:Expr} {tl:TE} (hl:PE X l tl):PI X tg l (xh tl):=by
 intro pins s σ H R I h
 refine thn (hl pins s σ H _ I h) fun v s1 ⟨x,H1,I1,r1,z,ez,q⟩=>?_
 subst ez
 obtain ⟨t,rfl⟩:=r1
 have go: ∀ (T:String) (o:Obj),(∀ (A:Around) (i:Nat) (s:Shared) (Q:Value->Shared->Prop) (E:Value->Shared->Prop),s.heap.IsStrIter s1.heap.objs.size T z t i->Q (.ref s1.heap.objs.size) s->wpAny (model X.prog X.w) A (pyIter (.ref s1.heap.objs.size)) Q E s)->(∀ A:Around,A.handled=none->Walks X.prog X.w A s1.heap.objs.size [s1.heap.objs.size] [s1.heap.objs.size] z.cps.size (SignAt z) (fun i h=>h.IsStrIter s1.heap.objs.size T z t i))->
   ["enumerate","zip","dict_itemiterator","dict_reverseitemiterator","odict_iterator","itertools.zip_longest","itertools.pairwise"].contains T=false->
   (s1.heap.push o).IsStrIter s1.heap.objs.size T z t 0->PIE X pins σ tg R (.ref s1.heap.objs.size) {s1 with heap:=s1.heap.push o}:=by
  intro T o hS hW hT st
  refine ⟨s1.heap.objs.size,[s1.heap.objs.size],_,Itw z.length fun i v=> ∃ c,z.cps[i]? =some c/\v=.str ⟨#[c]⟩,H1,rfl,I1.kept (t':=s1.toks) fun b o e=>Heap.get?_push_of_some _ e,
   my s1.heap.objs.size z.length (SignAt z) (fun i h=>h.IsStrIter s1.heap.objs.size T z t i) _ hW (fun i h st=>?_) (fun i v hv=>?_) hS,st,fun b hb=>?_,q⟩
  ·obtain ⟨o,e,c,d⟩:=st
   exact ⟨o,T,_,e,c,d,hT⟩
  ·obtain ⟨c,u,e,rfl⟩:=hv
   exact ⟨.str ⟨#[c]⟩,⟨u,rfl⟩,c,e,rfl⟩
  ·have e:b=s1.heap.objs.size:=by simpa using hb
   subst e
   exact I1.fpOk (Nat.le_refl _) I1.fresh
 cases ha:z.cps.all (· <128)
 ·exact wpAny_pyIter_wide ha (go "str_iterator" _ (fun _ _ _ _ _ st h=>wpAny_pyIter_striter_wide st h) (fun A hA=>Walks.strWide hA _ z t) (by decide) ⟨_,Heap.get?_push_size _ rfl,rfl,rfl⟩)
 ·exact wpAny_pyIter_ascii ha (go "str_ascii_iterator" _ (fun _ _ _ _ _ st h=>wpAny_pyIter_striter_ascii st h) (fun A hA=>Walks.strAscii hA _ z t) (by decide) ⟨_,Heap.get?_push_size _ rfl,rfl,rfl⟩)
end
section
variable {X:Cx} {e k:Expr} {te tk:TE} {pos p2:Pos}
theorem dJ: ∀ (ix:List Nat) {xs:List V} {us:List Value},Vals xs us->Vals (ix.filterMap (xs[·]?)) (ix.filterMap (us[·]?))
 | [],_,_,_=>.nil
 | i::r,xs,us,h=>by
  rw [List.filterMap_cons,List.filterMap_cons]
  cases ex:xs[i]? with
  | none=>
   rw [h.none_of ex]
   exact dJ r h
  | some x=>
   obtain ⟨u,eu,ru⟩:=h.get ex
   rw [eu]
   exact .cons ru (dJ r h)
noncomputable def eG (n:Nat) (c:Int):List Nat:=sliceRange (sliceBounds none none (some c) n).1 (sliceBounds none none (some c) n).2.1 (sliceBounds none none (some c) n).2.2
noncomputable def gU (xs:List V) (c:Int):List V:=(eG xs.length c).filterMap (xs[·]?)
theorem ny {α:Type} (xs:List α):(List.range xs.length).filterMap (xs[·]?)=xs:=by
 induction xs with
 | nil=>rfl
 | cons x r ih=>
  rw [List.length_cons,List.range_succ_eq_map,List.filterMap_cons,List.filterMap_map]
  show x::List.filterMap ((fun j=>(x::r)[j]?)∘Nat.succ) (List.range r.length)=x::r
  congr 1
theorem mV (n:Nat):eG n 1=List.range n:=by
 unfold eG sliceBounds sliceRange
 simp only [Option.getD_some,show (1:Int) >0 by decide,if_true]
 by_cases h:n=0
 ·subst h
  rfl
 ·rw [if_pos (by omega)]
  have e:(((n:Int) -0+1-1) /1).toNat=n:=by rw [Int.ediv_one];omega
  rw [e]
  conv=>rhs;rw [<- List.map_id (List.range n)]
  apply List.map_congr_left
  intro k hk
  show (0+1* (k:Int)).toNat=k
  omega
theorem pB (xs:List V):gU xs 1=xs:=by
 unfold gU
 rw [mV]
 exact ny xs
theorem mZ (n:Nat):eG n (-1)=(List.range n).map fun k=>n-1-k:=by
 unfold eG sliceBounds sliceRange
 simp only [Option.getD_some,show ¬ ((-1:Int) >0) by decide,if_false]
 by_cases h:n=0
 ·subst h
  rfl
 ·rw [if_pos (by omega)]
  have e:(((n:Int) -1- -1- -1-1) / (- -1)).toNat=n:=by
   rw [show (- -1:Int)=1 by decide,Int.ediv_one];omega
  rw [e]
  apply List.map_congr_left
  intro k hk
  have:=List.mem_range.mp hk
  show ((n:Int) -1+ -1* (k:Int)).toNat=n-1-k
  omega
theorem rev_pick {α:Type} (xs:List α):((List.range xs.length).map fun k=>xs.length-1-k).filterMap (xs[·]?)=xs.reverse:=by
 apply List.ext_getElem?
 intro i
 have hall:((List.range xs.length).map fun k=>xs.length-1-k).filterMap (xs[·]?)=(List.range xs.length).filterMap fun k=>xs[xs.length-1-k]? :=by
  rw [List.filterMap_map]
  rfl
 rw [hall]
 have hsome: ∀ (l:List Nat),(∀ k∈l,k<xs.length)-> ∀ j:Nat,(l.filterMap fun k=>xs[xs.length-1-k]?)[j]? =l[j]?.bind fun k=>xs[xs.length-1-k]? :=by
  intro l
  induction l with
  | nil=>intro _ j;rfl
  | cons a r ih=>
   intro hl j
   have ha:=hl a List.mem_cons_self
   have hx:xs[xs.length-1-a]? =some xs[xs.length-1-a]:=List.getElem?_eq_getElem (by omega)
   rw [List.filterMap_cons,hx]
   cases j with
   | zero=>simp [hx]
   | succ j=>
    rw [List.getElem?_cons_succ,List.getElem?_cons_succ]
    exact ih (fun k hk=>hl k (List.mem_cons_of_mem _ hk)) j
 rw [hsome _ (fun k hk=>List.mem_range.mp hk) i]
 by_cases hi:i<xs.length
 ·rw [List.getElem?_range hi,List.getElem?_reverse hi]
  rfl
 ·rw [List.getElem?_eq_none (by simpa using hi),List.getElem?_eq_none (by simpa using hi)]
  rfl
theorem pC (xs:List V):gU xs (-1)=xs.reverse:=by
 unfold gU
 rw [mZ]
 exact rev_pick xs
noncomputable def vG (K:PySem.W.Frag) (te tk:TE):TE:=fun σ H Q=>te σ H fun x H1=>tk σ H1 fun y H2=> ∃ a xs c,x=.ref a/\y=.int c/\SqL K H2 a xs/\c≠0/\ ∀ p,H2 p=none->Q (.ref p) (upd H2 p (.lst (gU xs c)))
theorem tU (he:PE X e te) (hk:PE X k tk):PE X (.Subscript e (.Slice none none (some k) p2) pos) (vG X.K te tk):=by
 intro pins s σ H Q I h
 refine Subscript_ (thn (he pins s σ H _ I h) fun v s1 ⟨x,H1,I1,r1,q1⟩=>?_)
 refine wpAny_Slice ?_
 rw [evalPart_none,evalPart_some]
 refine wpAny_pure (wpAny_pure ?_)
 refine thn (hk pins s1 σ H1 _ I1 q1) fun vk s3 ⟨y,H3,I3,ry,a,xs,c,ex,ey,hq,hc,q⟩=>?_
 subst ex ey
 obtain ⟨t,rfl⟩:=ry
 cases r1
 have I4:Inv X pins σ H3 {s3 with heap:=s3.heap.push {cls:=.type "slice",data:=.fields #[.none,.none,.int c t]}}:=I3.kept (t':=s3.toks) fun b ob q=>Heap.get?_push_of_some _ q
 obtain ⟨its,r,ht,hz⟩:=I4.list hq
 have hlen:=r.length
 have hpick:slicePick its.toArray none none (some c)=((eG xs.length c).filterMap (its[·]?)).toArray:=by
  unfold slicePick eG
  rw [List.size_toArray,hlen]
  simp
 have hle:(gU xs c).length<=sizeLine:=by
  have h1:=slicePick_size_le its.toArray none none (some c)
  rw [hpick,List.size_toArray,List.size_toArray]at h1
  have h2:=(dJ (eG xs.length c) r).length
  unfold gU
  omega
 show wpAny (model X.prog X.w) X.A (subscriptTail e (.Slice none none (some k) p2) (.ref a) (.ref s3.heap.objs.size)) (EP X pins σ Q) X.xe {s3 with heap:=s3.heap.push {cls:=.type "slice",data:=.fields #[.none,.none,.int c t]}}
 refine tail_any (ops:=[.ref a,.ref s3.heap.objs.size]) ht.isList.typeIs slot_list_getitem.lookup (wpAny_getItem_list_slice ht.isList (Heap.IsSliceOf.new ..) .none .none (.int c t) (by simpa using hc) ?_ (by rw [List.size_toArray];omega)) (by with_unfolding_all rfl)
 rw [hpick]
 refine ⟨.ref (s3.heap.push {cls:=.type "slice",data:=.fields #[.none,.none,.int c t]}).objs.size,_,I4.laid (t':=s3.toks) (o:=.lst (gU xs c)) (fun b ob q=>Heap.get?_push_of_some _ q) (Nat.le_refl _) ?_,rfl,q _ I4.fresh⟩
 exact ⟨hle,_,0,dJ _ r,Heap.get?_push_size _ rfl⟩
noncomputable def wX:V->Option Int->Option Int->Hp->VK->Prop:=fun x lo hi H Q=> ∃ z,x=.str z/\z.length<=sizeLine/\Q (.str (Txt.slice z lo hi)) H
theorem jP:SlR X wX:=by
 intro pins s σ H x v vl vu lo hi sl Q I rx hs pl pu h
 obtain ⟨z,rfl,hz,q⟩:=h
 obtain ⟨t,rfl⟩:=rx
 refine ⟨"str",_,F.slot_str_getitem.lookup,typeIs_str _ _ _,?_⟩
 have go: ∀ (l u:Option (Int×Tok)),vl=partValue l->vu=partValue u->lo=l.map (·.1)->hi=u.map (·.1)->wpAny (model X.prog X.w) X.A (getItem (.str z t) (.ref sl)) (EP X pins σ Q) X.xe s:=by
  intro l u e1 e2 e3 e4
  subst e1 e2 e3 e4
  refine wpAny_getItem_str_slice (l:=l) (u:=u) (st:=none) hs rfl ?_
  exact post_val_or_str ⟨Nat.le_trans (Txt.slice_le z _ _) hz,fun t' k=>⟨.str (Txt.slice z (l.map (·.1)) (u.map (·.1))),H,I.tok k,⟨t',rfl⟩,q⟩⟩
 cases pl with
 | none=>
  cases pu with
  | none=>exact go none none rfl rfl rfl rfl
  | int j tj=>exact go none (some (j,tj)) rfl rfl rfl rfl
 | int i ti=>
  cases pu with
  | none=>exact go (some (i,ti)) none rfl rfl rfl rfl
  | int j tj=>exact go (some (i,ti)) (some (j,tj)) rfl rfl rfl rfl
open PySem.AutoSeq1 (wpAny_loadPart')in
theorem n0 (l:Addr) (items:Array Value) (n:Nat) (b:Addr) (items2:Array Value) (n2:Nat) (dd:Option Addr) (sl:Array (Option Value)) (hs0: ¬(!items.isEmpty&&Builtin.List.listTooLong (items.size+items2.size))=true) (hs1:items.size<=sizeLine) (hs2:items.size+items2.size<=sizeLine+1):
  Meets (Builtin.«list.extend» ⟨[.ref l,.ref b],[]⟩) (fun _ R s=>s.heap.get? l=some {cls:=.type "list",dict:=none,data:=.seq items n,slots:= #[]}/\s.heap.get? b=some {cls:=.type "tuple",dict:=dd,data:=.seq items2 n2,slots:=sl}/\R (.ok (.ret Value.none)) {s with heap:=s.heap.update l (Obj.mapSeq fun x=>x++items2),toks:=s.toks}):=
 .of_wp fun prog w A R s h=>by
  obtain ⟨hp,g,d,tk,os⟩:=s;obtain ⟨hl,hb,h⟩:=h;have f1:=AutoSeq1.idx_int;have f2:=AutoSeq1.sub_tuple_tuple;have f3:=AutoSeq1.sub_list_list;have f4:=AutoSeq1.sub_tuple_list;have f5:=AutoSeq1.sub_list_tuple;
  have hz':(items++items2).size<=sizeLine+1:=by rw [Array.size_append];exact hs2
  wp_walk using (wpAny_updateSeq hl rfl (hz:=hs1) (_hz':=hz')),wpAny_loadPart' hl,wpAny_loadPart' hb;exact ⟨_,rfl,h⟩
noncomputable def v4 (K:PySem.W.Frag):V->List V->Hp->VK->Prop:=fun x vs H Q=> ∃ l b xs zs,x=.ref l/\vs=[.ref b]/\H l=some (.lst xs)/\SqT K H b zs/\xs.length+zs.length<=sizeLine/\Q .non (upd H l (.lst (xs++zs)))
theorem ku:MtM X "list.extend" (v4 X.K):=by
 intro pins s σ H x vs v us Q I rx rv h
 obtain ⟨l,b,xs,zs,rfl,rfl,hH,hB,hz,q⟩:=h
 cases rx
 obtain ⟨u,rfl,ru⟩:=rv.one
 cases ru
 obtain ⟨z,its,n,r,hl,e⟩:=I.lstM hH
 obtain ⟨its2,r2,ht2,hz2⟩:=I.tuple hB
 obtain ⟨⟨c2,d2,dat2,sl2⟩,e2,hc2,n2,hd2⟩:=ht2
 dsimp only at hc2 hd2
 subst hc2 hd2
 have hl2:=r2.length
 have hsz:its.toArray.size+its2.toArray.size<=sizeLine:=by rw [List.size_toArray,List.size_toArray];omega
 have hlong: ¬ (!its.toArray.isEmpty&&Builtin.List.listTooLong (its.toArray.size+its2.toArray.size))=true:=by
  rw [lV hsz,Bool.and_false]
  exact Bool.false_ne_true
 refine call_meets F.slot_list_extend ⟨_,e,rfl⟩ F.entry_list_extend (F.args_list_extend_2 _ _)
  (n0 l its.toArray n b its2.toArray n2 d2 sl2 hlong (by rw [List.size_toArray];omega) (by omega)) ⟨e,e2,?_⟩
 refine ⟨.non,_,I.lset (its':=its++its2) hH e (by simp) (r.append r2) ?_,rfl,q⟩
 rw [List.length_append]
 omega
theorem pO (bs:List Bool):((List.range bs.length).all fun i=>(bs[i]?).getD true)=bs.all id:=by
 induction bs with
 | nil=>rfl
 | cons b r ih=>
  rw [List.length_cons,List.range_succ_eq_map,List.all_cons,List.all_map]
  show (b&&(List.range r.length).all (fun i=>((b::r)[i+1]?).getD true))=(b&&r.all id)
  rw [<- ih]
  rfl
theorem cp (hc:X.calm=true):cU X (.builtin "all") (fun xs H Q=> ∃ (p:Addr) (bs:List Bool),xs=[.ref p]/\SqL X.K H p (bs.map V.bl)/\Q (.bl (bs.all id)) H):=by
 intro pins s σ H xs us Q I r h
 obtain ⟨p,bs,rfl,hq,q⟩:=h
 obtain ⟨u,rfl,ru⟩:=fj r
 cases ru
 obtain ⟨its,rv,pl,hz⟩:=I.list hq
 have hl:=pl.isList
 have hlt:p<s.heap.objs.size:=by obtain ⟨_,e,_⟩:=hl;exact Heap.lt_size e
 have hn:its.toArray.size=bs.length:=by have:=rv.length;rw [List.length_map]at this;rw [List.size_toArray];omega
 refine call_all_walk (wpAny_pyIter_list hl ?_)
 refine ⟨s.heap.objs.size,[s.heap.objs.size,p],[s.heap.objs.size],its.toArray.size,_,_,fun i=>(bs[i]?).getD true,rfl,Walks.list (A:=X.A.in1) (I.ok.hd hc) _ p (Nat.ne_of_lt hlt) its.toArray,
  ⟨⟨_,Heap.get?_push_size _ rfl,rfl,rfl⟩,hl.push _⟩,fun i v s' Q' E' hP hQ=>?_,fun h' tk hk=>?_⟩
 ·have hv:its[i]? =some v:=by simpa using hP
  have hi:i<bs.length:=by
   have:=(List.getElem?_eq_some_iff.mp hv).1
   have:=rv.length
   rw [List.length_map]at this
   omega
  have hb:(bs.map V.bl)[i]? =some (V.bl bs[i]):=by rw [List.getElem?_map,List.getElem?_eq_getElem hi] <;> rfl
  obtain ⟨u,eu,ru⟩:=rv.get hb
  rw [hv]at eu
  cases eu
  cases (show v=Value.bool bs[i]from ru)
  have hQ':=hQ
  simp only [List.getElem?_eq_getElem hi,Option.getD_some]at hQ'
  exact wpAny_truthy_bool hQ'
 ·rw [hn,pO]
  refine ⟨.bl (bs.all id),H,I.kept (t':=tk) fun b x e=>?_,rfl,q⟩
  exact hk b x (fun hm=>by rw [List.mem_singleton.mp hm]at e;exact Nat.lt_irrefl _ (Heap.lt_size e)) (Heap.get?_push_of_some _ e)
noncomputable def qD (P:Program) (w:World) (K:PySem.W.Frag) (a:Addr) (kvs:List (Key×V)):Prop:=
 (a==sysModules)=false/\ ∀ h:Heap,K.In h-> ∃ vs,KV kvs vs/\h.DictOf (aX P w) a vs
noncomputable def xa (P:Program) (w:World) (K:PySem.W.Frag) (neg:Bool):R2:=fun x y H Q=> ∃ k a kvs,x=kV k/\y=.ref a/\qD P w K a kvs/\Q (.bl (if neg then !(cT kvs k).isSome else (cT kvs k).isSome)) H
theorem rJ:OpR X (compareOp .In) (xa X.prog X.w X.K false):=by
 intro pins s σ H x y v u Q I rx ry h
 obtain ⟨k,a,kvs,rfl,rfl,⟨hd,T⟩,q⟩:=h
 cases (show u=Value.ref a from ry)
 obtain ⟨vs,rel,dd⟩:=T _ I.kIn
 refine wpAny_in_of (l7 rx) hd dd.mapOf ?_
 rw [<- (rel.val k).isSome_eq]
 exact ⟨.bl (cT kvs k).isSome,H,I.tok _,rfl,q⟩
noncomputable def vM (P:Program) (w:World) (K:PySem.W.Frag) (td ty:TE):TE:=fun σ H Q=>td σ H fun x H1=>ty σ H1 fun y H2=> ∃ a kvs k v,x=.ref a/\y=kV k/\qD P w K a kvs/\cT kvs k=some v/\Q v H2
theorem tV {o i:Expr} {td ty:TE} (ho:PE X o td) (hi:PE X i ty) (hs:wJ i):PE X (.Subscript o i pos) (vM X.prog X.w X.K td ty):=by
 intro pins s σ H Q I h
 refine tz PySem.F.slot_dict_getitem.lookup hs (thn (ho pins s σ H _ I h) fun u s1 ⟨x,H1,I1,rx,q1⟩=>thn (hi pins s1 σ H1 _ I1 q1) fun iv s2 ⟨y,H2,I2,ry,a,kvs,k,v,ex,ey,⟨hd,T⟩,l,q2⟩=>?_)
 subst ex ey
 obtain rfl:u=Value.ref a:=rx
 obtain ⟨vs,rel,dd⟩:=T _ I2.kIn
 obtain ⟨w',hw,rw'⟩:=RelO.some_of (v:=v) (o:=valueAt vs k) (by rw [<- l];exact rel.val k)
 exact ⟨dd.typeIs,wpAny_getItem_of (l7 ry) dd.mapOf hw ⟨v,H2,I2.tok _,rw',q2⟩⟩
end
theorem gg {α β:Type} {f:α->β->Sem (ForInStep β)} (g:β->α->β): ∀ {l:List α} (c:β),(∀ x∈l,∀ c,f x c=pure (.yield (g c x)))->forIn l c f=pure (l.foldl g c)
 | [],c,_=>rfl
 | x::l,c,h=>by
  have hx:=h x List.mem_cons_self c
  rw [List.forIn_cons,hx,pure_bind]
  exact gg g (g c x) fun y hy=>h y (List.mem_cons_of_mem _ hy)
noncomputable def ce (cells:List (Str×Addr)) (c:List (Str×Addr)) (x:Str×NameKind):List (Str×Addr):=
 if x.2=.free then (match cells.lookup x.1 with | some a=>(x.1,a)::c | none=>c)else c
noncomputable def dw (cells:List (Str×Addr)) (names:List (Str×NameKind)):List (Str×Addr):=names.foldl (ce cells) []
theorem dI {scope:Scope} {env:Env} (h: ∀ x∈scope.names,x.2=.free-> ∃ c,env.cells.lookup x.1=some c):closureFor scope env=pure (dw env.cells scope.names):=by
 simp only [closureFor]
 rw [gg (ce env.cells) [] (fun x hx c=>by
  obtain ⟨n,kind⟩:=x
  by_cases hk:kind=.free
  ·subst hk
   obtain ⟨a,ha⟩:=h _ hx rfl
   simp only [ce,if_true,beq_self_eq_true,cellOf,ha,pure_bind]
  ·have hb:(kind==NameKind.free)=false:=by simpa using hk
   simp only [ce,hb,hk,Bool.false_eq_true,if_false])]
 rfl
theorem jf {cells:List (Str×Addr)}: ∀ {names:List (Str×NameKind)} {acc:List (Str×Addr)},(∀ p∈acc,cells.lookup p.1=some p.2)-> ∀ p∈names.foldl (ce cells) acc,cells.lookup p.1=some p.2
 | [],_,h=>h
 | x::r,acc,h=>by
  refine jf (names:=r) (acc:=ce cells acc x) ?_
  intro p hp
  unfold ce at hp
  split at hp
  ·split at hp
   ·rename_i a ha
    rcases List.mem_cons.mp hp with e | e
    ·subst e
     exact ha
    ·exact h p e
   ·exact h p hp
  ·exact h p hp
theorem jg {cells:List (Str×Addr)}: ∀ {names:List (Str×NameKind)} {acc:List (Str×Addr)} {p:Str×Addr},p∈acc->p∈names.foldl (ce cells) acc
 | [],_,_,h=>h
 | x::r,acc,p,h=>by
  refine jg (names:=r) (acc:=ce cells acc x) ?_
  unfold ce
  split
  ·split
   ·exact List.mem_cons_of_mem _ h
   ·exact h
  ·exact h
theorem mn {cells:List (Str×Addr)} {n:Str} {c:Addr} (hc:cells.lookup n=some c): ∀ {names:List (Str×NameKind)} {acc:List (Str×Addr)},(n,NameKind.free)∈names->(n,c)∈names.foldl (ce cells) acc
 | [],_,h=>by simp at h
 | x::r,acc,h=>by
  rcases List.mem_cons.mp h with e | e
  ·subst e
   refine jg (names:=r) ?_
   simp [ce,hc]
  ·exact mn hc (names:=r) e
theorem mem_of_lookup {α β:Type} [BEq α] [LawfulBEq α] {k:α} {v:β}: ∀ {l:List (α×β)},l.lookup k=some v->(k,v)∈l
 | [],h=>by simp at h
 | (a,b)::r,h=>by
  rw [List.lookup_cons]at h
  split at h
  ·rename_i e
   have:=eq_of_beq e
   subst this
   cases h
   exact List.mem_cons_self
  ·exact List.mem_cons_of_mem _ (mem_of_lookup h)
theorem fu {α β:Type} [BEq α] [LawfulBEq α] {k:α} {v:β}: ∀ {l:List (α×β)},(k,v)∈l-> ∃ v',l.lookup k=some v'
 | [],h=>by simp at h
 | (a,b)::r,h=>by
  rw [List.lookup_cons]
  split
  ·exact ⟨b,rfl⟩
  ·rename_i e
   rcases List.mem_cons.mp h with q | q
   ·cases q
    simp at e
   ·exact fu q
theorem c9 {cells:List (Str×Addr)} {names:List (Str×NameKind)} {n:Str} {c:Addr} (h:(dw cells names).lookup n=some c):cells.lookup n=some c:=
 jf (names:=names) (acc:=[]) (by simp) (n,c) (mem_of_lookup h)
theorem cQ {cells:List (Str×Addr)} {names:List (Str×NameKind)} {n:Str} {c:Addr} (hc:cells.lookup n=some c) (h:(n,NameKind.free)∈names):(dw cells names).lookup n=some c:=by
 obtain ⟨c',e⟩:=fu (mn hc (acc:=[]) h)
 have:=c9 e
 rw [hc]at this
 cases this
 exact e
noncomputable def ba (sc0 scope:Scope):List (Str×NameKind):=
 scope.names.map fun (n,k)=>if (k== .free&&sc0.kind== .function&&sc0.names.lookup n==some .cell)then (n,.cell)else (n,k)
structure fM (sc0:Scope) (N0:List Str) (scope:Scope) (x:Str) (ys:List Str) (fr:List Nat):Prop where
 kind:scope.kind=.function
 nocell: ∀ y∈scope.names,y.2≠ .cell
 loc: ∀ y∈scope.names,y.2=.local->scope.names.lookup y.1=some .local
 xl:(ba sc0 scope).lookup x=some .local
 free: ∀ y∈scope.names,y.2=.free->sc0.names.lookup y.1=some .cell
 nd:(x::ys).Nodup
 len:ys.length=fr.length
 sl: ∀ q∈ys.zip fr,N0[q.2]? =some q.1/\sc0.names.lookup q.1=some .cell/\(ba sc0 scope).lookup q.1=some .cell
theorem cok {sc0:Scope} {N0:List Str} {scope:Scope} {x:Str} {ys:List Str} {fr:List Nat} (kind_:scope.kind=.function:=by rfl) (nocell_: ∀ y∈scope.names,y.2≠ .cell:=by decide +kernel) (loc_: ∀ y∈scope.names,y.2=.local->scope.names.lookup y.1=some .local:=by decide +kernel) (xl_:(ba sc0 scope).lookup x=some .local:=by decide +kernel) (free_: ∀ y∈scope.names,y.2=.free->sc0.names.lookup y.1=some .cell:=by decide +kernel) (nd_:(x::ys).Nodup:=by decide +kernel) (len_:ys.length=fr.length:=by rfl) (sl_: ∀ q∈ys.zip fr,N0[q.2]? =some q.1/\sc0.names.lookup q.1=some .cell/\(ba sc0 scope).lookup q.1=some .cell:=by decide +kernel):fM sc0 N0 scope x ys fr:=⟨kind_,nocell_,loc_,xl_,free_,nd_,len_,sl_⟩
noncomputable def be (X:Cx) (x:Str) (ys:List Str) (scope:Scope) (C:Addr) (s:Shared) (H:Hp) (ex:List Addr):Cx:=
 {X with N:=x::ys,s₀:=s,H₀:=H,env:=compEnvC scope (dw X.env.cells scope.names) C X.env,outer:=X.stack,stack:=X.stack,ex:=ex,fn:=fun _=>false,pn:=[],xe:=fun _ _=>False}
section
variable {prog:Program} {w:World} {A:Around} {R:Result->Shared->Prop} {s:Shared}
theorem fz {elt target iter:Expr} {scope:Scope} {pos:Pos} {it acc:Value} {env:Env} (I:Nat->Shared->Prop)
  (turn: ∀ n s,I n s->wpAny (model prog w) A (pyNext it) (fun r s₁=>match r with
   | none=>R (.ok .next) s₁
   | some v=>wpAny (model prog w) A (letOwnedTupleGo target it v) (fun _ s₁'=>wpAny (model prog w) A (assign target env v) (fun _ s₂=>wpAny (model prog w) A (eval elt env) (fun x s₃=>
     wpAny (model prog w) A (call (.builtin "list.append") [acc,x]) (fun _ s₄=> ∃ m,m<n/\I m s₄) (fun _ _=>False) s₃) (fun _ _=>False) s₂) (fun _ _=>False) s₁') (fun _ _=>False) s₁) (fun _ _=>False) s)
  (n:Nat) (h:I n s):codeAny (model prog w) A (.compLoop (.ListComp elt [⟨target,iter,[],0⟩] scope pos) 0 it acc env) R s:=by
 refine codeAny_loop rfl I (fun n s hI=>?_) n h
 show wpAny _ _ ((compTurn (.ListComp elt [⟨target,iter,[],0⟩] scope pos) 0 it acc env).onRaise (fun x=>do noteFrame x env;theTreesLotGoes x)) _ _ s
 refine wpAny_noted ?_
 rw [compTurn_list1]
 refine wpAny_noRaise ?_
 refine wpAny_bind (wpAny_standAt (wpAny_bind (wpAny_mono (turn n s hI) (fun r s₁ h₁=>?_) fun _ _ h'=>h')))
 cases r with
 | none=>exact wpAny_pure h₁
 | some v=>
  refine wpAny_bind (wpAny_mono h₁ (fun _ s₁' h₁'=>?_) fun _ _ h'=>h')
  exact wpAny_bind (wpAny_mono h₁' (fun _ s₂ h₂=>wpAny_bind (wpAny_bind (wpAny_mono h₂ (fun x s₃ h₃=>wpAny_bind (wpAny_mono h₃
   (fun _ s₄ h₄=>wpAny_pure (wpAny_pure ⟨rfl,h₄⟩)) fun _ _ h'=>h')) fun _ _ h'=>h'))) fun _ _ h'=>h')
end
noncomputable def cn (fr:List Nat) (σ:St):St:=fr.map fun j=>(σ[j]?).join
noncomputable def eF (fr:List Nat) (te:TE) (σ:St) (J:It) (H1:Hp) (Q:VK):Prop:=
 ∀ p,H1 p=none-> ∃ W:Nat->Nat->List V->Hp->Prop,(∃ m,W 0 m [] (upd H1 p (.lst [])))/\ ∀ i m ys H,W i m ys H->H p=some (.lst ys)/\
  ((J.stop i H/\Q (.ref p) H)\/(J.go i H/\ys.length<sizeLine/\ ∀ x H',J.yld i H x H'->te (some x::cn fr σ) H' fun v H2=>
   H2 p=some (.lst ys)/\ ∃ m',m'<m/\W (i+1) m' (ys++[v]) (upd H2 p (.lst (ys++[v])))))
noncomputable def qM (wi:TI) (fr:List Nat) (te:TE):TE:=fun σ H Q=>wi σ H fun J H1=>eF fr te σ J H1 Q
section
variable {X:Cx} {x:Str} {px pos fpos:Pos} {iter elt:Expr} {scope sc0:Scope} {N0 ys:List Str} {fr:List Nat} {wi:TI} {te:TE} {pins:List (Addr×Obj)} {σ:St} {H:Hp} {s:Shared}
theorem jC {use:Option (Value->Sem Unit)} {Qv:Value->Shared->Prop} {Q:VK} (hcalm:X.calm=true) (hi:PI X (.Name x px) iter wi) (hsc:X.env.scope=sc0) (hN:X.N=N0) (ok:fM sc0 N0 scope x ys fr)
  (hE: ∀ C s H ex,PE (be X x ys scope C s H ex) elt te) (I:Inv X pins σ H s) (h:qM wi fr te σ H Q) (hs: ∀ v,foldedSetIterable iter X.env v=pure v)
  (fin: ∀ (p C:Addr) (H':Hp) (s':Shared) (m:Str->Option Value),Inv X pins σ H' s'->s'.heap.Ns C m->H' C=none->C≠X.env.locals->X.s₀.heap.objs.size<=C->(∀ y c,X.env.cells.lookup y=some c->c≠C)->(∀ q∈X.pn++pins,q.1≠C)->Q (.ref p) H'->
   compPost (model X.prog X.w) X.A X.xe use Qv (.ref p) C (.ok .next) s'):
  wpAny (model X.prog X.w) X.A (comprehension (.ListComp elt [⟨.Name x px,iter,[],0⟩] scope pos) scope X.env fpos (newList []) false (eval iter X.env) use) Qv X.xe s:=by
 subst hsc hN
 have hkof: ∀ y,X.env.kindOf y=X.env.scope.names.lookup y:=fun y=>rfl
 have hfree: ∀ y∈scope.names,y.2=.free-> ∃ c,X.env.cells.lookup y.1=some c:=fun y hy e=>I.ok.has y.1 (.inl (ok.free y hy e))
 refine wpAny_comprehension_free (gs:=[]) rfl hs (dI hfree) ok.kind ok.loc (thn (hi pins s σ H _ I h) fun v s1 h1=>thn h1 fun itv s2 h2=>?_)
 obtain ⟨it,fp,tn,J,H2,e,I2,T,st2,f2,hp⟩:=h2
 subst e
 refine wpAny_newObj_type (wpAny_newFunctionEnv ok.nocell (by intro y hy;simp at hy) (fun h₁ hns₁ hsb₁=>?_) ok.kind)
 dsimp only at hns₁ hsb₁ ⊢
 have I3:Inv X pins σ (upd H2 s2.heap.objs.size (.lst [])) {s2 with heap:=s2.heap.push {cls:=.type "list",data:=.seq ([]:List Value).toArray}}:=
  I2.lnew (its:=[]) (ys:=[]) (t':=s2.toks) .nil (Nat.zero_le _)
 have hf2: ∀ b∈fp,b<s2.heap.objs.size:=fun b hb=>by
  obtain ⟨o,e,_⟩:=T.obj _ _ st2 b hb
  exact Heap.lt_size e
 have hps:s2.heap.objs.size< (s2.heap.push {cls:=.type "list",data:=.seq ([]:List Value).toArray}).objs.size:=by rw [Heap.size_push];exact Nat.lt_succ_self _
 have W0:=hp s2.heap.objs.size I2.fresh
 have st3:tn 0 (s2.heap.push {cls:=.type "list",data:=.seq ([]:List Value).toArray}):=T.keep _ _ _ st2 fun b hb o e=>Heap.get?_push_of_some _ e
 generalize hpp:s2.heap.objs.size=p at I3 W0 hf2 hps ⊢
 generalize hh3:(s2.heap.push {cls:=.type "list",data:=.seq ([]:List Value).toArray})=h3 at I3 hns₁ hsb₁ hps st3 ⊢
 generalize hH3:upd H2 p (.lst [])=H3 at I3 W0
 have hold: ∀ b o,h3.get? b=some o->h₁.get? b=some o:=fun b o e=>hsb₁.extBut b o (Nat.ne_of_lt (Heap.lt_size e)) (Heap.get?_push_of_some _ e)
 have fH3: ∀ b∈fp,H3 b=none:=fun b hb=>by
  rw [<- hH3,am (Nat.ne_of_lt (hf2 b hb))]
  exact (f2 b hb).1
 have hclos: ∀ y c,(dw X.env.cells scope.names).lookup y=some c->X.env.cells.lookup y=some c:=fun y c e=>c9 e
 have hcell3: ∀ y c,X.env.cells.lookup y=some c->c<h3.objs.size:=fun y c e=>by
  obtain ⟨v,o,ho,_⟩:=I3.cell y c e
  exact Heap.lt_size ho
 have hlt3:X.env.locals<h3.objs.size:=I3.lt
 have Yok:(be X x ys scope h3.objs.size {s2 with heap:=h3} H3 fp).Ok:={
  mod:=I.ok.mod
  kind:=ok.kind
  glob:=I.ok.glob
  blt:=I.ok.blt
  above:=Nat.le_refl _
  inj:=fun y z c e1 e2=>I.ok.inj y z c (hclos _ _ e1) (hclos _ _ e2)
  has:=fun y hk=>by
   have hfr:(y,NameKind.free)∈scope.names:=by
    have hm: ∃ k,(ba X.env.scope scope).lookup y=some k/\(k=.cell\/k=.free):=by
     rcases hk with hk | hk
     ·exact ⟨_,hk,.inl rfl⟩
     ·exact ⟨_,hk,.inr rfl⟩
    obtain ⟨k,hk,hkk⟩:=hm
    have hmem:=mem_of_lookup hk
    unfold ba at hmem
    obtain ⟨⟨n,k0⟩,hn,en⟩:=List.mem_map.mp hmem
    dsimp only at en
    split at en
    ·rename_i hc
     simp only [Bool.and_eq_true]at hc
     have hk0:k0=.free:=by simpa using hc.1.1
     cases en
     rw [<- hk0]
     exact hn
    ·cases en
     rcases hkk with e | e
     ·exact absurd e (ok.nocell _ hn)
     ·rw [<- e]
      exact hn
   obtain ⟨c,hc⟩:=hfree _ hfr rfl
   exact ⟨c,cQ hc hfr⟩
  cab:=fun y c hf _=>by cases hf
  hd:=I.ok.hd
  frames:=I.ok.frames
  stk:=.inl rfl
  exf:=fun b hb=>⟨fun e=>absurd (hf2 b hb) (by rw [e];exact Nat.not_lt.mpr (Nat.le_of_lt hps)),fun y c e=>(f2 b hb).2.2.2.2.1 y c (hclos _ _ e)⟩
  bs:=fun b o e=>⟨(I3.bs b o e).1,(I3.bs b o e).2⟩
  bsz:=Nat.le_trans I.ok.bsz I3.sz
  noex:=fun b o e hb=>by
   rcases (f2 b hb).2.2.2.1 with q | q
   ·exact I.ok.noex b o e q
   ·have h1:b<X.base.objs.size:=Heap.lt_size e
    exact absurd h1 (Nat.not_lt.mpr (Nat.le_trans I.ok.bsz q))
  exfs:=fun b hb hm=>by
   rcases List.mem_cons.mp (I3.stkSub b hm)with q | q
   ·exact (f2 b hb).2.1 q
   ·exact (f2 b hb).2.2.1 q
  funs:=I3.stack
  frf:=I3.stkFree}
 have IY:Inv (be X x ys scope h3.objs.size {s2 with heap:=h3} H3 fp) [] (none::cn fr σ) H3 {s2 with heap:=h₁,toks:=s2.toks+ ([]:List (Str×Value)).length}:={
  ok:=Yok
  os:=rfl
  bare:=I2.bare
  base:=Un.kept hold
  loc:=by
   refine ⟨_,hns₁,fun i y v hy hv hvis=>?_⟩
   cases i with
   | zero=>cases hv
   | succ j=>
    have hy':ys[j]? =some y:=hy
    have hv':(cn fr σ)[j]? =some (some v):=hv
    unfold cn at hv'
    rw [List.getElem?_map]at hv'
    obtain ⟨i0,hi0,hv0⟩:=Option.map_eq_some_iff.mp hv'
    have hz:(y,i0)∈ys.zip fr:=by
     refine List.mem_iff_getElem?.mpr ⟨j,?_⟩
     rw [List.getElem?_zip_eq_some]
     exact ⟨hy',hi0⟩
    obtain ⟨hn,hk,hk2⟩:=ok.sl _ hz
    have hσ:σ[i0]? =some (some v):=by
     cases e:σ[i0]? with
     | none=>rw [e]at hv0;cases hv0
     | some o=>
      rw [e]at hv0
      rw [show o=some v from hv0]
    obtain ⟨m,hm,hl⟩:=I3.loc
    obtain ⟨u,ru,lk⟩:=hl i0 y v hn hσ (.inr (.inl hk))
    refine ⟨u,ru,.inr ⟨.inl hk2,?_⟩⟩
    rcases lk with ⟨a,_⟩ | ⟨_,c,hc,hcell⟩
    ·have a':X.env.scope.names.lookup y=some .local:=a
     have hk':X.env.scope.names.lookup y=some .cell:=hk
     rw [hk']at a'
     cases a'
    ·have hfr:(y,NameKind.free)∈scope.names:=by
      have hmem:=mem_of_lookup hk2
      unfold ba at hmem
      obtain ⟨⟨n,k0⟩,hn0,en⟩:=List.mem_map.mp hmem
      dsimp only at en
      split at en
      ·rename_i hc0
       simp only [Bool.and_eq_true]at hc0
       have hk0:k0=.free:=by simpa using hc0.1.1
       cases en
       rw [<- hk0]
       exact hn0
      ·cases en
       exact absurd rfl (ok.nocell _ hn0)
     exact ⟨c,cQ hc hfr,hcell.keeps hold⟩
  cell:=fun y c e=>by
   obtain ⟨v,hv⟩:=I3.cell y c (hclos _ _ e)
   exact ⟨v,hv.keeps hold⟩
  free:=I3.fresh
  freeC:=fun y c e=>I3.freeC y c (hclos _ _ e)
  pin:=fun q hq=>by cases hq
  hok:=I3.hok.kept hold
  len:=by
   show (none::cn fr σ).length=(x::ys).length
   rw [List.length_cons,List.length_cons,ok.len]
   unfold cn
   rw [List.length_map]}
 have hxl:(be X x ys scope h3.objs.size {s2 with heap:=h3} H3 fp).env.scope.names.lookup x=some .local:=ok.xl
 have pgx:PG (be X x ys scope h3.objs.size {s2 with heap:=h3} H3 fp) (.Name x px) (dH 0):=aO (i:=0) ok.nd rfl (.inl hxl) (.inr hxl)
 have pel:=hE h3.objs.size {s2 with heap:=h3} H3 fp
 obtain ⟨W,⟨m0,w0⟩,turn⟩:=W0
 have stat: ∀ {H':Hp},(∀ b∈fp,H' b=none)-> ∀ b∈fp,jn (be X x ys scope h3.objs.size {s2 with heap:=h3} H3 fp) [] H' b:=fun hn b hb=>
  ⟨hn b hb,(Yok.exf b hb).1,Yok.exfs b hb,.inl hb,(Yok.exf b hb).2,fun q hq=>by cases hq⟩
 have loop:codeAny (model X.prog X.w) X.A (.compLoop (.ListComp elt [⟨.Name x px,iter,[],0⟩] scope pos) 0 (.ref it) (.ref p) (compEnvC scope (dw X.env.cells scope.names) h3.objs.size X.env))
   (compPost (model X.prog X.w) X.A X.xe use Qv (.ref p) h3.objs.size) {s2 with heap:=h₁,toks:=s2.toks+ ([]:List (Str×Value)).length}:=by
  refine fz (fun n s'=> ∃ i zs v0 H',Inv (be X x ys scope h3.objs.size {s2 with heap:=h3} H3 fp) [] (v0::cn fr σ) H' s'/\tn i s'.heap/\(∀ b∈fp,H' b=none)/\W i n zs H') ?_ m0
   ⟨0,[],none,H3,IY,T.keep _ _ _ st3 fun b hb o e=>hold b o e,fH3,w0⟩
  rintro n s5 ⟨i,zs,v0,H5,I5,st5,fr5,w5⟩
  obtain ⟨hacc,turn5⟩:=turn i n zs H5 w5
  rcases turn5 with ⟨stop,qn⟩ | ⟨go,hlen,step⟩
  ·refine thn (T.done (be X x ys scope h3.objs.size {s2 with heap:=h3} H3 fp) rfl rfl rfl hcalm i [] s5 _ H5 _ I5 (stat fr5) st5 stop) fun r s6 ⟨hr,I6⟩=>?_
   subst hr
   obtain ⟨m6,n6,_⟩:=I6.loc
   refine fin p h3.objs.size H5 s6 m6 (I3.call' I6.os I6.base I6.hok I6.bare fun b hb=>⟨(f2 b hb).2.2.2.1,(f2 b hb).2.1,(f2 b hb).2.2.2.2.1,(f2 b hb).2.2.2.2.2⟩) n6 I6.free (Nat.ne_of_gt hlt3) I3.sz (fun y c e=>Nat.ne_of_lt (hcell3 y c e)) (fun q hq=>?_) qn
   exact Nat.ne_of_lt (Heap.lt_size (I3.pin q hq).1)
  ·refine thn (T.item (be X x ys scope h3.objs.size {s2 with heap:=h3} H3 fp) rfl rfl rfl hcalm i [] s5 _ H5 _ I5 (stat fr5) st5 go) fun r s6 ⟨u,hr,h6⟩=>?_
   subst hr
   refine thn h6 fun _ s7 ⟨xv,H7,I7,r7,y7,st7,fr7⟩=>?_
   have I7':=I7.pinned (stat fr7) (T.obj _ _ st7)
   refine thn (pgx _ s7 _ H7 xv u (fun σ' H'=>σ'=some xv::cn fr σ/\H'=H7) I7' r7 ⟨rfl,rfl⟩) fun _ s8 ⟨σ8,H8,I8,e8,e8'⟩=>?_
   subst e8 e8'
   refine thn (pel _ s8 _ H8 _ I8 (step xv H8 y7)) fun yv s9 ⟨v9,H9,I9,r9,hp9,m',hm',w9⟩=>?_
   refine thn (cr _ s9 _ H9 (.ref p) [v9] (.ref p) [yv] (fun _ H'=>H'=upd H9 p (.lst (zs++[v9]))) I9 rfl (.cons r9 .nil) ⟨p,zs,v9,rfl,rfl,hp9,hlen,rfl⟩) fun _ s10 ⟨_,H10,I10,_,e10⟩=>?_
   subst e10
   refine ⟨m',hm',i+1,zs++[v9],some xv,_,I10.unpinned,T.keep _ _ _ st7 fun b hb o e=>(I10.pin (b,o) (List.mem_append_right _ (List.mem_append_right _ (br hb e)))).1,fun b hb=>?_,w9⟩
   obtain ⟨o,e,d⟩:=T.obj _ _ st7 b hb
   exact (I10.pin (b,o) (List.mem_append_right _ (List.mem_append_right _ (br hb e)))).2.1
 exact codeAny_compStart_list loop (T.self X.A 0 _ _ _ (T.keep _ _ _ st3 fun b hb o e=>hold b o e) loop)
theorem a9 (hcalm:X.calm=true) (hi:PI X (.Name x px) iter wi) (hsc:X.env.scope=sc0) (hN:X.N=N0) (ok:fM sc0 N0 scope x ys fr)
  (hE: ∀ C s H ex,PE (be X x ys scope C s H ex) elt te) (hs: ∀ v,foldedSetIterable iter X.env v=pure v:=by intro _;rfl):
  PE X (.ListComp elt [⟨.Name x px,iter,[],0⟩] scope pos) (qM wi fr te):=by
 intro pins s σ H Q I h
 rw [eval_ListComp]
 refine jC (use:=none) (Qv:=EP X pins σ Q) (Q:=Q) hcalm hi hsc hN ok hE I h hs fun p C H' s' m I' hn h0 h1 h2 h3 h4 q=>?_
 refine ⟨m,hn,fun h' sb=>⟨.ref p,H',I'.turned (t':=s'.toks) (fun b o hb e=>sb.extBut b o hb e) h0 (Ne.symm (Ne.symm h1)) (.inr h2) h3 h4,rfl,q⟩⟩
theorem fW {i:Nat} {y:Str} {py spos:Pos} (hcalm:X.calm=true) (hnd:X.N.Nodup) (hiN:X.N[i]? =some y) (hy:Loc X.env.scope y) (hi:PI X (.Name x px) iter wi) (hsc:X.env.scope=sc0) (hN:X.N=N0) (ok:fM sc0 N0 scope x ys fr)
  (hE: ∀ C s H ex,PE (be X x ys scope C s H ex) elt te) (hsw:swapsWith (.ListComp elt [⟨.Name x px,iter,[],0⟩] scope pos) (some (.Name y py)) spos.line X.env=pure true:=by rfl)
  (hs: ∀ v,foldedSetIterable iter X.env v=pure v:=by intro _;rfl) (hf:X.fn y=true\/X.env.scope.names.lookup y=some .local:=by first | exact .inl rfl | exact .inr rfl | assumption):
  PS X (.Assign [.Name y py] (.ListComp elt [⟨.Name x px,iter,[],0⟩] scope pos) spos) (jK (qM wi fr te) (dH i)):=by
 intro pins s σ H D I h
 rw [exec_Assign_Name_used _ _ _ _ hsw]
 refine wpAny_bind (wpAny_standAt (wpAny_bind ?_))
 show wpAny _ X.A (do let _ <- comprehension (.ListComp elt [⟨.Name x px,iter,[],0⟩] scope pos) scope X.env _ (newList []) false (eval iter X.env) (some (assign (.Name y py) X.env))) _ _ s
 refine wpAny_bind (thn (jC (use:=some (assign (.Name y py) X.env)) (Qv:=fun _ s'=>SP X pins D .next s') (Q:=fun v H'=>D.nx (σ.set i (some v)) H') hcalm hi hsc hN ok hE I h hs fun p C H' s' m I' hn h0 h1 h2 h3 h4 q=>?_) fun _ s' hq=>wpAny_pure (wpAny_pure hq))
 show wpAny _ X.A (assign (.Name y py) X.env (.ref p)) _ _ s'
 refine wpAny_assign_Name (gA (v:=.ref p) I' hnd hiN hy rfl (fun s'' I'' ⟨a,sb,ha⟩=>?_) hf)
 have hCa:C≠a:=by
  rcases ha with e | e
  ·rw [e];exact h1
  ·exact (h3 y a e).symm
 refine ⟨m,hn.sameBut sb hCa,fun h' sb'=>⟨_,H',I''.turned (t':=s''.toks) (fun b o hb e=>sb'.extBut b o hb e) h0 h1 (.inr h2) h3 h4,q⟩⟩
theorem dX {n:Nat} {J:It} {H1:Hp} {Q:VK} {R:Nat->V->Prop} (hn:n<=1000) (hgo: ∀ i H,i<n->J.go i H) (hstop: ∀ H,J.stop n H) (hy: ∀ i H v H',J.yld i H v H'->H'=H/\R i v)
  (Pv:Addr->Nat->List V->Hp->Prop) (h0: ∀ p,H1 p=none->Pv p 0 [] (upd H1 p (.lst []))) (hl: ∀ p i zs H,Pv p i zs H->H p=some (.lst zs)/\zs.length=i)
  (hs: ∀ p i zs H v (k:VK),H1 p=none->i<n->R i v->Pv p i zs H->(∀ u H2,H2 p=some (.lst zs)->Pv p (i+1) (zs++[u]) (upd H2 p (.lst (zs++[u])))->k u H2)->te (some v::cn fr σ) H k)
  (hd: ∀ p zs H,H1 p=none->Pv p n zs H->Q (.ref p) H):eF fr te σ J H1 Q:=by
 intro p hp
 refine ⟨fun i m zs H=>i<=n/\m=n-i/\Pv p i zs H,⟨n,Nat.zero_le _,by simp,h0 p hp⟩,?_⟩
 rintro i m zs H ⟨hi,hm,q⟩
 obtain ⟨hp',hz⟩:=hl p i zs H q
 refine ⟨hp',?_⟩
 by_cases e:i=n
 ·subst e
  exact .inl ⟨hstop H,hd p zs H hp q⟩
 ·have hlt:i<n:=by omega
  refine .inr ⟨hgo i H hlt,aF (by omega),fun v H' hv=>?_⟩
  obtain ⟨rfl,r⟩:=hy i H v H' hv
  refine hs p i zs H' v _ hp hlt r q fun u H2 a b=>?_
  exact ⟨a,n- (i+1),by omega,by omega,rfl,b⟩
theorem nY {lo:Int} {n:Nat}: ∀ i H,i<n->(Itr lo n).go i H:=fun _ _ h=>h
theorem iX {lo:Int} {n:Nat}: ∀ H,(Itr lo n).stop n H:=fun _=>Nat.le_refl n
theorem kx {lo:Int} {n:Nat}: ∀ i H v H',(Itr lo n).yld i H v H'->H'=H/\v=.int (lo+i):=fun _ _ _ _ h=>h
theorem sJ {n:Nat} {R:Nat->V->Prop}: ∀ i H,i<n->(Itw n R).go i H:=fun _ _ h=>h
theorem l8 {n:Nat} {R:Nat->V->Prop}: ∀ H,(Itw n R).stop n H:=fun _=>rfl
theorem oR {n:Nat} {R:Nat->V->Prop}: ∀ i H v H',(Itw n R).yld i H v H'->H'=H/\R i v:=fun _ _ _ _ h=>h
end
noncomputable def oK:Expr->Bool
 | .Starred _ _=>false
 | _=>true
theorem jj {e:Expr} {es:List Expr} {env:Env} (h:oK e=true):starEach (e::es) env=(false,eval e env)::starEach es env:=by
 cases e <;> first | rfl | cases h
theorem pac {X:Cx} {e:Expr} {es:List Expr} {te:TE} {t:TA} (ha:PE X e te) (hr:PA X es t) (h:oK e=true:=by rfl):PA X (e::es) (uF te t):=aa ha hr (jj h)
noncomputable def n9:Const->Option V
 | .str x=>some (.str x)
 | .int i=>some (.int i)
 | .bool b=>some (.bl b)
 | .none=>some .non
 | _=>none
noncomputable def gi:List Expr->Option (List V)
 | []=>some []
 | .Constant c _ _::r=>(match n9 c,gi r with | some v,some vs=>some (v::vs) | _,_=>none)
 | _::_=>none
theorem rG {X:Cx} {c:Const} {j:Nat} {pos:Pos} {v:V} (h:n9 c=some v):PE X (.Constant c j pos) (tC v):=by
 cases c with
 | str x=>cases h;exact aG
 | int i=>cases h;exact ae
 | bool b=>cases h;exact cj
 | none=>cases h;exact gL
 | _=>cases h
theorem jw {X:Cx}: ∀ {es:List Expr} {vs:List V},gi es=some vs->PA X es (fun _ H Q=>Q vs H)
 | [],vs,h=>by
  cases h
  exact ab
 | e::r,vs,h=>by
  cases e with
  | Constant c j pos=>
   simp only [gi]at h
   cases hc:n9 c with
   | none=>rw [hc]at h;cases h
   | some v=>
    cases hr:gi r with
    | none=>rw [hc,hr]at h;cases h
    | some ws=>
     rw [hc,hr]at h
     cases h
     exact pac (rG hc) (jw hr)
  | _=>cases h
theorem tR {X:Cx} {i:Nat} {x:Str} {es:List Expr} {vs:List V} {pos p pos':Pos} (hN:X.N.Nodup) (hi:X.N[i]? =some x) (hx:Loc X.env.scope x) (hf:X.fn x=true\/X.env.scope.names.lookup x=some .local) (h:gi es=some vs):
  PS X (.Assign [.Name x pos'] (.List es p) pos) (jK (vK (fun _ H Q=>Q vs H)) (dH i)):=
 aw hN hi hx (bd (jw h)) rfl hf
end L2
namespace HT
open PySem PyProof.Rows
section
variable {prog:Program} {w:World} {A:Around} {s:Shared} {E:Value->Shared->Prop}
theorem mw (n:Nat):Builtin.Slice.sliceAdjust none none (-1) (n:Int)=((n:Int) -1,-1):=by
 unfold Builtin.Slice.sliceAdjust
 simp
theorem lK (n:Nat):Builtin.Slice.slicePlaces ((n:Int) -1) (-1) (-1)=n:=by
 unfold Builtin.Slice.slicePlaces
 have h1: ¬ ((-1:Int) >0):=by omega
 simp only [h1,if_false]
 rw [show (- -1:Int)=1 by decide,Int.ediv_one]
 split <;> omega
theorem kG {sl:Addr} {t:Tok} {n:Nat} {Q:Int×Int×Nat->Shared->Prop} (hs:s.heap.IsSliceOf sl .none .none (.int (-1) t)) (h:Q ((n:Int) -1,-1,n) s):
  wpAny (model prog w) A (Builtin.Slice.sliceApplied (.ref sl) (pure (n:Int))) Q E s:=by
 obtain ⟨os,hos,hcs,hds⟩:=id hs
 unfold Builtin.Slice.sliceApplied Builtin.Slice.sliceFields
 refine wpAny_bind (wpAny_bind (wpAny_field hos hds (x:=.none) rfl (wpAny_bind (wpAny_field hos hds (x:=.none) rfl (wpAny_bind (wpAny_field hos hds (x:=.int (-1) t) rfl (wpAny_pure ?_)))))))
 refine wpAny_bind (dh (.int (-1) t) ?_)
 show wpAny _ _ (if ((-1:Int)==0)=true then _ else _) _ _ s
 rw [if_neg (by decide)]
 refine wpAny_bind (dh .none (wpAny_bind (dh .none (wpAny_bind (wpAny_pure ?_)))))
 show wpAny _ _ (match Builtin.Slice.sliceAdjust none none (-1) (n:Int)with | (lo,hi)=>pure (lo,(-1:Int),Builtin.Slice.slicePlaces lo hi (-1))) _ _ s
 rw [mw n]
 show wpAny _ _ (pure ((n:Int) -1,(-1:Int),Builtin.Slice.slicePlaces ((n:Int) -1) (-1) (-1))) _ _ s
 rw [lK]
 exact wpAny_pure h
theorem mh {α β:Type} {f g:α->Option β}: ∀ {l:List α},(∀ x∈l,f x=g x)->l.filterMap f=l.filterMap g
 | [],_=>rfl
 | x::r,h=>by rw [List.filterMap_cons,List.filterMap_cons,h x List.mem_cons_self,mh fun y hy=>h y (List.mem_cons_of_mem _ hy)]
theorem pQ (xs:Array Value):((List.range xs.size).filterMap fun (m:Nat)=>xs[((xs.size:Int) -1+ (m:Int) * -1).toNat]?).toArray=xs.toList.reverse.toArray:=by
 congr 1
 rw [<- L2.rev_pick xs.toList,List.filterMap_map,Array.length_toList]
 refine mh fun m hm=>?_
 have:=List.mem_range.mp hm
 have e:((xs.size:Int) -1+ (m:Int) * -1).toNat=xs.size-1-m:=by omega
 rw [e]
 simp
theorem getItem_tuple_back {a sl:Addr} {items:Array Value} {t:Tok} {Q:Value->Shared->Prop} (ht:IsTup s.heap a items) (hs:s.heap.IsSliceOf sl .none .none (.int (-1) t))
  (h:Q (.ref s.heap.objs.size) {s with heap:=s.heap.push {cls:=.type "tuple",data:=.seq items.toList.reverse.toArray}})
  (hsz:items.size<=sizeLine):wpAny (model prog w) A (getItem (.ref a) (.ref sl)) Q E s:=by
 have hok:sizeOk (.seq items.toList.reverse.toArray):=by
  show items.toList.reverse.toArray.size<=sizeLine
  rw [List.size_toArray,List.length_reverse,Array.length_toList]
  exact hsz
 obtain ⟨os,hos,hcs,hds⟩:=id hs
 have hTs:s.TypeIs (.ref sl) "slice":=⟨os,hos,hcs⟩
 unfold getItem
 try with_reducible refine wpAny_holding ?_
 first | refine wpAny_bind (wpAny_pure ?_) | skip
 refine wpAny_bind (wpAny_sequenceKey ht.typeIs (by decide) ?_)
 refine wpAny_bind (wpAny_callSpecial?_slot (name:=Str.ofString "__getitem__") ht.typeIs PyProof.Rows.slot_tuple_getitem
  (wpAny_call_entry PyProof.Rows.slot_tuple_getitem ht.typeIs entry_tuple_getitem ?_ (args_tuple_getitem _ _)))
 show wpAny _ _ (Builtin.Tuple.tupleItemsOf (.ref a) >>= _) _ _ s
 refine wpAny_bind (tupleItemsOf_ ht ?_)
 refine wpAny_bind (wpAny_typeOf hTs ?_)
 rw [if_pos (by decide)]
 refine wpAny_bind (kG hs ?_)
 show wpAny _ _ (if (((items.size:Int) -1)==0&&(-1:Int)==1&&items.size==items.size)=true then _ else _) _ _ s
 rw [if_neg (by simp),pQ]
 first
  | exact wpAny_bind (m:=Builtin.Tuple.tupleExact _) (wpAny_newObj_type (wpAny_pure ⟨_,rfl,wpAny_pure h⟩) hok)
  | exact wpAny_bind (m:=Builtin.Tuple.tupleExact _) (wpAny_newObj_type (wpAny_bind (wpAny_pure (wpAny_pure ⟨_,rfl,wpAny_pure h⟩))) hok)
  | exact wpAny_bind (wpAny_bind (m:=Builtin.Tuple.tupleExact _) (wpAny_newObj_type (wpAny_pure (wpAny_pure ⟨_,rfl,wpAny_pure h⟩)) hok))
  | exact wpAny_bind (wpAny_bind (m:=Builtin.Tuple.tupleExact _) (wpAny_newObj_type (wpAny_pure ⟨_,rfl,wpAny_pure h⟩) hok))
end
end HT
namespace L2
open PySem PySem.Spec PyProof.Rows
section
variable {X:Cx} {e k:Expr} {te tk:TE} {pos p2:Pos}
noncomputable def uR (K:PySem.W.Frag) (te tk:TE):TE:=fun σ H Q=>te σ H fun x H1=>tk σ H1 fun y H2=> ∃ a xs,x=.ref a/\y=.int (-1)/\SqT K H2 a xs/\ ∀ p,H2 p=none->Q (.ref p) (upd H2 p (.tup xs.reverse))
theorem qF {xs:List V} {us:List Value} (h:Vals xs us):Vals xs.reverse us.reverse:=by
 rw [<- rev_pick xs,<- rev_pick us,h.length]
 exact dJ _ h
theorem rH (he:PE X e te) (hk:PE X k tk):PE X (.Subscript e (.Slice none none (some k) p2) pos) (uR X.K te tk):=by
 intro pins s σ H Q I h
 refine Subscript_ (thn (he pins s σ H _ I h) fun v s1 ⟨x,H1,I1,r1,q1⟩=>?_)
 refine wpAny_Slice ?_
 rw [evalPart_none,evalPart_some]
 refine wpAny_pure (wpAny_pure ?_)
 refine thn (hk pins s1 σ H1 _ I1 q1) fun vk s3 ⟨y,H3,I3,ry,a,xs,ex,ey,hq,q⟩=>?_
 subst ex ey
 obtain ⟨t,rfl⟩:=ry
 cases r1
 have I4:Inv X pins σ H3 {s3 with heap:=s3.heap.push {cls:=.type "slice",data:=.fields #[.none,.none,.int (-1) t]}}:=I3.kept (t':=s3.toks) fun b ob q=>Heap.get?_push_of_some _ q
 obtain ⟨its,r,ht,hz⟩:=I4.tuple hq
 show wpAny (model X.prog X.w) X.A (subscriptTail e (.Slice none none (some k) p2) (.ref a) (.ref s3.heap.objs.size)) (EP X pins σ Q) X.xe {s3 with heap:=s3.heap.push {cls:=.type "slice",data:=.fields #[.none,.none,.int (-1) t]}}
 refine tail_any (ops:=[.ref a,.ref s3.heap.objs.size]) ht.typeIs PyProof.Rows.slot_tuple_getitem.lookup (HT.getItem_tuple_back ht (Heap.IsSliceOf.new ..) ?_ (by rw [List.size_toArray,<- r.length];exact hz)) (by with_unfolding_all rfl)
 refine ⟨.ref (s3.heap.push {cls:=.type "slice",data:=.fields #[.none,.none,.int (-1) t]}).objs.size,_,I4.laid (t':=s3.toks) (o:=.tup xs.reverse) (fun b ob q=>Heap.get?_push_of_some _ q) (Nat.le_refl _) ?_,rfl,q _ I4.fresh⟩
 exact ⟨by rw [List.length_reverse];exact hz,_,qF r,IsTup.new _ _⟩
end
section
variable {X:Cx}
noncomputable def jL:List Int->Int
 | []=>0
 | n::r=>n+jL r
end
end L2
namespace HT
open PySem PyProof.Rows
section
variable {prog:Program} {w:World} {A:Around} {s:Shared} {E:Value->Shared->Prop} {d j:Addr} {ks:List Value} {i ep:Nat}
noncomputable def DEs (h:Heap) (d:Addr) (ks:List Value) (ep:Nat):Prop:= ∃ o es,h.get? d=some o/\o.ExactDict/\o.data=.dict es ep/\es.toList.map (·.key)=ks
theorem DEs.type (m:DEs s.heap d ks ep):s.TypeIs (.ref d) "dict":=by
 obtain ⟨o,_,ho,hc,_⟩:=m
 exact ⟨o,ho,hc.1⟩
theorem DEs.keeps {h h':Heap} (m:DEs h d ks ep) (k: ∀ o,h.get? d=some o->h'.get? d=some o):DEs h' d ks ep:=by
 obtain ⟨o,es,ho,r⟩:=m
 exact ⟨o,es,k o ho,r⟩
theorem DEs.lt {h:Heap} (m:DEs h d ks ep):d<h.objs.size:=by
 obtain ⟨o,es,ho,_⟩:=m
 exact Heap.lt_size ho
theorem gH {es:Array DictEntry} (e:es.toList.map (·.key)=ks):es.size=ks.length:=by
 rw [<- e,List.length_map,Array.length_toList]
theorem sK {Q:Value->Shared->Prop} (lo:(d==sysModules)=false) (m:DEs s.heap d ks ep)
  (q:Q (.ref s.heap.objs.size) {s with heap:=s.heap.push {cls:=.type "dict_keyiterator",data:=.fields #[.ref d,.int 0 0,.int ks.length 0,.int ep 0]}}):wpAny (model prog w) A (pyIter (.ref d)) Q E s:=by
 have ty:=m.type
 obtain ⟨o,es,ho,hc,hdat,hk⟩:=m
 refine wpAny_pyIter_slot ty PySem.F.slot_dict_iter (wpAny_call_entry PySem.F.slot_dict_iter ty PySem.F.entry_dict_iter ?_ (PySem.F.args_dict_iter_1 _))
 unfold Builtin.«dict.__iter__» Builtin.Dict.dictSlotNone
 refine wpAny_bind (wpAny_bind (wpAny_notOrdered_dict ty ?_))
 refine wpAny_pure (show wpAny _ _ (Builtin.Dict.showsAll d >>= _) _ _ s from ?_)
 unfold Builtin.Dict.showsAll
 rw [if_neg (by rw [lo];exact Bool.false_ne_true)]
 refine wpAny_bind (wpAny_pure (wpAny_bind (wpAny_dictEntries ho hdat (wpAny_bind (wpAny_dictEpoch ho hdat ?_)))))
 refine wpAny_bind (wpAny_newObj_type (wpAny_pure ⟨_,rfl,"dict_keyiterator",_,⟨_,Heap.get?_push_size _ rfl,rfl⟩,PySem.F.slot_dict_keyiterator_next.lookup,?_⟩))
 simpa [rawInt,gH hk]using q
theorem sf {x:Value} {Q:Option Value->Shared->Prop} (st:s.heap.IsKeyIter j d i ks.length ep) (m:DEs s.heap d ks ep) (hx:ks[i]? =some x)
  (q: ∀ h',h'.IsKeyIter j d (i+1) ks.length ep->Heap.SameBut j s.heap h'->Q (some x) {s with heap:=h'}):wpAny (model prog w) A (pyNext (.ref j)) Q E s:=by
 have ty:=st.typeIs
 obtain ⟨o,ho,hc,hd⟩:=id st
 obtain ⟨od,es,hod,hcd,hdd,hk⟩:=m
 have hz:=gH hk
 have hlt:i<ks.length:=(List.getElem?_eq_some_iff.mp hx).1
 have hes:i<es.size:=by omega
 have hkey:es[i].key=x:=by
  have e1:(es.toList.map (·.key))[i]? =some x:=by rw [hk];exact hx
  rw [List.getElem?_map,Array.getElem?_toList,Array.getElem?_eq_getElem hes]at e1
  exact Option.some.inj e1
 unfold pyNext
 refine wpAny_bind (wpAny_attempt (wpAny_callSpecial?_slot (name:=Str.ofString "__next__") ty PySem.F.slot_dict_keyiterator_next (wpAny_call_entry PySem.F.slot_dict_keyiterator_next ty PySem.F.entry_dict_keyiterator_next ?_ (PySem.F.args_dict_keyiterator_next_1 _))))
 refine wpAny_bind (wpAny_pure (wpAny_bind (wpAny_bind ?_)))
 first | refine wpAny_bind (wpAny_typeNameOfWhole_keyiter ty (wpAny_pure (wpAny_bind (wpAny_fieldsOf ho hd ?_)))) | refine wpAny_bind (wpAny_typeNameOf_keyiter ty (wpAny_pure (wpAny_bind (wpAny_fieldsOf ho hd ?_))))
 have own:Builtin.Dict_items.ownsTuple "dict_keyiterator"=false:=by decide
 simp only [own,Bool.false_eq_true,if_false]
 refine (show wpAny _ _ (if (Value.ref d==Value.none)=true then _ else _) _ _ s from ?_)
 rw [if_neg fun b0:(Value.ref d==Value.none)=true=>Bool.false_ne_true b0]
 refine wpAny_bind (wpAny_pure (wpAny_bind (wpAny_dictEntries hod hdd ?_)))
 rw [if_neg (by rw [hz];simp)]
 refine wpAny_bind (wpAny_pure (wpAny_bind (wpAny_dictEpoch hod hdd ?_)))
 rw [if_neg (by simp)]
 refine wpAny_pure ?_
 simp only [show ¬ ((i:Int) <0)from by omega,if_false,Int.toNat_natCast,Array.getElem?_eq_getElem hes]
 refine wpAny_bind ?_
 first | refine wpAny_bind (wpAny_typeNameOfWhole_keyiter ty (wpAny_pure (wpAny_bind (wpAny_isOneOf_keyiter ty ?_)))) | refine wpAny_bind (wpAny_typeNameOf_keyiter ty (wpAny_pure (wpAny_bind (wpAny_isOneOf_keyiter ty ?_))))
 refine (show wpAny _ _ (setField (.ref j) 1 (rawInt ((i:Int) +1)) >>= _) _ _ s from ?_)
 refine wpAny_bind (wpAny_setField ho hd (by simp) ?_)
 have st':(s.heap.update j (Obj.mapFields (·.setIfInBounds 1 (rawInt ((i:Int) +1))))).IsKeyIter j d (i+1) ks.length ep:=by
  refine ⟨_,Heap.get?_update_self _ ho (Obj.isFreed_of_fields (Obj.data_mapFields hd _)),(Obj.cls_mapFields ..).trans hc,?_⟩
  rw [Obj.data_mapFields hd];simp [rawInt]
 refine wpAny_bind (wpAny_holding (wpAny_bind (wpAny_isOneOf_keyiter (s:={s with heap:=s.heap.update j (Obj.mapFields (·.setIfInBounds 1 (rawInt ((i:Int) +1))))}) st'.typeIs ?_)))
 refine (show wpAny _ _ (pure es[i].key) _ _ _ from ?_)
 rw [hkey]
 exact wpAny_pure (wpAny_pure ⟨_,rfl,wpAny_pure (q _ st' (Heap.SameBut.update ..))⟩)
theorem uy {Q:Option Value->Shared->Prop} (hh:A.handled=none) (st:s.heap.IsKeyIter j d i ks.length ep) (m:DEs s.heap d ks ep) (hx:ks.length<=i)
  (q: ∀ h',Heap.ExtBut j s.heap h'->Q none {s with heap:=h'}):wpAny (model prog w) A (pyNext (.ref j)) Q E s:=by
 have ty:=st.typeIs
 obtain ⟨o,ho,hc,hd⟩:=id st
 obtain ⟨od,es,hod,hcd,hdd,hk⟩:=m
 have hz:=gH hk
 unfold pyNext
 refine wpAny_bind (wpAny_attempt (wpAny_callSpecial?_slot (name:=Str.ofString "__next__") ty PySem.F.slot_dict_keyiterator_next (wpAny_call_entry PySem.F.slot_dict_keyiterator_next ty PySem.F.entry_dict_keyiterator_next ?_ (PySem.F.args_dict_keyiterator_next_1 _))))
 refine wpAny_bind (wpAny_pure (wpAny_bind (wpAny_bind ?_)))
 first | refine wpAny_bind (wpAny_typeNameOfWhole_keyiter ty (wpAny_pure (wpAny_bind (wpAny_fieldsOf ho hd ?_)))) | refine wpAny_bind (wpAny_typeNameOf_keyiter ty (wpAny_pure (wpAny_bind (wpAny_fieldsOf ho hd ?_))))
 have own:Builtin.Dict_items.ownsTuple "dict_keyiterator"=false:=by decide
 simp only [own,Bool.false_eq_true,if_false]
 refine (show wpAny _ _ (if (Value.ref d==Value.none)=true then _ else _) _ _ s from ?_)
 rw [if_neg fun b0:(Value.ref d==Value.none)=true=>Bool.false_ne_true b0]
 refine wpAny_bind (wpAny_pure (wpAny_bind (wpAny_dictEntries hod hdd ?_)))
 rw [if_neg (by rw [hz];simp)]
 refine wpAny_bind (wpAny_pure (wpAny_bind (wpAny_dictEpoch hod hdd ?_)))
 rw [if_neg (by simp)]
 refine wpAny_pure ?_
 have hge:es.size<=i:=by omega
 simp only [show ¬ ((i:Int) <0)from by omega,if_false,Int.toNat_natCast,Array.getElem?_eq_none hge]
 refine wpAny_bind ?_
 first | refine wpAny_bind (wpAny_typeNameOfWhole_keyiter ty (wpAny_pure ?_)) | refine wpAny_bind (wpAny_typeNameOf_keyiter ty (wpAny_pure ?_))
 refine (show wpAny _ _ (setField (.ref j) 0 .none >>= _) _ _ s from wpAny_bind (wpAny_setField ho hd (by simp) ?_))
 refine (show wpAny _ _ (newExc (.type "StopIteration") [] >>= _) _ _ _ from wpAny_bind ?_)
 simp only [newExc,newTuple]
 refine wpAny_bind (wpAny_newObj_type (wpAny_bind (m:=firstArgMember _ _) (wpAny_of_eq (a:=Value.none) (by first | rfl | (simp only [firstArgMember];rfl)) (wpAny_newObj_type ?_ (by size_fits)))) (by size_fits))
 simp only [raiseNew]
 refine wpAny_bind (wpAny_handled ?_)
 rw [show A.in1.handled=none from hh]
 refine (wpAny_bind (wpAny_pure (wpAny_throw (?_))))
 refine wpAny_bind (wpAny_isInstance (T:="StopIteration") (b:=true) ⟨_,Heap.get?_push_size _ rfl,rfl⟩ isSubtype_stop (wpAny_pure (q _ ?_)))
 exact ((Heap.SameBut.update ..).extBut.push _).push _
theorem pk (hh:A.handled=none) (hne:d≠j):Walks prog w A j [j,d] [j] ks.length (fun i v=>ks[i]? =some v) (fun i h=>h.IsKeyIter j d i ks.length ep/\DEs h d ks ep) where
 sub:=fun b hb=>by rw [List.mem_singleton.mp hb];exact List.mem_cons_self
 frame:=fun _ _ _ st k=>⟨st.1.at fun o e=>k j (by simp) o e,st.2.keeps fun o e=>k d (by simp) o e⟩
 item:=fun i s Q E hi st hQ=>by
  have hx:ks[i]? =some ks[i]:=List.getElem?_eq_getElem hi
  refine sf st.1 st.2 hx fun h' st' sb=>?_
  exact hQ _ h' s.toks hx ⟨st',st.2.keeps fun o e=>sb.extBut d o hne e⟩ fun b o hb e=>sb.extBut b o (fun z=>hb (by rw [z];exact List.mem_cons_self)) e
 done:=fun s Q E st hQ=>uy hh st.1 st.2 (Nat.le_refl _) fun h' eb=>hQ h' s.toks fun b o hb e=>eb b o (fun z=>hb (by rw [z];exact List.mem_cons_self)) e
 self:=fun _ _ _ _ st hQ=>wpAny_pyIter_keyiter st.1 hQ
theorem src_des (lo:(d==sysModules)=false):PySem.W.KdlSrc prog w "dict" d d ks.length (fun i v=>ks[i]? =some v) (fun h=>DEs h d ks ep) where
 type:=fun _ m=>m.type
 there:=fun _ m=>⟨m.lt,m.lt⟩
 keep:=fun _ _ m k=>m.keeps fun o e=>k d (.inl rfl) o e
 notList:=by decide
 notTuple:=by decide
 hint:=fun _ _ _ _ m q=>PySem.W.kdl_hint_dict m.type q
 iter:=fun _ _ hh m=>⟨_,_,fun _ _ q=>sK lo m q,pk hh (Nat.ne_of_lt m.lt),⟨⟨_,Heap.get?_push_size _ rfl,rfl,rfl⟩,m.keeps fun o e=>Heap.get?_push_of_some _ e⟩⟩
end
end HT
namespace L2
open PySem PySem.Spec PyProof.Rows
section
variable {X:Cx}
noncomputable def KsOf (H:Hp):List V->List (List Key)->Prop:=Paired fun y ks=> ∃ b,y=.ref b/\H b=some (.tup (ks.map kV))
theorem KsOf.mono {H H':Hp} {ys:List V} {kss:List (List Key)} (h:KsOf H ys kss) (t: ∀ b xs,H b=some (.tup xs)->H' b=some (.tup xs)):KsOf H' ys kss:=
 Paired.mapP h fun _ _ ⟨b,e,hb⟩=>⟨b,e,t _ _ hb⟩
theorem sG {H:Hp} {kvs:List (List Key×V)} {xs:List (List Key×Addr×Value)} (r:KT H kvs xs):KsOf H (xs.map fun q=>V.ref q.2.1) (kvs.map (·.1)):=by
 induction r with
 | nil=>exact .nil
 | cons h _ ih=>exact .cons ⟨_,rfl,h.2.1⟩ ih
theorem og (hc:X.calm=true):cU X (.type "list") (fun xs H Q=> ∃ a kvs,xs=[.ref a]/\H a=some (.dT kvs)/\ ∀ p ys,H p=none->KsOf H ys (kvs.map (·.1))->Q (.ref p) (upd H p (.lst ys))):=by
 intro pins s σ H xs us Q I r h
 obtain ⟨a,kvs,rfl,ha,q⟩:=h
 obtain ⟨u,rfl,ru⟩:=fj r
 cases ru
 obtain ⟨hz,lo,ys,kt,o,es,ep,h1,h2,h3,h4,h5⟩:=(show ObjOk X.prog X.w H s.heap a (.dT kvs)from I.hok a _ ha)
 have hm:HT.DEs s.heap a (ys.map fun q=>Value.ref q.2.1) ep:=by
  refine ⟨o,es,h1,h2,h3,?_⟩
  rw [h4,List.map_map]
  rfl
 have hl:ys.length=kvs.length:=(Paired.length kt).symm
 refine PySem.W.kdl_call (HT.src_des lo) (I.ok.hd hc) hm (by rw [List.length_map];omega) fun h' tk acc c' kp e hi=>?_
 obtain ⟨i1,i2⟩:=hi
 have hacc:acc.toList=ys.map fun q=>Value.ref q.2.1:=by
  refine List.ext_getElem? fun i=>?_
  rw [Array.getElem?_toList]
  cases hv:acc[i]? with
  | some v=>exact (i2 i v hv).symm
  | none=>
   have:acc.size<=i:=Array.getElem?_eq_none_iff.mp hv
   exact (List.getElem?_eq_none (by rw [<- i1];exact this)).symm
 have rv:Vals (ys.map fun q=>V.ref q.2.1) (ys.map fun q=>Value.ref q.2.1):=by
  clear kt h4 h5 hl i1 i2 hacc hm
  induction ys with
  | nil=>exact .nil
  | cons y r ih=>exact .cons rfl ih
 refine ⟨.ref s.heap.objs.size,_,I.laid (t':=tk) (o:=.lst (ys.map fun q=>V.ref q.2.1)) kp (Nat.le_refl _) ?_,rfl,q _ _ (I.hok.fresh (Nat.le_refl _)) (sG kt)⟩
 refine ⟨by rw [List.length_map];omega,_,c',rv,?_⟩
 rw [<- hacc,Array.toArray_toList]
 exact e
end
section
variable {X:Cx}
theorem jx (hu:X.A.units<cLine):OpR X (compareOp .NotEq) (fun x y H Q=> ∃ a b xs,x=.ref a/\y=.ref b/\SqL X.K H a xs/\SqL X.K H b []/\Q (.bl (!xs.isEmpty)) H):=by
 intro pins s σ H x y v u Q I rx ry h
 obtain ⟨a,b,xs,rfl,rfl,ha,hb,q⟩:=h
 cases rx
 cases ry
 obtain ⟨its,r,pl,_⟩:=I.list ha
 obtain ⟨its2,r2,pl2,_⟩:=I.list hb
 cases r2
 cases r with
 | nil=>exact SeqAt.RcNeAt.lists (e:=fun _=>true) pl.isList pl2.isList rfl hu (fun j h1 _=>absurd h1 (Nat.not_lt_zero _)) X.prog X.w X.xe _ ⟨.bl _,H,I,rfl,q⟩
 | cons r1 t=>exact SeqAt.RcNeAt.lists_lengths pl.isList pl2.isList (by simp) hu X.prog X.w X.xe _ ⟨.bl _,H,I,rfl,q⟩
instance xC (ks:List Key) (kss:List (List Key)):Decidable (ks∈kss):=decidable_of_iff (kss.any (fun l=>decide (l=ks))=true) ⟨fun h=>by
  obtain ⟨x,hx,e⟩:=List.any_eq_true.mp h
  rw [<- of_decide_eq_true e]
  exact hx,fun h=>List.any_eq_true.mpr ⟨ks,h,decide_eq_true rfl⟩⟩
theorem oN {P P':Program} {w w':World} {H:Hp} {h:Heap} {a:Addr} {ks:List Key} (ok:HOk P w H h) (e:H a=some (.tup (ks.map kV))):IsTupleKey (aX P' w') h ks a:=by
 obtain ⟨_,its,r,o,h1,h2,n,h3⟩:=(show ObjOk P w H h a (.tup (ks.map kV))from ok a _ e)
 exact ⟨o,its.toArray,n,h1,h2,h3,by simpa using gO r⟩
noncomputable def sL (H:Hp) (ks:List Key):Value->Bool
 | .ref b=>(match H b with | some (.tup xs)=>decide (xs=ks.map kV) | _=>false)
 | _=>false
theorem oU {H:Hp} {b:Addr} {ks ls:List Key} (h:H b=some (.tup (ls.map kV))):sL H ks (.ref b)=decide (ls=ks):=by
 show (match H b with | some (.tup xs)=>decide (xs=ks.map kV) | _=>false)=_
 rw [h]
 show decide (ls.map kV=ks.map kV)=decide (ls=ks)
 by_cases e:ls=ks
 ·rw [decide_eq_true e,decide_eq_true (by rw [e])]
 ·rw [decide_eq_false e,decide_eq_false fun z=>e (oP z)]
theorem vz {H:Hp} {ks:List Key} {ys:List V} {us:List Value} {kss:List (List Key)} (r:Vals ys us) (h:KsOf H ys kss):us.any (sL H ks)=decide (ks∈kss):=by
 induction r generalizing kss with
 | nil=>cases h;exact (decide_eq_false (by simp)).symm
 | @cons y u ys us r1 t ih=>
  cases h with
  | @cons _ ls _ kss h1 t2=>
   obtain ⟨b,rfl,hb⟩:=h1
   cases (show u=Value.ref b from r1)
   rw [List.any_cons,oU hb,ih t2]
   by_cases e:ls=ks
   ·have m:ks∈ls::kss:=by rw [e];exact List.mem_cons_self
    rw [decide_eq_true e,decide_eq_true m,Bool.true_or]
   ·rw [decide_eq_false e,Bool.false_or]
    refine decide_eq_decide.mpr ⟨fun h=>List.mem_cons_of_mem _ h,fun h=>?_⟩
    rcases List.mem_cons.mp h with z | z
    ·exact absurd z.symm e
    ·exact z
theorem ve {H:Hp} {ys:List V} {us:List Value} {kss:List (List Key)} (r:Vals ys us) (h:KsOf H ys kss): ∀ u∈us,∃ (b:Addr) (ls:List Key),u=.ref b/\H b=some (.tup (ls.map kV)):=by
 induction r generalizing kss with
 | nil=>intro u hu;cases hu
 | @cons y u ys us r1 t ih=>
  cases h with
  | cons h1 t2=>
   intro v hv
   rcases List.mem_cons.mp hv with e | e
   ·obtain ⟨b,rfl,hb⟩:=h1
    exact ⟨b,_,e.trans (show u=Value.ref b from r1),hb⟩
   ·exact ih t2 v e
noncomputable def vZ (K:PySem.W.Frag) (neg:Bool):R2:=fun x y H Q=> ∃ a p ks ys kss,x=.ref a/\y=.ref p/\H a=some (.tup (ks.map kV))/\SqL K H p ys/\KsOf H ys kss/\Q (.bl (if neg then !decide (ks∈kss)else decide (ks∈kss))) H
theorem lM (hu:X.A.units+1<cLine):OpR X (compareOp .NotIn) (vZ X.K true):=by
 intro pins s σ H x y v u Q I rx ry h
 obtain ⟨a,p,ks,ys,kss,rfl,rfl,ha,hp,hk,q⟩:=h
 cases rx
 cases ry
 obtain ⟨its,r,pl,hz⟩:=I.list hp
 refine SeqAt.notIn_listAt (sL H ks) pl.isList (fun w hw=>?_) ⟨.bl _,H,I,rfl,?_⟩
 ·obtain ⟨b,ls,rfl,hb⟩:=ve r hk w (by simpa using hw)
  rw [oU hb]
  exact fun prog w' E Q hq=>wpAny_eqBool_tuple (show X.A.units+1<cLine from hu) (oN I.hok hb) (oN I.hok ha) hq
 ·rw [show its.toArray.any (sL H ks)=its.any (sL H ks) by simp,vz r hk]
  exact q
theorem gc (K:PySem.W.Frag) (t:String) (ht:t∈["NoneType","bool","int","str","list","tuple","dict"]):
  PySem.W.kitAny K (.type t) [.type "tuple",.type "list"]=some (t=="tuple"||t=="list"):=by
 simp only [List.mem_cons,List.not_mem_nil,or_false]at ht
 rcases ht with rfl | rfl | rfl | rfl | rfl | rfl | rfl <;> first | rfl | (with_unfolding_all rfl) | (with_unfolding_all decide)
inductive TL (H:Hp):V->Bool->Prop where
 | str (z:Str):TL H (.str z) false
 | int (i:Int):TL H (.int i) false
 | tup {a:Addr} {xs:List V}:H a=some (.tup xs)->TL H (.ref a) true
 | lst {a:Addr} {xs:List V}:H a=some (.lst xs)->TL H (.ref a) true
theorem qC:cU X (.builtin "isinstance") (fun xs H Q=> ∃ x p b,xs=[x,.ref p]/\H p=some (.tup [.ty "tuple",.ty "list"])/\TL H x b/\Q (.bl b) H):=by
 intro pins s σ H xs us Q I r h
 obtain ⟨x,p,b,rfl,hp,ty,q⟩:=h
 obtain ⟨u,w',rfl,rx,rp⟩:=il r
 cases (show w'=Value.ref p from rp)
 obtain ⟨_,its,rv,o,h1,h2,n,h3⟩:=(show ObjOk X.prog X.w H s.heap p (.tup [.ty "tuple",.ty "list"])from I.hok p _ hp)
 obtain ⟨u1,u2,rfl,r1,r2⟩:=il rv
 cases (show u1=Value.type "tuple" from r1)
 cases (show u2=Value.type "list" from r2)
 obtain ⟨c,d,dt,sl⟩:=o
 simp only at h2 h3
 subst h2 h3
 have k: ∀ tk,EP X pins σ Q (.bool b) {s with toks:=tk}:=fun tk=>⟨.bl b,H,I.tok tk,rfl,q⟩
 cases ty with
 | int i=>
  obtain ⟨t,e⟩:=(show ∃ t,u=Value.int i t from rx)
  cases e
  exact PySem.W.kia_tup PySem.W.kitx_int I.kIn True.intro h1 (gc _ "int" (by simp)) (fun z=>nomatch z) k
 | str y=>
  obtain ⟨t,e⟩:=(show ∃ t,u=Value.str y t from rx)
  cases e
  exact PySem.W.kia_tup PySem.W.kitx_str I.kIn True.intro h1 (gc _ "str" (by simp)) (fun z=>nomatch z) k
 | @lst a xs ea=>
  cases (show u=Value.ref a from rx)
  obtain ⟨_,_,_,_,h4⟩:=(show ObjOk X.prog X.w H s.heap a (.lst xs)from I.hok a _ ea)
  exact PySem.W.kia_tup PySem.W.kitx_list I.kIn ⟨_,h4,rfl⟩ h1 (gc _ "list" (by simp)) (fun z=>nomatch z) k
 | @tup a xs ea=>
  cases (show u=Value.ref a from rx)
  obtain ⟨_,_,_,o2,h4,h5,_⟩:=(show ObjOk X.prog X.w H s.heap a (.tup xs)from I.hok a _ ea)
  exact PySem.W.kia_tup PySem.W.kitx_tuple I.kIn ⟨o2,h4,h5⟩ h1 (gc _ "tuple" (by simp)) (fun z=>nomatch z) k
end
end L2
namespace HT
open PySem PyProof.Rows
section
variable {prog:Program} {w:World} {A:Around} {s:Shared} {E:Value->Shared->Prop} {j t:Addr} {i:Nat} {items:Array Value}
theorem sV {x:Value} {Q:Value->Shared->Prop} (st:s.heap.IsTupleIter j t i) (ht:s.heap.IsTuple t items) (hx:items[i]? =some x)
  (q: ∀ h',h'.IsTupleIter j t (i+1)->Heap.SameBut j s.heap h'->Q x {s with heap:=h'}):wpAny (model prog w) A (Builtin.SmallTypes.nextOf (.ref j)) Q E s:=by
 have ty:=st.typeIs
 obtain ⟨o,ho,hc,hd⟩:=id st
 obtain ⟨ol,hol,_,nl,hdl⟩:=ht
 unfold Builtin.SmallTypes.nextOf
 refine wpAny_bind (wpAny_callSpecial?_slot (name:=Str.ofString "__next__") ty PySem.F.slot_tuple_iterator_next (wpAny_call_entry PySem.F.slot_tuple_iterator_next ty PySem.F.entry_tuple_iterator_next ?_ (PySem.F.args_tuple_iterator_next_1 _)))
 refine (show wpAny _ _ (field (.ref j) 0 >>= _) _ _ s from wpAny_bind (wpAny_field ho hd (x:=.ref t) rfl ?_))
 refine (show wpAny _ _ (if (Value.ref t==Value.none)=true then _ else _) _ _ s from ?_)
 rw [if_neg fun b0:(Value.ref t==Value.none)=true=>Bool.false_ne_true b0]
 refine (show wpAny _ _ (field (.ref j) 1 >>= _) _ _ s from wpAny_bind (wpAny_field ho hd (x:=.int i 0) rfl ?_))
 refine (show wpAny _ _ (seqItems? (.ref t) >>= _) _ _ s from wpAny_bind (wpAny_seqItems hol hdl ?_))
 simp only [Int.toNat_natCast,hx]
 refine wpAny_bind (wpAny_setField ho hd (by simp) (wpAny_pure ⟨x,rfl,wpAny_pure (q _ ⟨_,Heap.get?_update_self _ ho (Obj.isFreed_of_fields (Obj.data_mapFields hd _)),(Obj.cls_mapFields ..).trans hc,?_⟩ (Heap.SameBut.update ..))⟩))
 rw [Obj.data_mapFields hd];simp [rawInt]
theorem mi {Q:Value->Shared->Prop} (hh:A.handled=none) (st:s.heap.IsTupleIter j t i) (ht:s.heap.IsTuple t items) (hx:items[i]? =none)
  (q: ∀ h' e,Heap.ExtBut j s.heap h'->(∃ o,h'.get? e=some o/\o.cls=.type "StopIteration")->E (.ref e) {s with heap:=h'}):wpAny (model prog w) A (Builtin.SmallTypes.nextOf (.ref j)) Q E s:=by
 have ty:=st.typeIs
 obtain ⟨o,ho,hc,hd⟩:=id st
 obtain ⟨ol,hol,_,nl,hdl⟩:=ht
 unfold Builtin.SmallTypes.nextOf
 refine wpAny_bind (wpAny_callSpecial?_slot (name:=Str.ofString "__next__") ty PySem.F.slot_tuple_iterator_next (wpAny_call_entry PySem.F.slot_tuple_iterator_next ty PySem.F.entry_tuple_iterator_next ?_ (PySem.F.args_tuple_iterator_next_1 _)))
 refine (show wpAny _ _ (field (.ref j) 0 >>= _) _ _ s from wpAny_bind (wpAny_field ho hd (x:=.ref t) rfl ?_))
 refine (show wpAny _ _ (if (Value.ref t==Value.none)=true then _ else _) _ _ s from ?_)
 rw [if_neg fun b0:(Value.ref t==Value.none)=true=>Bool.false_ne_true b0]
 refine (show wpAny _ _ (field (.ref j) 1 >>= _) _ _ s from wpAny_bind (wpAny_field ho hd (x:=.int i 0) rfl ?_))
 refine (show wpAny _ _ (seqItems? (.ref t) >>= _) _ _ s from wpAny_bind (wpAny_seqItems hol hdl ?_))
 simp only [Int.toNat_natCast,hx]
 refine wpAny_bind (wpAny_rule (wpAny_bind (wpAny_setField ho hd (by simp) (show wpAny _ _ (newExc (.type "StopIteration") [] >>= _) _ _ _ from wpAny_bind ?_))))
 simp only [newExc,newTuple]
 refine wpAny_bind (wpAny_newObj_type (wpAny_bind (m:=firstArgMember _ _) (wpAny_of_eq (a:=Value.none) (by first | rfl | (simp only [firstArgMember];rfl)) (wpAny_newObj_type ?_ (by size_fits)))) (by size_fits))
 simp only [raiseNew]
 refine wpAny_bind (wpAny_handled ?_)
 rw [show A.in1.handled=none from hh]
 exact wpAny_bind (wpAny_pure (wpAny_throw (q _ _ (((Heap.SameBut.update ..).extBut.push _).push _) ⟨_,Heap.get?_push_size _ rfl,rfl⟩)))
noncomputable def SIter (c:Bool) (h:Heap) (j l:Addr) (i:Nat):Prop:=if c=true then h.IsTupleIter j l i else h.IsListIter j l i
noncomputable def SSeq (c:Bool) (h:Heap) (l:Addr) (items:Array Value):Prop:=if c=true then h.IsTuple l items else h.IsList l items
theorem SIter.obj {c:Bool} {h:Heap} {l:Addr} (x:SIter c h j l i): ∃ o,h.get? j=some o/\ ∀ v,o.data≠ .cell v:=by
 cases c with
 | true=>obtain ⟨o,e,_,d⟩:=(show h.IsTupleIter j l i from x);exact ⟨o,e,fun v z=>by rw [d]at z;cases z⟩
 | false=>obtain ⟨o,e,_,d⟩:=(show h.IsListIter j l i from x);exact ⟨o,e,fun v z=>by rw [d]at z;cases z⟩
theorem SIter.at {c:Bool} {h h':Heap} {l:Addr} (x:SIter c h j l i) (k: ∀ o,h.get? j=some o->h'.get? j=some o):SIter c h' j l i:=by
 cases c with
 | true=>obtain ⟨o,e,r⟩:=(show h.IsTupleIter j l i from x);exact (show h'.IsTupleIter j l i from ⟨o,k o e,r⟩)
 | false=>obtain ⟨o,e,r⟩:=(show h.IsListIter j l i from x);exact (show h'.IsListIter j l i from ⟨o,k o e,r⟩)
theorem SSeq.at {c:Bool} {h h':Heap} {l:Addr} (x:SSeq c h l items) (k: ∀ o,h.get? l=some o->h'.get? l=some o):SSeq c h' l items:=by
 cases c with
 | true=>obtain ⟨o,e,r⟩:=(show h.IsTuple l items from x);exact (show h'.IsTuple l items from ⟨o,k o e,r⟩)
 | false=>obtain ⟨o,e,r⟩:=(show h.IsList l items from x);exact (show h'.IsList l items from ⟨o,k o e,r⟩)
theorem draws_seq (c:Bool) (hh:A.handled=none) (j l:Addr) (hne:l≠j) (items:Array Value):
  Draws prog w A j [j,l] items.size (fun i v=>items[i]? =some v) (fun i h=>SIter c h j l i/\SSeq c h l items) where
 live:=fun _ _ st=>let ⟨o,e,_⟩:=st.1.obj;⟨o,e⟩
 frame:=fun _ _ _ st k=>⟨st.1.at fun o e=>k j (by simp) o e,st.2.at fun o e=>k l (by simp) o e⟩
 item:=fun i s Q E hi st hQ=>by
  have hx:items[i]? =some items[i]:=Array.getElem?_eq_getElem hi
  cases c with
  | true=>exact sV st.1 st.2 hx fun h' st' sb=>hQ _ h' s.toks hx ⟨st',st.2.at fun o e=>sb.extBut l o hne e⟩ sb
  | false=>exact wpAny_nextOf_list_item st.1 st.2 hx fun h' st' sb=>hQ _ h' s.toks hx ⟨st',st.2.at fun o e=>sb.extBut l o hne e⟩ sb
 done:=fun s Q E st hE=>by
  cases c with
  | true=>exact mi hh st.1 st.2 (by simp) hE
  | false=>exact wpAny_nextOf_list_end hh st.1 st.2 (by simp) hE
end
section
variable {prog:Program} {w:World} {A:Around} {s:Shared} {E:Value->Shared->Prop}
noncomputable def tIt (l:Addr):Obj:={cls:=.type "tuple_iterator",data:=.fields #[.ref l,.int 0 0]}
end
end HT
namespace L2
open PySem PySem.Spec PyProof.Rows
noncomputable def wV (c:Bool) (xs:List V):HO:=if c=true then .tup xs else .lst xs
theorem Inv.seqS {X:Cx} {pins:List (Addr×Obj)} {σ:St} {H:Hp} {s:Shared} {c:Bool} {a:Addr} {xs:List V} (I:Inv X pins σ H s) (h:H a=some (wV c xs)): ∃ its:List Value,Vals xs its/\HT.SSeq c s.heap a its.toArray/\xs.length<=sizeLine:=by
 cases c with
 | true=>obtain ⟨its,r,p,z⟩:=I.tuple (SqT.of (K:=X.K) h);exact ⟨its,r,p,z⟩
 | false=>obtain ⟨its,r,p,z⟩:=I.list (SqL.of (K:=X.K) h);exact ⟨its,r,p.isList,z⟩
section
variable {prog:Program} {w:World} {A:Around} {R:Result->Shared->Prop} {s:Shared}
theorem je {elt target iter cnd:Expr} {scope:Scope} {pos:Pos} {it acc:Value} {env:Env} (I:Nat->Shared->Prop)
  (turn: ∀ n s,I n s->wpAny (model prog w) A (pyNext it) (fun r s₁=>match r with
   | none=>R (.ok .next) s₁
   | some v=>wpAny (model prog w) A (letOwnedTupleGo target it v) (fun _ s₁'=>wpAny (model prog w) A (assign target env v) (fun _ s₂=>wpAny (model prog w) A (isTrue cnd env (eval cnd env)) (fun ok s₃=>
     if ok=true then wpAny (model prog w) A (eval elt env) (fun x s₄=>
      wpAny (model prog w) A (call (.builtin "list.append") [acc,x]) (fun _ s₅=> ∃ m,m<n/\I m s₅) (fun _ _=>False) s₄) (fun _ _=>False) s₃
     else ∃ m,m<n/\I m s₃) (fun _ _=>False) s₂) (fun _ _=>False) s₁') (fun _ _=>False) s₁) (fun _ _=>False) s)
  (n:Nat) (h:I n s):codeAny (model prog w) A (.compLoop (.ListComp elt [⟨target,iter,[cnd],0⟩] scope pos) 0 it acc env) R s:=by
 refine codeAny_loop rfl I (fun n s hI=>?_) n h
 show wpAny _ _ ((compTurn (.ListComp elt [⟨target,iter,[cnd],0⟩] scope pos) 0 it acc env).onRaise (fun x=>do noteFrame x env;theTreesLotGoes x)) _ _ s
 refine wpAny_noted ?_
 rw [compTurn_list]
 refine wpAny_noRaise ?_
 refine wpAny_bind (wpAny_standAt (wpAny_bind (wpAny_mono (turn n s hI) (fun r s₁ h₁=>?_) fun _ _ h'=>h')))
 cases r with
 | none=>exact wpAny_pure h₁
 | some v=>
  refine wpAny_bind (wpAny_mono h₁ (fun _ s₁' h₁'=>?_) fun _ _ h'=>h')
  refine wpAny_bind (wpAny_mono h₁' (fun _ s₂ h₂=>wpAny_bind (wpAny_mono (wpAny_tests_one h₂) (fun ok s₃ h₃=>?_) fun _ _ h'=>h')) fun _ _ h'=>h')
  cases ok with
  | false=>exact wpAny_pure ⟨rfl,h₃⟩
  | true=>
   exact wpAny_bind (wpAny_bind (wpAny_mono h₃ (fun x s₄ h₄=>wpAny_bind (wpAny_mono h₄ (fun _ s₅ h₅=>wpAny_pure (wpAny_pure ⟨rfl,h₅⟩)) fun _ _ h'=>h')) fun _ _ h'=>h'))
end
noncomputable def jJ (fr:List Nat) (tc:TT) (te:TE) (σ:St) (J:It) (H1:Hp) (Q:VK):Prop:=
 ∀ p,H1 p=none-> ∃ W:Nat->Nat->List V->Hp->Prop,(∃ m,W 0 m [] (upd H1 p (.lst [])))/\ ∀ i m ys H,W i m ys H->H p=some (.lst ys)/\
  ((J.stop i H/\Q (.ref p) H)\/(J.go i H/\ys.length<sizeLine/\ ∀ x H',J.yld i H x H'->tc (some x::cn fr σ) H' fun b H2=>if b=true then te (some x::cn fr σ) H2 fun v H3=>
   H3 p=some (.lst ys)/\ ∃ m',m'<m/\W (i+1) m' (ys++[v]) (upd H3 p (.lst (ys++[v])))else ∃ m',m'<m/\W (i+1) m' ys H2))
noncomputable def mJ (wi:TI) (fr:List Nat) (tc:TT) (te:TE):TE:=fun σ H Q=>wi σ H fun J H1=>jJ fr tc te σ J H1 Q
section
variable {X:Cx} {x:Str} {px pos fpos:Pos} {iter elt cnd:Expr} {scope sc0:Scope} {N0 ys:List Str} {fr:List Nat} {wi:TI} {tc:TT} {te:TE} {pins:List (Addr×Obj)} {σ:St} {H:Hp} {s:Shared}
theorem jd {use:Option (Value->Sem Unit)} {Qv:Value->Shared->Prop} {Q:VK} (hcalm:X.calm=true) (hi:PI X (.Name x px) iter wi) (hsc:X.env.scope=sc0) (hN:X.N=N0) (ok:fM sc0 N0 scope x ys fr)
  (hT: ∀ C s H ex,PT (be X x ys scope C s H ex) cnd tc) (hE: ∀ C s H ex,PE (be X x ys scope C s H ex) elt te) (I:Inv X pins σ H s) (h:mJ wi fr tc te σ H Q) (hs: ∀ v,foldedSetIterable iter X.env v=pure v)
  (fin: ∀ (p C:Addr) (H':Hp) (s':Shared) (m:Str->Option Value),Inv X pins σ H' s'->s'.heap.Ns C m->H' C=none->C≠X.env.locals->X.s₀.heap.objs.size<=C->(∀ y c,X.env.cells.lookup y=some c->c≠C)->(∀ q∈X.pn++pins,q.1≠C)->Q (.ref p) H'->
   compPost (model X.prog X.w) X.A X.xe use Qv (.ref p) C (.ok .next) s'):
  wpAny (model X.prog X.w) X.A (comprehension (.ListComp elt [⟨.Name x px,iter,[cnd],0⟩] scope pos) scope X.env fpos (newList []) false (eval iter X.env) use) Qv X.xe s:=by
 subst hsc hN
 have hkof: ∀ y,X.env.kindOf y=X.env.scope.names.lookup y:=fun y=>rfl
 have hfree: ∀ y∈scope.names,y.2=.free-> ∃ c,X.env.cells.lookup y.1=some c:=fun y hy e=>I.ok.has y.1 (.inl (ok.free y hy e))
 refine wpAny_comprehension_free (gs:=[]) rfl hs (dI hfree) ok.kind ok.loc (thn (hi pins s σ H _ I h) fun v s1 h1=>thn h1 fun itv s2 h2=>?_)
 obtain ⟨it,fp,tn,J,H2,e,I2,T,st2,f2,hp⟩:=h2
 subst e
 refine wpAny_newObj_type (wpAny_newFunctionEnv ok.nocell (by intro y hy;simp at hy) (fun h₁ hns₁ hsb₁=>?_) ok.kind)
 dsimp only at hns₁ hsb₁ ⊢
 have I3:Inv X pins σ (upd H2 s2.heap.objs.size (.lst [])) {s2 with heap:=s2.heap.push {cls:=.type "list",data:=.seq ([]:List Value).toArray}}:=
  I2.lnew (its:=[]) (ys:=[]) (t':=s2.toks) .nil (Nat.zero_le _)
 have hf2: ∀ b∈fp,b<s2.heap.objs.size:=fun b hb=>by
  obtain ⟨o,e,_⟩:=T.obj _ _ st2 b hb
  exact Heap.lt_size e
 have hps:s2.heap.objs.size< (s2.heap.push {cls:=.type "list",data:=.seq ([]:List Value).toArray}).objs.size:=by rw [Heap.size_push];exact Nat.lt_succ_self _
 have W0:=hp s2.heap.objs.size I2.fresh
 have st3:tn 0 (s2.heap.push {cls:=.type "list",data:=.seq ([]:List Value).toArray}):=T.keep _ _ _ st2 fun b hb o e=>Heap.get?_push_of_some _ e
 generalize hpp:s2.heap.objs.size=p at I3 W0 hf2 hps ⊢
 generalize hh3:(s2.heap.push {cls:=.type "list",data:=.seq ([]:List Value).toArray})=h3 at I3 hns₁ hsb₁ hps st3 ⊢
 generalize hH3:upd H2 p (.lst [])=H3 at I3 W0
 have hold: ∀ b o,h3.get? b=some o->h₁.get? b=some o:=fun b o e=>hsb₁.extBut b o (Nat.ne_of_lt (Heap.lt_size e)) (Heap.get?_push_of_some _ e)
 have fH3: ∀ b∈fp,H3 b=none:=fun b hb=>by
  rw [<- hH3,am (Nat.ne_of_lt (hf2 b hb))]
  exact (f2 b hb).1
 have hclos: ∀ y c,(dw X.env.cells scope.names).lookup y=some c->X.env.cells.lookup y=some c:=fun y c e=>c9 e
 have hcell3: ∀ y c,X.env.cells.lookup y=some c->c<h3.objs.size:=fun y c e=>by
  obtain ⟨v,o,ho,_⟩:=I3.cell y c e
  exact Heap.lt_size ho
 have hlt3:X.env.locals<h3.objs.size:=I3.lt
 have Yok:(be X x ys scope h3.objs.size {s2 with heap:=h3} H3 fp).Ok:={
  mod:=I.ok.mod
  kind:=ok.kind
  glob:=I.ok.glob
  blt:=I.ok.blt
  above:=Nat.le_refl _
  inj:=fun y z c e1 e2=>I.ok.inj y z c (hclos _ _ e1) (hclos _ _ e2)
  has:=fun y hk=>by
   have hfr:(y,NameKind.free)∈scope.names:=by
    have hm: ∃ k,(ba X.env.scope scope).lookup y=some k/\(k=.cell\/k=.free):=by
     rcases hk with hk | hk
     ·exact ⟨_,hk,.inl rfl⟩
     ·exact ⟨_,hk,.inr rfl⟩
    obtain ⟨k,hk,hkk⟩:=hm
    have hmem:=mem_of_lookup hk
    unfold ba at hmem
    obtain ⟨⟨n,k0⟩,hn,en⟩:=List.mem_map.mp hmem
    dsimp only at en
    split at en
    ·rename_i hc
     simp only [Bool.and_eq_true]at hc
     have hk0:k0=.free:=by simpa using hc.1.1
     cases en
     rw [<- hk0]
     exact hn
    ·cases en
     rcases hkk with e | e
     ·exact absurd e (ok.nocell _ hn)
     ·rw [<- e]
      exact hn
   obtain ⟨c,hc⟩:=hfree _ hfr rfl
   exact ⟨c,cQ hc hfr⟩
  cab:=fun y c hf _=>by cases hf
  hd:=I.ok.hd
  frames:=I.ok.frames
  stk:=.inl rfl
  exf:=fun b hb=>⟨fun e=>absurd (hf2 b hb) (by rw [e];exact Nat.not_lt.mpr (Nat.le_of_lt hps)),fun y c e=>(f2 b hb).2.2.2.2.1 y c (hclos _ _ e)⟩
  bs:=fun b o e=>⟨(I3.bs b o e).1,(I3.bs b o e).2⟩
  bsz:=Nat.le_trans I.ok.bsz I3.sz
  noex:=fun b o e hb=>by
   rcases (f2 b hb).2.2.2.1 with q | q
   ·exact I.ok.noex b o e q
   ·have h1:b<X.base.objs.size:=Heap.lt_size e
    exact absurd h1 (Nat.not_lt.mpr (Nat.le_trans I.ok.bsz q))
  exfs:=fun b hb hm=>by
   rcases List.mem_cons.mp (I3.stkSub b hm)with q | q
   ·exact (f2 b hb).2.1 q
   ·exact (f2 b hb).2.2.1 q
  funs:=I3.stack
  frf:=I3.stkFree}
 have IY:Inv (be X x ys scope h3.objs.size {s2 with heap:=h3} H3 fp) [] (none::cn fr σ) H3 {s2 with heap:=h₁,toks:=s2.toks+ ([]:List (Str×Value)).length}:={
  ok:=Yok
  os:=rfl
  bare:=I2.bare
  base:=Un.kept hold
  loc:=by
   refine ⟨_,hns₁,fun i y v hy hv hvis=>?_⟩
   cases i with
   | zero=>cases hv
   | succ j=>
    have hy':ys[j]? =some y:=hy
    have hv':(cn fr σ)[j]? =some (some v):=hv
    unfold cn at hv'
    rw [List.getElem?_map]at hv'
    obtain ⟨i0,hi0,hv0⟩:=Option.map_eq_some_iff.mp hv'
    have hz:(y,i0)∈ys.zip fr:=by
     refine List.mem_iff_getElem?.mpr ⟨j,?_⟩
     rw [List.getElem?_zip_eq_some]
     exact ⟨hy',hi0⟩
    obtain ⟨hn,hk,hk2⟩:=ok.sl _ hz
    have hσ:σ[i0]? =some (some v):=by
     cases e:σ[i0]? with
     | none=>rw [e]at hv0;cases hv0
     | some o=>
      rw [e]at hv0
      rw [show o=some v from hv0]
    obtain ⟨m,hm,hl⟩:=I3.loc
    obtain ⟨u,ru,lk⟩:=hl i0 y v hn hσ (.inr (.inl hk))
    refine ⟨u,ru,.inr ⟨.inl hk2,?_⟩⟩
    rcases lk with ⟨a,_⟩ | ⟨_,c,hc,hcell⟩
    ·have a':X.env.scope.names.lookup y=some .local:=a
     have hk':X.env.scope.names.lookup y=some .cell:=hk
     rw [hk']at a'
     cases a'
    ·have hfr:(y,NameKind.free)∈scope.names:=by
      have hmem:=mem_of_lookup hk2
      unfold ba at hmem
      obtain ⟨⟨n,k0⟩,hn0,en⟩:=List.mem_map.mp hmem
      dsimp only at en
      split at en
      ·rename_i hc0
       simp only [Bool.and_eq_true]at hc0
       have hk0:k0=.free:=by simpa using hc0.1.1
       cases en
       rw [<- hk0]
       exact hn0
      ·cases en
       exact absurd rfl (ok.nocell _ hn0)
     exact ⟨c,cQ hc hfr,hcell.keeps hold⟩
  cell:=fun y c e=>by
   obtain ⟨v,hv⟩:=I3.cell y c (hclos _ _ e)
   exact ⟨v,hv.keeps hold⟩
  free:=I3.fresh
  freeC:=fun y c e=>I3.freeC y c (hclos _ _ e)
  pin:=fun q hq=>by cases hq
  hok:=I3.hok.kept hold
  len:=by
   show (none::cn fr σ).length=(x::ys).length
   rw [List.length_cons,List.length_cons,ok.len]
   unfold cn
   rw [List.length_map]}
 have hxl:(be X x ys scope h3.objs.size {s2 with heap:=h3} H3 fp).env.scope.names.lookup x=some .local:=ok.xl
 have pgx:PG (be X x ys scope h3.objs.size {s2 with heap:=h3} H3 fp) (.Name x px) (dH 0):=aO (i:=0) ok.nd rfl (.inl hxl) (.inr hxl)
 have pel:=hE h3.objs.size {s2 with heap:=h3} H3 fp
 have ptl:=hT h3.objs.size {s2 with heap:=h3} H3 fp
 obtain ⟨W,⟨m0,w0⟩,turn⟩:=W0
 have stat: ∀ {H':Hp},(∀ b∈fp,H' b=none)-> ∀ b∈fp,jn (be X x ys scope h3.objs.size {s2 with heap:=h3} H3 fp) [] H' b:=fun hn b hb=>
  ⟨hn b hb,(Yok.exf b hb).1,Yok.exfs b hb,.inl hb,(Yok.exf b hb).2,fun q hq=>by cases hq⟩
 have loop:codeAny (model X.prog X.w) X.A (.compLoop (.ListComp elt [⟨.Name x px,iter,[cnd],0⟩] scope pos) 0 (.ref it) (.ref p) (compEnvC scope (dw X.env.cells scope.names) h3.objs.size X.env))
   (compPost (model X.prog X.w) X.A X.xe use Qv (.ref p) h3.objs.size) {s2 with heap:=h₁,toks:=s2.toks+ ([]:List (Str×Value)).length}:=by
  refine je (fun n s'=> ∃ i zs v0 H',Inv (be X x ys scope h3.objs.size {s2 with heap:=h3} H3 fp) [] (v0::cn fr σ) H' s'/\tn i s'.heap/\(∀ b∈fp,H' b=none)/\W i n zs H') ?_ m0
   ⟨0,[],none,H3,IY,T.keep _ _ _ st3 fun b hb o e=>hold b o e,fH3,w0⟩
  rintro n s5 ⟨i,zs,v0,H5,I5,st5,fr5,w5⟩
  obtain ⟨hacc,turn5⟩:=turn i n zs H5 w5
  rcases turn5 with ⟨stop,qn⟩ | ⟨go,hlen,step⟩
  ·refine thn (T.done (be X x ys scope h3.objs.size {s2 with heap:=h3} H3 fp) rfl rfl rfl hcalm i [] s5 _ H5 _ I5 (stat fr5) st5 stop) fun r s6 ⟨hr,I6⟩=>?_
   subst hr
   obtain ⟨m6,n6,_⟩:=I6.loc
   refine fin p h3.objs.size H5 s6 m6 (I3.call' I6.os I6.base I6.hok I6.bare fun b hb=>⟨(f2 b hb).2.2.2.1,(f2 b hb).2.1,(f2 b hb).2.2.2.2.1,(f2 b hb).2.2.2.2.2⟩) n6 I6.free (Nat.ne_of_gt hlt3) I3.sz (fun y c e=>Nat.ne_of_lt (hcell3 y c e)) (fun q hq=>?_) qn
   exact Nat.ne_of_lt (Heap.lt_size (I3.pin q hq).1)
  ·refine thn (T.item (be X x ys scope h3.objs.size {s2 with heap:=h3} H3 fp) rfl rfl rfl hcalm i [] s5 _ H5 _ I5 (stat fr5) st5 go) fun r s6 ⟨u,hr,h6⟩=>?_
   subst hr
   refine thn h6 fun _ s7 ⟨xv,H7,I7,r7,y7,st7,fr7⟩=>?_
   have I7':=I7.pinned (stat fr7) (T.obj _ _ st7)
   refine thn (pgx _ s7 _ H7 xv u (fun σ' H'=>σ'=some xv::cn fr σ/\H'=H7) I7' r7 ⟨rfl,rfl⟩) fun _ s8 ⟨σ8,H8,I8,e8,e8'⟩=>?_
   subst e8 e8'
   refine thn (ptl _ s8 _ H8 _ I8 (step xv H8 y7)) fun bb s8' ⟨H8',I8',hb⟩=>?_
   cases bb with
   | false=>
    obtain ⟨m',hm',w9⟩:=hb
    refine ⟨m',hm',i+1,zs,some xv,_,I8'.unpinned,T.keep _ _ _ st7 fun b hb o e=>(I8'.pin (b,o) (List.mem_append_right _ (List.mem_append_right _ (br hb e)))).1,fun b hb=>?_,w9⟩
    obtain ⟨o,e,d⟩:=T.obj _ _ st7 b hb
    exact (I8'.pin (b,o) (List.mem_append_right _ (List.mem_append_right _ (br hb e)))).2.1
   | true=>
   refine thn (pel _ s8' _ H8' _ I8' hb) fun yv s9 ⟨v9,H9,I9,r9,hp9,m',hm',w9⟩=>?_
   refine thn (cr _ s9 _ H9 (.ref p) [v9] (.ref p) [yv] (fun _ H'=>H'=upd H9 p (.lst (zs++[v9]))) I9 rfl (.cons r9 .nil) ⟨p,zs,v9,rfl,rfl,hp9,hlen,rfl⟩) fun _ s10 ⟨_,H10,I10,_,e10⟩=>?_
   subst e10
   refine ⟨m',hm',i+1,zs++[v9],some xv,_,I10.unpinned,T.keep _ _ _ st7 fun b hb o e=>(I10.pin (b,o) (List.mem_append_right _ (List.mem_append_right _ (br hb e)))).1,fun b hb=>?_,w9⟩
   obtain ⟨o,e,d⟩:=T.obj _ _ st7 b hb
   exact (I10.pin (b,o) (List.mem_append_right _ (List.mem_append_right _ (br hb e)))).2.1
 exact codeAny_compStart_list loop (T.self X.A 0 _ _ _ (T.keep _ _ _ st3 fun b hb o e=>hold b o e) loop)
theorem iN (hcalm:X.calm=true) (hi:PI X (.Name x px) iter wi) (hsc:X.env.scope=sc0) (hN:X.N=N0) (ok:fM sc0 N0 scope x ys fr)
  (hT: ∀ C s H ex,PT (be X x ys scope C s H ex) cnd tc) (hE: ∀ C s H ex,PE (be X x ys scope C s H ex) elt te) (hs: ∀ v,foldedSetIterable iter X.env v=pure v:=by intro _;rfl):
  PE X (.ListComp elt [⟨.Name x px,iter,[cnd],0⟩] scope pos) (mJ wi fr tc te):=by
 intro pins s σ H Q I h
 rw [eval_ListComp]
 refine jd (use:=none) (Qv:=EP X pins σ Q) (Q:=Q) hcalm hi hsc hN ok hT hE I h hs fun p C H' s' m I' hn h0 h1 h2 h3 h4 q=>?_
 refine ⟨m,hn,fun h' sb=>⟨.ref p,H',I'.turned (t':=s'.toks) (fun b o hb e=>sb.extBut b o hb e) h0 (Ne.symm (Ne.symm h1)) (.inr h2) h3 h4,rfl,q⟩⟩
theorem lI {i:Nat} {y:Str} {py spos:Pos} (hcalm:X.calm=true) (hnd:X.N.Nodup) (hiN:X.N[i]? =some y) (hy:Loc X.env.scope y) (hi:PI X (.Name x px) iter wi) (hsc:X.env.scope=sc0) (hN:X.N=N0) (ok:fM sc0 N0 scope x ys fr)
  (hT: ∀ C s H ex,PT (be X x ys scope C s H ex) cnd tc) (hE: ∀ C s H ex,PE (be X x ys scope C s H ex) elt te) (hsw:swapsWith (.ListComp elt [⟨.Name x px,iter,[cnd],0⟩] scope pos) (some (.Name y py)) spos.line X.env=pure true:=by rfl)
  (hs: ∀ v,foldedSetIterable iter X.env v=pure v:=by intro _;rfl) (hf:X.fn y=true\/X.env.scope.names.lookup y=some .local:=by first | exact .inl rfl | exact .inr rfl | assumption):
  PS X (.Assign [.Name y py] (.ListComp elt [⟨.Name x px,iter,[cnd],0⟩] scope pos) spos) (jK (mJ wi fr tc te) (dH i)):=by
 intro pins s σ H D I h
 rw [exec_Assign_Name_used _ _ _ _ hsw]
 refine wpAny_bind (wpAny_standAt (wpAny_bind ?_))
 show wpAny _ X.A (do let _ <- comprehension (.ListComp elt [⟨.Name x px,iter,[cnd],0⟩] scope pos) scope X.env _ (newList []) false (eval iter X.env) (some (assign (.Name y py) X.env))) _ _ s
 refine wpAny_bind (thn (jd (use:=some (assign (.Name y py) X.env)) (Qv:=fun _ s'=>SP X pins D .next s') (Q:=fun v H'=>D.nx (σ.set i (some v)) H') hcalm hi hsc hN ok hT hE I h hs fun p C H' s' m I' hn h0 h1 h2 h3 h4 q=>?_) fun _ s' hq=>wpAny_pure (wpAny_pure hq))
 show wpAny _ X.A (assign (.Name y py) X.env (.ref p)) _ _ s'
 refine wpAny_assign_Name (gA (v:=.ref p) I' hnd hiN hy rfl (fun s'' I'' ⟨a,sb,ha⟩=>?_) hf)
 have hCa:C≠a:=by
  rcases ha with e | e
  ·rw [e];exact h1
  ·exact (h3 y a e).symm
 refine ⟨m,hn.sameBut sb hCa,fun h' sb'=>⟨_,H',I''.turned (t':=s''.toks) (fun b o hb e=>sb'.extBut b o hb e) h0 h1 (.inr h2) h3 h4,q⟩⟩
end
section
variable {X:Cx}
theorem rL:OpR X (binaryOp .Add) (fun x y H Q=> ∃ a b xs ys,x=.ref a/\y=.ref b/\SqT X.K H a xs/\SqT X.K H b ys/\xs.length+ys.length<=sizeLine/\(xs=[]->Q (.ref b) H)/\(xs≠[]->ys=[]->Q (.ref a) H)/\
  (xs≠[]->ys≠[]-> ∀ p,H p=none->Q (.ref p) (upd H p (.tup (xs++ys))))):=by
 intro pins s σ H x y v u Q I rx ry h
 obtain ⟨a,b,xs,ys,rfl,rfl,ha,hb,hz,q0,q1,q2⟩:=h
 by_cases hx:xs=[]
 ·subst hx
  cases rx
  cases ry
  obtain ⟨its,r1,p1,_⟩:=I.tuple ha
  obtain ⟨its2,r2,p2,_⟩:=I.tuple hb
  cases r1
  obtain ⟨⟨cls,dd,data,sl⟩,ho,hc,n,hd⟩:=id p1
  obtain ⟨⟨cls2,dd2,data2,sl2⟩,ho2,hc2,n2,hd2⟩:=id p2
  simp only at hc hd hc2 hd2
  subst hc hd hc2 hd2
  exact concat_meets ⟨_,ho,rfl⟩ ⟨_,ho2,rfl⟩ noFill_tuple_add seq_tuple_add PySem.F.slot_tuple_add PySem.F.entry_tuple_add (PySem.F.args_tuple_add_2 _ _)
   (tuple_addW0 a b #[] its2.toArray n n2 dd dd2 sl sl2 rfl) ⟨ho,ho2,⟨.ref b,H,I,rfl,q0 rfl⟩⟩
 ·exact tW pins s σ H _ _ v u Q I rx ry ⟨a,b,xs,ys,rfl,rfl,ha,hb,hx,hz,q1 hx,q2 hx⟩
end
end L2
namespace HT
open PySem PyProof.Rows
open PySem.AutoSeq1 (wpAny_loadPart')
section
variable {prog:Program} {w:World} {A:Around} {s:Shared} {E:Value->Shared->Prop}
noncomputable def eO (it:Addr):Obj:={cls:=.type "enumerate",data:=.fields #[.none,.bool false,.ref it,rawInt 0,.none,.none]}
theorem qw (l:Addr) (o:Obj) (items:Array Value):Meets (Builtin.«enumerate.__new__» ⟨[.type "enumerate",.ref l],[]⟩)
  (fun _ R s=>s.heap.get? l=some o/\s.heap.IsTuple l items/\R (.ok (.ret (.ref (s.heap.push (tIt l)).objs.size))) {s with heap:=(s.heap.push (tIt l)).push (eO s.heap.objs.size)}):=
 .of_wp fun prog w A R s h=>by
  obtain ⟨hp,g,d,tk,os⟩:=s
  obtain ⟨hl,a1,h⟩:=h
  have hsub:=sub_enumerate
  have b1:Heap.IsTuple (Shared.heap ⟨hp,g,d,tk,os⟩) l items:=a1
  wp_walk using wpAny_loadPart' hl
  refine wpAny_stack_any fun st=>wpAny_pure ?_
  split
  ·rename_i c _ _ _ _ _
   cases (c==Value.type "enumerate") <;> (wp_walk using wpAny_loadPart' hl,wpAny_pyIter_tuple b1;exact ⟨_,rfl,h⟩)
  ·wp_walk using wpAny_loadPart' hl,wpAny_pyIter_tuple b1
   exact ⟨_,rfl,h⟩
theorem call_enumT {l:Addr} {items:Array Value} {Q:Value->Shared->Prop} (a1:s.heap.IsTuple l items)
  (q: ∀ h',IsEnum h' (s.heap.objs.size+1) s.heap.objs.size 0 .none->h'.IsTupleIter s.heap.objs.size l 0->(∀ b o,s.heap.get? b=some o->h'.get? b=some o)->Q (.ref (s.heap.objs.size+1)) {s with heap:=h'}):
  wpAny (model prog w) A (call (.type "enumerate") [.ref l]) Q E s:=by
 obtain ⟨o,ho,_⟩:=id a1
 refine callType_new PySem.F.called_enumerate (by decide) (PySem.F.typeCall_enumerate_1 _) (PySem.F.newCall_enumerate_1 _) (fun obj=>PySem.F.args_object_init_2 obj _) PySem.F.entry_enumerate_new (qw l o items) ⟨ho,a1,?_⟩
 have z1:(s.heap.push (tIt l)).objs.size=s.heap.objs.size+1:=Heap.size_push ..
 have g2:((s.heap.push (tIt l)).push (eO s.heap.objs.size)).get? (s.heap.push (tIt l)).objs.size=some (eO s.heap.objs.size):=Heap.get?_push_size _ rfl
 have g1:((s.heap.push (tIt l)).push (eO s.heap.objs.size)).get? s.heap.objs.size=some (tIt l):=Heap.get?_push_of_some _ (Heap.get?_push_size _ rfl)
 show _/\_
 rw [z1]at g2 ⊢
 exact ⟨⟨_,g2,rfl⟩,q _ g2 ⟨_,g1,rfl,rfl⟩ fun b o x=>Heap.get?_push_of_some _ (Heap.get?_push_of_some _ x)⟩
end
end HT
namespace L2
open PySem PySem.Spec PyProof.Rows
noncomputable def Ite (l:Addr):It:=
 ⟨fun i H=> ∃ xs x,H l=some (.tup xs)/\xs[i]? =some x,
  fun i H v H'=> ∃ T x,H T=none/\v=.ref T/\H'=upd H T (.tup [.int (i:Int),x])/\ ∀ xs,H l=some (.tup xs)->xs[i]? =some x,
  fun i H=> ∃ xs,H l=some (.tup xs)/\xs.length=i⟩
noncomputable def xz (e it l:Addr) (i:Nat) (h:Heap):Prop:=(∃ old,IsEnum h e it (i:Int) old)/\HT.SIter true h it l i
theorem fp2 {e it b:Addr} (h:b∈[e,it]):b=e\/b=it:=by simpa using h
theorem pA {P:Program} {w:World} {K:PySem.W.Frag} {es:List Expr} {kk:Nat} {tpos:Pos} (e it l:Addr) (nd:e≠it):on P w K (.Tuple es kk tpos) (Ite l) [e,it] e (xz e it l):=by
 have ap: ∀ {X:Cx} {pins:List (Addr×Obj)} {H:Hp} {xs:List V},(∀ b∈[e,it],jn X pins H b)->H l=some (.tup xs)->e≠l/\l≠it:=by
  intro X pins H xs hf h1
  have a: ∀ b∈[e,it],b≠l:=fun b hb=>(aj h1 (hf b hb).1).symm
  exact ⟨a e (by simp),Ne.symm (a it (by simp))⟩
 refine ⟨by simp,fun i h st b hb=>?_,fun i h h' st k=>?_,?_,?_,fun _ _ _ _ _ st h=>wpAny_pyIter_enum st.1.choose_spec h⟩
 ·obtain ⟨⟨old,h1⟩,h2⟩:=st
  rcases fp2 hb with rfl | rfl
  ·exact ⟨_,h1,fun v e=>nomatch e⟩
  ·exact h2.obj
 ·obtain ⟨⟨old,h1⟩,h2⟩:=st
  exact ⟨⟨old,k e (by simp) _ h1⟩,h2.at fun o z=>k it (by simp) o z⟩
 ·intro X hP hw hK hc i pins s σ H E I hf st hg
  subst hP hw hK
  obtain ⟨xs,x,hx,ex⟩:=hg
  obtain ⟨its,r1,q1,_⟩:=I.seqS (c:=true) hx
  obtain ⟨u,hu,ru⟩:=r1.get ex
  obtain ⟨⟨old,z0⟩,s1⟩:=st
  obtain ⟨a1,a2⟩:=ap hf hx
  refine wpAny_pyNext_enum_itemD (HT.draws_seq (A:=X.A.in1) true (I.ok.hd hc) it l a2 its.toArray) z0 ⟨s1,q1⟩ (by rw [List.size_toArray];exact (List.getElem?_eq_some_iff.mp hu).1) nd
   (by simp only [List.mem_cons,List.not_mem_nil,or_false,not_or];exact ⟨nd,a1⟩) fun x' h' tk px z1 t1 pr _ kk=>?_
  have ex':x'=u:=by
   have p1:its[i]? =some x':=by simpa using px
   rw [hu]at p1;exact (Option.some.inj p1).symm
  subst ex'
  refine ⟨_,rfl,wpAny_letOwnedTupleGo_enum z1 fun h'' z2 sb=>?_⟩
  have lt: ∀ {b:Addr} {ob:Obj},s.heap.get? b=some ob->b≠s.heap.objs.size:=fun e=>Nat.ne_of_lt (Heap.lt_size e)
  have fT:H s.heap.objs.size=none:=I.hok.fresh (Nat.le_refl _)
  have keep: ∀ b ob,b∉[e,it]->s.heap.get? b=some ob->h''.get? b=some ob:=fun b ob hb z=>by
   simp only [List.mem_cons,List.not_mem_nil,or_false,not_or]at hb
   exact sb.extBut b ob hb.1 (kk b ob hb.1 hb.2 z)
  have trk: ∀ b uo,H b=some uo->b∉[e,it]:=fun b uo z hb=>by rw [(hf b hb).1]at z;cases z
  have ptT:=sb.extBut _ _ (Ne.symm (lt z0)) pr
  have I2:Inv X pins σ (upd H s.heap.objs.size (.tup [.int (i:Int),x])) {s with heap:=h'',toks:=tk+1}:=by
   refine I.step (g':=s.gens) (d':=s.drawn) (ch:=[e,it]) (fun b hb=>?_) (fun b ob _ _ hb z _=>keep b ob hb z) (fun b ob _ _ hb z _=>⟨ob.slots,keep b ob hb z⟩) (fun b ob hb z n=>by rw [am (lt z)];exact n)
    (fun b ob hb z=>⟨ob,keep b ob hb z⟩) (fun b zs z=>by rw [am (aj z fT)];exact z) (fun b ob uo z=>by rw [am (aj z fT)];exact z) (fun b ps z=>⟨#[],by rw [am (aj z fT),z];simp⟩) (fun m hm=>?_) (fun b uo z=>?_) I.bare
   ·obtain ⟨_,f1,_,f3,f4,f5⟩:=hf b hb
    exact ⟨f3,f1,f4,f5⟩
   ·obtain ⟨ob,es',ep,ho,r⟩:=hm
    exact ⟨ob,es',ep,keep _ ob (fun hb=>(hf _ hb).2.1 rfl) ho,r⟩
   ·by_cases hb:b=s.heap.objs.size
    ·subst hb
     rw [ac]at z
     cases z
     exact ⟨by show 2<=sizeLine;decide,[.int (i:Int) tk,x'],.cons ⟨tk,rfl⟩ (.cons ru .nil),_,ptT,rfl,_,rfl⟩
    ·rw [am hb]at z
     refine (I.hok b uo z).stay (fun c' v' hc' q=>keep c' v' ?_ q) (fun c' q=>by rw [am (aj q fT)];exact q) fun c' zs q=>by rw [am (aj q fT)];exact q
     rcases hc' with h | h
     ·rw [h];exact trk b uo z
     ·exact trk c' _ h
  refine ⟨.ref s.heap.objs.size,_,I2,rfl,⟨_,x,fT,rfl,rfl,fun xs' h1=>?_⟩,⟨⟨_,by rw [Int.natCast_add];exact z2⟩,t1.1.at fun o z=>sb.extBut _ o (Ne.symm nd) z⟩,fun b hb=>?_⟩
  ·rw [hx]at h1
   cases h1
   exact ex
  ·have hb': ∃ ob,s.heap.get? b=some ob:=by
    rcases fp2 hb with rfl | rfl
    ·exact ⟨_,z0⟩
    ·obtain ⟨ob,z,_⟩:=s1.obj;exact ⟨ob,z⟩
   obtain ⟨ob,z⟩:=hb'
   rw [am (lt z)]
   exact (hf b hb).1
 ·intro X hP hw hK hc i pins s σ H E I hf st hg
  subst hP hw hK
  obtain ⟨xs,hx,l'⟩:=hg
  obtain ⟨its,r1,q1,_⟩:=I.seqS (c:=true) hx
  obtain ⟨⟨old,z0⟩,s1⟩:=st
  obtain ⟨a1,a2⟩:=ap hf hx
  have hi:i=its.toArray.size:=by rw [List.size_toArray,<- l'];exact r1.length
  rw [hi]at s1
  refine wpAny_pyNext_enum_endD (HT.draws_seq (A:=X.A.in1) true (I.ok.hd hc) it l a2 its.toArray) z0 ⟨s1,q1⟩ fun h' eb=>⟨rfl,?_⟩
  exact I.turned (t':=s.toks) (it:=it) (fun b ob hb z=>eb b ob hb z) (hf it (by simp)).1 (hf it (by simp)).2.1 (hf it (by simp)).2.2.2.1 (hf it (by simp)).2.2.2.2.1 (hf it (by simp)).2.2.2.2.2
noncomputable def wp (ta:TA):TI:=fun σ H R=>ta σ H fun vs H1=> ∃ l xs,vs=[.ref l]/\H1 l=some (.tup xs)/\R (Ite l) H1
theorem tS {X:Cx} {es:List Expr} {kk:Nat} {tpos:Pos} {a:Expr} {ta:TA} {p pos:Pos} (hg:Gl X "enumerate") (hm:X.mg "enumerate"=none) (ha:PA X [a] ta) (hs:starEach [a] X.env=[(false,eval a X.env)]:=by rfl):
  PI X (.Tuple es kk tpos) (.Call (.Name "enumerate" p) [a] [] pos) (wp ta):=by
 intro pins s σ H R I h
 refine Call_ (eV I hg hm (show bootBuiltins "enumerate"=some (.type "enumerate") by decide +kernel) (PyProof.Rows.callWith_type1 (thn (ha pos pins s σ H _ I h) fun us s1 ⟨vs,H1,I1,r1,q1⟩=>?_) (by rw [hs];rfl) rfl))
 obtain ⟨l,xs,rfl,hx,q⟩:=q1
 obtain ⟨u,rfl,ru⟩:=fj r1
 cases (show u=Value.ref l from ru)
 obtain ⟨its,_,e1,_⟩:=I1.seqS (c:=true) hx
 refine HT.call_enumT e1 fun h' a1 a2 kp=>?_
 have I2:Inv X pins σ H1 {s1 with heap:=h'}:=I1.kept (t':=s1.toks) kp
 refine wpAny_pyIter_enum a1 ?_
 refine ⟨s1.heap.objs.size+1,[s1.heap.objs.size+1,s1.heap.objs.size],_,_,H1,rfl,I2,pA _ _ l (Nat.succ_ne_self _),⟨⟨_,a1⟩,a2⟩,fun b hb=>?_,q⟩
 have hb':s1.heap.objs.size<=b:=by rcases fp2 hb with rfl | rfl <;> omega
 exact I1.fpOk hb' (I1.hok.fresh hb')
section
variable {X:Cx} {x x2:Str} {px px2 tpos pos fpos:Pos} {kk:Nat} {iter elt:Expr} {scope sc0:Scope} {N0 ys:List Str} {fr:List Nat} {wi:TI} {te:TE}
noncomputable def rB (K:PySem.W.Frag):R2:=fun x y H Q=> ∃ a b xs ys,x=.ref a/\y=.ref b/\SqT K H a xs/\SqT K H b ys/\xs.length+ys.length<=sizeLine/\(xs=[]->Q (.ref b) H)/\(xs≠[]->ys=[]->Q (.ref a) H)/\
 (xs≠[]->ys≠[]-> ∀ p,H p=none->Q (.ref p) (upd H p (.tup (xs++ys))))
theorem iT:OpR X (binaryOp .Add) (rB X.K):=by
 intro pins s σ H x y v u Q I rx ry h
 obtain ⟨a,b,xs,ys,e1,e2,h1,h2,h3,q1,q2,q3⟩:=h
 exact rL pins s σ H x y v u Q I rx ry ⟨a,b,xs,ys,e1,e2,h1,h2,h3,q1,q2,q3⟩
end
theorem eQ {G:V->V->Prop} {R:Value->Value->Prop} (hG: ∀ v u x y,G v u->RelV v x->RelV u y->R x y): ∀ {xs ys:List V} {us ws:List Value},Paired G xs ys->Vals xs us->Vals ys ws->
  us.length=ws.length/\ ∀ j (h1:j<us.length) (h2:j<ws.length),R us[j] ws[j]
 | _,_,_,_,.nil,.nil,.nil=>⟨rfl,fun j h _=>absurd h (Nat.not_lt_zero _)⟩
 | _,_,_,_,.cons g p,.cons r1 r,.cons s1 s=>by
  obtain ⟨l,h⟩:=eQ hG p r s
  refine ⟨by simp [l],fun j h1 h2=>?_⟩
  cases j with
  | zero=>exact hG _ _ _ _ g r1 s1
  | succ j=>exact h j (Nat.lt_of_succ_lt_succ h1) (Nat.lt_of_succ_lt_succ h2)
end L2
namespace HT
open PySem PyProof.Rows
section
variable {prog:Program} {w:World} {A:Around} {s:Shared} {E:Value->Shared->Prop} {d j:Addr} {ks:List Value} {i ep:Nat}
noncomputable def VEs (h:Heap) (d:Addr) (ks:List Value) (ep:Nat):Prop:= ∃ o es,h.get? d=some o/\o.ExactDict/\o.data=.dict es ep/\es.toList.map (·.val)=ks
theorem VEs.type (m:VEs s.heap d ks ep):s.TypeIs (.ref d) "dict":=by
 obtain ⟨o,_,ho,hc,_⟩:=m
 exact ⟨o,ho,hc.1⟩
theorem VEs.keeps {h h':Heap} (m:VEs h d ks ep) (k: ∀ o,h.get? d=some o->h'.get? d=some o):VEs h' d ks ep:=by
 obtain ⟨o,es,ho,r⟩:=m
 exact ⟨o,es,k o ho,r⟩
theorem gG {es:Array DictEntry} (e:es.toList.map (·.val)=ks):es.size=ks.length:=by
 rw [<- e,List.length_map,Array.length_toList]
theorem iter_ves {r:Addr} {Q:Value->Shared->Prop} (hv:s.heap.IsValuesView r d) (m:VEs s.heap d ks ep)
  (q:Q (.ref s.heap.objs.size) {s with heap:=s.heap.push {cls:=.type "dict_valueiterator",data:=.fields #[.ref d,.int 0 0,.int ks.length 0,.int ep 0]}}):wpAny (model prog w) A (pyIter (.ref r)) Q E s:=by
 obtain ⟨ov,hov,hcv,hdv⟩:=(show ∃ o,s.heap.get? r=some o/\o.cls=.type "dict_values"/\o.data=.fields #[.ref d]from hv)
 obtain ⟨o,es,ho,hc,hdat,hk⟩:=m
 refine wpAny_pyIter_slot hv.typeIs PySem.F.slot_dict_values_iter (wpAny_call_entry PySem.F.slot_dict_values_iter hv.typeIs PySem.F.entry_dict_values_iter ?_ (PySem.F.args_dict_values_iter_1 _))
 unfold Builtin.«dict_values.__iter__» Builtin.Dict_items.dictOf Builtin.Dict_items.newIterator
 refine wpAny_bind (wpAny_pure (wpAny_bind (wpAny_bind (wpAny_field hov hdv (x:=.ref d) rfl (wpAny_pure (wpAny_bind (wpAny_bind (wpAny_dictEntries ho hdat (wpAny_bind (wpAny_dictEpoch ho hdat ?_))))))))))
 have own:Builtin.Dict_items.ownsTuple "dict_valueiterator"=false:=by decide
 simp only [own,Bool.false_eq_true,if_false]
 refine wpAny_newObj_type (wpAny_pure ⟨_,rfl,"dict_valueiterator",_,⟨_,Heap.get?_push_size _ rfl,rfl⟩,PySem.F.slot_dict_valueiterator_next.lookup,?_⟩)
 simpa [rawInt,gG hk]using q
theorem call_ves {Q:Value->Shared->Prop} (lo:(d==sysModules)=false) (m:VEs s.heap d ks ep)
  (q:Q (.ref s.heap.objs.size) {s with heap:=s.heap.push {cls:=.type "dict_values",data:=.fields #[.ref d]}}):wpAny (model prog w) A (call (.builtin "dict.values") [.ref d]) Q E s:=by
 have ty:=m.type
 refine wpAny_call_entry PySem.F.slot_dict_values ty PySem.F.entry_dict_values ?_ (PySem.F.args_dict_values_1 _)
 refine wpAny_bind ?_
 unfold Builtin.Dict.noArgs
 refine wpAny_bind (wpAny_notOrdered_dict ty ?_)
 refine (show wpAny _ _ (pure d) _ _ s from wpAny_pure (show wpAny _ _ (Builtin.Dict.showsAll d >>= _) _ _ s from ?_))
 unfold Builtin.Dict.showsAll
 rw [if_neg (by rw [lo];exact Bool.false_ne_true)]
 exact wpAny_bind (wpAny_pure (wpAny_bind (wpAny_newObj_type (wpAny_pure ⟨_,rfl,q⟩))))
theorem next_ves {x:Value} {Q:Option Value->Shared->Prop} (st:s.heap.IsValIter j d i ks.length ep) (m:VEs s.heap d ks ep) (hx:ks[i]? =some x)
  (q: ∀ h',h'.IsValIter j d (i+1) ks.length ep->Heap.SameBut j s.heap h'->Q (some x) {s with heap:=h'}):wpAny (model prog w) A (pyNext (.ref j)) Q E s:=by
 have ty:=st.typeIs
 obtain ⟨o,ho,hc,hd⟩:=id st
 obtain ⟨od,es,hod,hcd,hdd,hk⟩:=m
 have hz:=gG hk
 have hlt:i<ks.length:=(List.getElem?_eq_some_iff.mp hx).1
 have hes:i<es.size:=by omega
 have hkey:es[i].val=x:=by
  have e1:(es.toList.map (·.val))[i]? =some x:=by rw [hk];exact hx
  rw [List.getElem?_map,Array.getElem?_toList,Array.getElem?_eq_getElem hes]at e1
  exact Option.some.inj e1
 unfold pyNext
 refine wpAny_bind (wpAny_attempt (wpAny_callSpecial?_slot (name:=Str.ofString "__next__") ty PySem.F.slot_dict_valueiterator_next (wpAny_call_entry PySem.F.slot_dict_valueiterator_next ty PySem.F.entry_dict_valueiterator_next ?_ (PySem.F.args_dict_valueiterator_next_1 _))))
 refine wpAny_bind (wpAny_pure (wpAny_bind (wpAny_bind ?_)))
 first | refine wpAny_bind (wpAny_typeNameOfWhole_valiter ty (wpAny_pure (wpAny_bind (wpAny_fieldsOf ho hd ?_)))) | refine wpAny_bind (wpAny_typeNameOf_valiter ty (wpAny_pure (wpAny_bind (wpAny_fieldsOf ho hd ?_))))
 have own:Builtin.Dict_items.ownsTuple "dict_valueiterator"=false:=by decide
 simp only [own,Bool.false_eq_true,if_false]
 refine (show wpAny _ _ (if (Value.ref d==Value.none)=true then _ else _) _ _ s from ?_)
 rw [if_neg fun b0:(Value.ref d==Value.none)=true=>Bool.false_ne_true b0]
 refine wpAny_bind (wpAny_pure (wpAny_bind (wpAny_dictEntries hod hdd ?_)))
 rw [if_neg (by rw [hz];simp)]
 refine wpAny_bind (wpAny_pure (wpAny_bind (wpAny_dictEpoch hod hdd ?_)))
 rw [if_neg (by simp)]
 refine wpAny_pure ?_
 simp only [show ¬ ((i:Int) <0)from by omega,if_false,Int.toNat_natCast,Array.getElem?_eq_getElem hes]
 refine wpAny_bind ?_
 first | refine wpAny_bind (wpAny_typeNameOfWhole_valiter ty (wpAny_pure (wpAny_bind (wpAny_isOneOf_valiter ty ?_)))) | refine wpAny_bind (wpAny_typeNameOf_valiter ty (wpAny_pure (wpAny_bind (wpAny_isOneOf_valiter ty ?_))))
 refine (show wpAny _ _ (setField (.ref j) 1 (rawInt ((i:Int) +1)) >>= _) _ _ s from ?_)
 refine wpAny_bind (wpAny_setField ho hd (by simp) ?_)
 have st':(s.heap.update j (Obj.mapFields (·.setIfInBounds 1 (rawInt ((i:Int) +1))))).IsValIter j d (i+1) ks.length ep:=by
  refine ⟨_,Heap.get?_update_self _ ho (Obj.isFreed_of_fields (Obj.data_mapFields hd _)),(Obj.cls_mapFields ..).trans hc,?_⟩
  rw [Obj.data_mapFields hd];simp [rawInt]
 refine wpAny_bind (wpAny_holding (wpAny_bind (wpAny_isOneOf_valiter (s:={s with heap:=s.heap.update j (Obj.mapFields (·.setIfInBounds 1 (rawInt ((i:Int) +1))))}) st'.typeIs (wpAny_bind (wpAny_isOneOf_valiter (s:={s with heap:=s.heap.update j (Obj.mapFields (·.setIfInBounds 1 (rawInt ((i:Int) +1))))}) st'.typeIs ?_)))))
 refine (show wpAny _ _ (pure es[i].val) _ _ _ from ?_)
 rw [hkey]
 exact wpAny_pure (wpAny_pure ⟨_,rfl,wpAny_pure (q _ st' (Heap.SameBut.update ..))⟩)
theorem end_ves {Q:Option Value->Shared->Prop} (hh:A.handled=none) (st:s.heap.IsValIter j d i ks.length ep) (m:VEs s.heap d ks ep) (hx:ks.length<=i)
  (q: ∀ h',Heap.ExtBut j s.heap h'->Q none {s with heap:=h'}):wpAny (model prog w) A (pyNext (.ref j)) Q E s:=by
 have ty:=st.typeIs
 obtain ⟨o,ho,hc,hd⟩:=id st
 obtain ⟨od,es,hod,hcd,hdd,hk⟩:=m
 have hz:=gG hk
 unfold pyNext
 refine wpAny_bind (wpAny_attempt (wpAny_callSpecial?_slot (name:=Str.ofString "__next__") ty PySem.F.slot_dict_valueiterator_next (wpAny_call_entry PySem.F.slot_dict_valueiterator_next ty PySem.F.entry_dict_valueiterator_next ?_ (PySem.F.args_dict_valueiterator_next_1 _))))
 refine wpAny_bind (wpAny_pure (wpAny_bind (wpAny_bind ?_)))
 first | refine wpAny_bind (wpAny_typeNameOfWhole_valiter ty (wpAny_pure (wpAny_bind (wpAny_fieldsOf ho hd ?_)))) | refine wpAny_bind (wpAny_typeNameOf_valiter ty (wpAny_pure (wpAny_bind (wpAny_fieldsOf ho hd ?_))))
 have own:Builtin.Dict_items.ownsTuple "dict_valueiterator"=false:=by decide
 simp only [own,Bool.false_eq_true,if_false]
 refine (show wpAny _ _ (if (Value.ref d==Value.none)=true then _ else _) _ _ s from ?_)
 rw [if_neg fun b0:(Value.ref d==Value.none)=true=>Bool.false_ne_true b0]
 refine wpAny_bind (wpAny_pure (wpAny_bind (wpAny_dictEntries hod hdd ?_)))
 rw [if_neg (by rw [hz];simp)]
 refine wpAny_bind (wpAny_pure (wpAny_bind (wpAny_dictEpoch hod hdd ?_)))
 rw [if_neg (by simp)]
 refine wpAny_pure ?_
 have hge:es.size<=i:=by omega
 simp only [show ¬ ((i:Int) <0)from by omega,if_false,Int.toNat_natCast,Array.getElem?_eq_none hge]
 refine wpAny_bind ?_
 first | refine wpAny_bind (wpAny_typeNameOfWhole_valiter ty (wpAny_pure ?_)) | refine wpAny_bind (wpAny_typeNameOf_valiter ty (wpAny_pure ?_))
 refine (show wpAny _ _ (setField (.ref j) 0 .none >>= _) _ _ s from wpAny_bind (wpAny_setField ho hd (by simp) ?_))
 refine (show wpAny _ _ (newExc (.type "StopIteration") [] >>= _) _ _ _ from wpAny_bind ?_)
 simp only [newExc,newTuple]
 refine wpAny_bind (wpAny_newObj_type (wpAny_bind (m:=firstArgMember _ _) (wpAny_of_eq (a:=Value.none) (by first | rfl | (simp only [firstArgMember];rfl)) (wpAny_newObj_type ?_ (by size_fits)))) (by size_fits))
 simp only [raiseNew]
 refine wpAny_bind (wpAny_handled ?_)
 rw [show A.in1.handled=none from hh]
 refine (wpAny_bind (wpAny_pure (wpAny_throw (?_))))
 refine wpAny_bind (wpAny_isInstance (T:="StopIteration") (b:=true) ⟨_,Heap.get?_push_size _ rfl,rfl⟩ isSubtype_stop (wpAny_pure (q _ ?_)))
 exact ((Heap.SameBut.update ..).extBut.push _).push _
end
section
variable {prog:Program} {w:World} {A:Around} {s:Shared} {E:Value->Shared->Prop}
theorem getItem_tuple_all {t sl:Addr} {items:Array Value} {vl vu:Value} {lo hi:Option Int} {Q:Value->Shared->Prop} (ht:IsTup s.heap t items) (hs:s.heap.IsSliceOf sl vl vu .none) (pl:IsPart vl lo) (pu:IsPart vu hi)
  (i1:sIx items.size 0 lo=0) (i2:sIx items.size items.size hi=items.size) (h:Q (.ref t) s):wpAny (model prog w) A (getItem (.ref t) (.ref sl)) Q E s:=by
 obtain ⟨os,hos,hcs,hds⟩:=id hs
 have hTs:s.TypeIs (.ref sl) "slice":=⟨os,hos,hcs⟩
 unfold getItem
 try with_reducible refine wpAny_holding ?_
 first | refine wpAny_bind (wpAny_pure ?_) | skip
 refine wpAny_bind (wpAny_sequenceKey ht.typeIs (by decide) (wpAny_bind (wpAny_callSpecial?_slot (name:=Str.ofString "__getitem__") ht.typeIs PyProof.Rows.slot_tuple_getitem
  (wpAny_call_entry PyProof.Rows.slot_tuple_getitem ht.typeIs entry_tuple_getitem ?_ (args_tuple_getitem _ _)))))
 refine (show wpAny _ _ (Builtin.Tuple.tupleItemsOf (.ref t) >>= _) _ _ s from wpAny_bind (tupleItemsOf_ ht (wpAny_bind (wpAny_typeOf hTs ?_))))
 rw [if_pos (by decide)]
 refine wpAny_bind (dO hs pl pu ?_)
 rw [i1,i2]
 refine (show wpAny _ _ (if (((0:Nat):Int)==0&&(1:Int)==1&&(items.size-0)==items.size)=true then _ else _) _ _ s from ?_)
 rw [if_pos (by simp)]
 refine wpAny_bind (m:=Builtin.Tuple.tupleIsExact _) ?_
 unfold Builtin.Tuple.tupleIsExact
 refine wpAny_bind (wpAny_typeOf ht.typeIs (wpAny_pure ?_))
 rw [if_pos (by decide)]
 exact wpAny_bind (wpAny_rule (wpAny_pure ⟨_,rfl,wpAny_pure h⟩))
end
end HT
namespace L2
open PySem PySem.Spec PyProof.Rows
section
variable {X:Cx}
noncomputable def wZ:V->Option Int->Option Int->Hp->VK->Prop:=fun x lo hi H Q=> ∃ a xs,x=.ref a/\H a=some (.tup xs)/\ ∀ p H',(∀ b o,H b=some o->H' b=some o)->H' p=some (.tup (dW xs lo hi))->Q (.ref p) H'
theorem oC:SlR X wZ:=by
 intro pins s σ H x v vl vu lo hi sl Q I rx hs pl pu h
 obtain ⟨a,xs,ex,hx,q⟩:=h
 by_cases hw:HT.sIx xs.length 0 lo=0/\HT.sIx xs.length xs.length hi=xs.length
 ·subst ex
  cases rx
  obtain ⟨its,r,ht,hz⟩:=I.tuple (SqT.of (K:=X.K) hx)
  have hl:=r.length
  refine ⟨"tuple",_,PyProof.Rows.slot_tuple_getitem.lookup,ht.typeIs,HT.getItem_tuple_all ht hs pl pu (by rw [List.size_toArray,<- hl];exact hw.1) (by rw [List.size_toArray,<- hl];exact hw.2) ⟨.ref a,H,I,rfl,q a H (fun _ _ h=>h) ?_⟩⟩
  rw [hx]
  unfold dW
  rw [hw.1,hw.2,List.drop_zero,Nat.sub_zero,List.take_length]
 ·exact gE pins s σ H x v vl vu lo hi sl Q I rx hs pl pu ⟨a,xs,ex,SqT.of hx,hw,fun p hp=>q p _ (fun b o e=>by rw [am (aj e hp)];exact e) ac⟩
theorem gT: ∀ (ns:List Int) (a:Int),PySem.W.Num.sumInts a (ns.map PySem.W.WData.int)=some (.int (a+jL ns))
 | [],a=>by show some (PySem.W.WData.int a)=some (.int (a+0));rw [Int.add_zero]
 | n::r,a=>by
  have fold: ∀ (r:List Int) (b:Int),PySem.W.Num.foldFrom PySem.W.Num.add (.int b) (r.map PySem.W.WData.int)=some (.int (b+jL r)):=by
   intro r
   induction r with
   | nil=>intro b;show some (PySem.W.WData.int b)=some (.int (b+0));rw [Int.add_zero]
   | cons m r ih=>
    intro b
    show PySem.W.Num.foldFrom PySem.W.Num.add (.int (b+m)) (r.map PySem.W.WData.int)=some (.int (b+ (m+jL r)))
    rw [ih,Int.add_assoc]
  show (if (PySem.W.Num.fitsLong n&&PySem.W.Num.fitsLong (a+n))=true then PySem.W.Num.sumInts (a+n) (r.map PySem.W.WData.int)else PySem.W.Num.foldFrom PySem.W.Num.add (.int (a+n)) (r.map PySem.W.WData.int))=some (.int (a+ (n+jL r)))
  split
  ·rw [gT r,Int.add_assoc]
  ·rw [fold,Int.add_assoc]
theorem qA (hc:X.calm=true):cU X (.builtin "sum") (fun xs H Q=> ∃ (p:Addr) (ns:List Int),xs=[.ref p]/\SqL X.K H p (ns.map V.int)/\Q (.int (jL ns)) H):=by
 intro pins s σ H xs us Q I r h
 obtain ⟨p,ns,rfl,hq,q⟩:=h
 obtain ⟨u,rfl,ru⟩:=fj r
 cases ru
 obtain ⟨its,rv,pl,hz⟩:=I.list hq
 have hl:=pl.isList
 have hlt:p<s.heap.objs.size:=by obtain ⟨_,e,_⟩:=hl;exact Heap.lt_size e
 have hlen:its.length=ns.length:=by have:=rv.length;rw [List.length_map]at this;omega
 refine PySem.Flt.call_sum_walkF (xs:=ns.map PySem.W.WData.int) (r:=.int (jL ns)) (by rw [gT,Int.zero_add]) (wpAny_pyIter_list hl ?_)
 have W:=Walks.toS (Walks.list (prog:=X.prog) (w:=X.w) (A:=X.A.in1) (I.ok.hd hc) s.heap.objs.size p (Nat.ne_of_lt hlt) its.toArray)
 rw [show its.toArray.size=(ns.map PySem.W.WData.int).length by rw [List.size_toArray,List.length_map];exact hlen]at W
 refine ⟨s.heap.objs.size,[s.heap.objs.size,p],[s.heap.objs.size],_,_,_,rfl,W,⟨⟨_,Heap.get?_push_size _ rfl,rfl,rfl⟩,hl.push _⟩,fun b hb=>?_,fun i v hP=>?_,fun s' v hv hm=>?_⟩
 ·show b< (s.heap.push _).objs.size
  rw [Heap.size_push]
  rcases List.mem_cons.mp hb with e | e
  ·rw [e];exact Nat.lt_succ_self _
  ·rw [List.mem_singleton.mp e];exact Nat.lt_succ_of_lt hlt
 ·have hv:its[i]? =some v:=by simpa using hP
  have hi:i<ns.length:=by
   have:=(List.getElem?_eq_some_iff.mp hv).1
   omega
  have hx:(ns.map V.int)[i]? =some (V.int ns[i]):=by rw [List.getElem?_map,List.getElem?_eq_getElem hi] <;> rfl
  obtain ⟨u,eu,ru⟩:=rv.get hx
  rw [hv]at eu
  cases eu
  obtain ⟨t,rfl⟩:=ru
  exact ⟨.int ns[i],by rw [List.getElem?_map,List.getElem?_eq_getElem hi] <;> rfl,.int _ t⟩
 ·cases hv
  obtain ⟨hh,g,d,tk,os⟩:=s'
  obtain rfl:g=s.gens:=hm.gens
  obtain rfl:d=s.drawn:=hm.drawn
  obtain rfl:os=s.os:=hm.os
  refine ⟨.int _,H,I.kept (t':=tk) (h':=hh) fun b o e=>hm.heap b o (fun z=>?_) (Heap.get?_push_of_some _ e),⟨_,rfl⟩,q⟩
  rw [List.mem_singleton.mp z]at e
  exact absurd (Heap.lt_size e) (Nat.lt_irrefl _)
end
end L2
namespace HT
open PySem PyProof.Rows
section
variable {prog:Program} {w:World} {A:Around} {s:Shared} {E:Value->Shared->Prop} {d it:Addr} {ks:List (Value×Value)} {i ep:Nat}
noncomputable def IEs (h:Heap) (d:Addr) (ks:List (Value×Value)) (ep:Nat):Prop:= ∃ o es,h.get? d=some o/\o.ExactDict/\o.data=.dict es ep/\es.toList.map (fun e=>(e.key,e.val))=ks
end
end HT
namespace L2
open PySem PySem.Spec PyProof.Rows
theorem Inv.freeze {X:Cx} {pins:List (Addr×Obj)} {σ:St} {H:Hp} {s:Shared} {d:Addr} {o:Obj} {kvs:List (List Key×V)} (I:Inv X pins σ H s) (hd:H d=some (.dT kvs)) (ho:s.heap.get? d=some o):Inv X pins σ (upd H d (.frz o (.dT kvs))) s:=by
 refine ij (t':=s.toks) (h':=s.heap) I (by rw [hd];exact True.intro) ⟨rfl,fun _ _=>rfl⟩ ⟨o,ho⟩ ⟨ho,?_⟩
 obtain ⟨z,lo,xs,kt,r⟩:=(show ObjOk X.prog X.w H s.heap d (.dT kvs)from I.hok d _ hd)
 refine ⟨z,lo,xs,Paired.mapP kt fun p q h=>⟨h.1,?_,h.2.2⟩,r⟩
 rw [am (fun z=>by rw [z,hd]at h;cases h.2.1)]
 exact h.2.1
noncomputable def nO (o:Obj):Nat:=match o.data with
 | .dict es _=>es.size
 | _=>0
noncomputable def epO (o:Obj):Nat:=match o.data with
 | .dict _ ep=>ep
 | _=>0
theorem ja {X:Cx} {pins:List (Addr×Obj)} {σ:St} {H:Hp} {s:Shared} {d:Addr} {o:Obj} {kvs:List (List Key×V)} (I:Inv X pins σ H s) (hd:H d=some (.frz o (.dT kvs))):
  ∃ xs:List (List Key×Addr×Value),KT H kvs xs/\(d==sysModules)=false/\nO o=xs.length/\HT.IEs s.heap d (xs.map fun q=>(Value.ref q.2.1,q.2.2)) (epO o)/\HT.VEs s.heap d (xs.map fun q=>q.2.2) (epO o)/\s.heap.get? d=some o:=by
 obtain ⟨ho,z,lo,xs,kt,o',es,ep,h1,h2,h3,h4,h5⟩:=(show ObjOk X.prog X.w H s.heap d (.frz o (.dT kvs))from I.hok d _ hd)
 rw [ho]at h1
 cases h1
 have e1:nO o=es.size:=by unfold nO;rw [h3]
 have e2:epO o=ep:=by unfold epO;rw [h3]
 refine ⟨xs,kt,lo,?_,⟨o,es,ho,h2,by rw [e2];exact h3,?_⟩,⟨o,es,ho,h2,by rw [e2];exact h3,?_⟩,ho⟩
 ·rw [e1,<- Array.length_toList,h4,List.length_map]
 ·rw [h4,List.map_map];rfl
 ·rw [h4,List.map_map];rfl
theorem uJ {H:Hp}: ∀ {kvs:List (List Key×V)} {xs:List (List Key×Addr×Value)} {i:Nat} {kv:List Key×V},KT H kvs xs->kvs[i]? =some kv-> ∃ q:List Key×Addr×Value,xs[i]? =some q/\H q.2.1=some (.tup (kv.1.map kV))/\RelV kv.2 q.2.2
 | _,_,i,_,.nil,e=>by cases i <;> cases e
 | _,_,0,_,.cons h _,e=>by cases e;exact ⟨_,rfl,h.2.1,h.2.2⟩
 | _,_,i+1,_,.cons _ t,e=>uJ (i:=i) t e
noncomputable def xi (J:Addr->Obj->It) (to:TE):TI:=fun σ H R=>to σ H fun x H1=> ∃ d kvs,x=.ref d/\((H1 d=some (.dT kvs)/\ ∀ o,R (J d o) (upd H1 d (.frz o (.dT kvs))))\/ ∃ o,H1 d=some (.frz o (.dT kvs))/\R (J d o) H1)
theorem vt {X:Cx} {pins:List (Addr×Obj)} {σ:St} {H:Hp} {s:Shared} {d:Addr} {kvs:List (List Key×V)} {J:Addr->Obj->It} {R:It->Hp->Prop} (I:Inv X pins σ H s)
  (h:(H d=some (.dT kvs)/\ ∀ o,R (J d o) (upd H d (.frz o (.dT kvs))))\/ ∃ o,H d=some (.frz o (.dT kvs))/\R (J d o) H): ∃ o H',Inv X pins σ H' s/\H' d=some (.frz o (.dT kvs))/\R (J d o) H':=by
 rcases h with ⟨hd,q⟩ | ⟨o,hd,q⟩
 ·obtain ⟨_,_,xs,kt,o,es,ep,h1,_⟩:=(show ObjOk X.prog X.w H s.heap d (.dT kvs)from I.hok d _ hd)
  exact ⟨o,_,I.freeze hd h1,ac,q o⟩
 ·exact ⟨o,H,I,hd,q⟩
noncomputable def Itj (d:Addr) (o:Obj):It:=
 ⟨fun i H=> ∃ kvs kv,H d=some (.frz o (.dT kvs))/\kvs[i]? =some kv,
  fun i H x H'=>H'=H/\ ∀ kvs,H d=some (.frz o (.dT kvs))->(kvs.map (·.2))[i]? =some x,
  fun i H=> ∃ kvs,H d=some (.frz o (.dT kvs))/\kvs.length=i⟩
theorem pq {P:Program} {w:World} {K:PySem.W.Frag} {tg:Expr} (it d:Addr) (o:Obj):on P w K tg (Itj d o) [it] it (fun i h=>h.IsValIter it d i (nO o) (epO o)) where
 mem:=by simp
 obj:=fun i h st b hb=>by
  have e:b=it:=by simpa using hb
  subst e
  obtain ⟨o,e,c,d⟩:=st
  exact ⟨o,e,fun v z=>by rw [d]at z;cases z⟩
 keep:=fun i h h' st k=>st.at fun o e=>k it (by simp) o e
 item:=by
  intro X hP hw hK hc i pins s σ H E I hf st hg
  subst hP hw hK
  obtain ⟨kvs,kv,hd,hx⟩:=hg
  obtain ⟨xs,kt,lo,hn,_,m,_⟩:=ja I hd
  obtain ⟨q,hq,hc',rv⟩:=uJ kt hx
  obtain ⟨f0,f1,f2,f3,f4,f5⟩:=hf it (by simp)
  rw [hn,<- List.length_map (f:=fun q:List Key×Addr×Value=>q.2.2)]at st
  refine HT.next_ves st m (by rw [List.getElem?_map,hq];rfl) fun h' st' sb=>?_
  have I1:Inv X pins σ H {s with heap:=h'}:=I.turned (t':=s.toks) (fun b o hb e=>sb.extBut b o hb e) f0 f1 f3 f4 f5
  obtain ⟨o',e,c,d'⟩:=id st'
  rw [List.length_map,<- hn]at st'
  exact ⟨q.2.2,rfl,me (s:={s with heap:=h'}) e c d' (by decide) ⟨_,H,I1,rv,⟨rfl,fun ys hy=>by rw [hd]at hy;cases hy;rw [List.getElem?_map,hx];rfl⟩,st',fun b hb=>(hf b hb).1⟩⟩
 done:=by
  intro X hP hw hK hc i pins s σ H E I hf st hg
  subst hP hw hK
  obtain ⟨kvs,hd,hl⟩:=hg
  obtain ⟨xs,kt,lo,hn,_,m,_⟩:=ja I hd
  have hle:xs.length=kvs.length:=(Paired.length kt).symm
  obtain ⟨f0,f1,f2,f3,f4,f5⟩:=hf it (by simp)
  rw [hn,<- List.length_map (f:=fun q:List Key×Addr×Value=>q.2.2)]at st
  exact HT.end_ves (I.ok.hd hc) st m (by rw [List.length_map];omega) fun h' eb=>⟨rfl,I.turned (t':=s.toks) (fun b o hb e=>eb b o hb e) f0 f1 f3 f4 f5⟩
 self:=fun _ _ _ _ _ st h=>wpAny_pyIter_valiter st h
theorem oF {X:Cx} {tg:Expr} {o:Expr} {to:TE} {apos cpos:Pos} (ho:PE X o to)
  (hbase:attributeBase o "values" X.env (eval o X.env)=eval o X.env:=by rfl) (hline:(apos.endLine==cpos.line)=true:=by rfl):
  PI X tg (.Call (.Attribute o "values" apos) [] [] cpos) (xi Itj to):=by
 intro pins s σ H R I h
 refine wpAny_Call_method0_late hbase hline (thn (ho pins s σ H _ I h) fun v s1 ⟨x,H1,I1,r1,d,kvs,ex,q1⟩=>?_)
 subst ex
 cases r1
 obtain ⟨ob,H2,I2,hd,q⟩:=vt I1 q1
 obtain ⟨xs,kt,lo,hn,_,m,hob⟩:=ja I2 hd
 refine ⟨"dict","dict.values",PySem.F.plainAttrs_dict,PySem.F.slot_dict_values,PySem.F.type_dict_values,m.type,(fun b e=>?_),Calls.callWith_builtin rfl (PySem.evalArgs_none (HT.call_ves lo m ?_))⟩
 ·cases e
  obtain ⟨o',es',e1,e2,_⟩:=m
  exact ⟨o',e1,e2.2.1⟩
 have kp0: ∀ b o,s1.heap.get? b=some o->(s1.heap.push {cls:=.type "dict_values",data:=.fields #[.ref d]}).get? b=some o:=fun b o e=>Heap.get?_push_of_some _ e
 refine HT.iter_ves ⟨_,Heap.get?_push_size _ rfl,rfl,rfl⟩ (m.keeps fun o e=>kp0 _ o e) ?_
 have hsz:(s1.heap.push {cls:=.type "dict_values",data:=.fields #[.ref d]}).objs.size=s1.heap.objs.size+1:=Heap.size_push ..
 refine ⟨_,[_],_,_,H2,rfl,I2.kept (t':=s1.toks) fun b o e=>Heap.get?_push_of_some _ (kp0 b o e),pq _ d ob,?_,fun b hb=>?_,q⟩
 ·rw [List.length_map,<- hn]
  exact ⟨_,Heap.get?_push_size _ rfl,rfl,rfl⟩
 ·have e:b=(s1.heap.push {cls:=.type "dict_values",data:=.fields #[.ref d]}).objs.size:=by simpa using hb
  have hb':s1.heap.objs.size<=b:=by rw [e,hsz];omega
  exact I2.fpOk hb' (I2.hok.fresh hb')
noncomputable def AlkT (H:Hp):Nat->V->V->Prop
 | 0,v,u=>(∃ z,v=.str z/\u=.str z)\/ ∃ i,v=.int i/\u=.int i
 | n+1,v,u=>((∃ z,v=.str z/\u=.str z)\/ ∃ i,v=.int i/\u=.int i)\/ ∃ a b xs ys,v=.ref a/\u=.ref b/\H a=some (.tup xs)/\H b=some (.tup ys)/\Paired (AlkT H n) xs ys
theorem AlkT.eqAt {X:Cx} {pins:List (Addr×Obj)} {σ:St} {H:Hp} {s:Shared} (I:Inv X pins σ H s): ∀ (n:Nat) {A:Around} {v u:V} {x y:Value},A.units+n<cLine->AlkT H n v u->RelV v x->RelV u y->SeqAt.EqAt A s x y true:=by
 have leaf: ∀ {A:Around} {v u:V} {x y:Value},((∃ z,v=.str z/\u=.str z)\/ ∃ i,v=.int i/\u=.int i)->RelV v x->RelV u y->SeqAt.EqAt A s x y true:=by
  rintro A v u x y (⟨z,rfl,rfl⟩ | ⟨i,rfl,rfl⟩) r1 r2
  ·obtain ⟨t1,rfl⟩:=(show ∃ t,x=Value.str z t from r1)
   obtain ⟨t2,rfl⟩:=(show ∃ t,y=Value.str z t from r2)
   simpa using SeqAt.EqAt.str_str (A:=A) (s:=s) z t1 z t2
  ·obtain ⟨t1,rfl⟩:=(show ∃ t,x=Value.int i t from r1)
   obtain ⟨t2,rfl⟩:=(show ∃ t,y=Value.int i t from r2)
   simpa using SeqAt.EqAt.int_int (A:=A) (s:=s) i t1 i t2
 intro n
 induction n with
 | zero=>intro A v u x y _ h r1 r2;exact leaf h r1 r2
 | succ n ih=>
  intro A v u x y hu h r1 r2
  rcases h with h | ⟨a,b,xs,ys,rfl,rfl,ha,hb,hp⟩
  ·exact leaf h r1 r2
  ·cases (show x=Value.ref a from r1)
   cases (show y=Value.ref b from r2)
   by_cases hab:a=b
   ·subst hab;exact SeqAt.EqAt.same _
   obtain ⟨its,r,p,_⟩:=I.seqS (c:=true) ha
   obtain ⟨its2,r2,p2,_⟩:=I.seqS (c:=true) hb
   have hu1:A.in1.units+n<cLine:=by show A.units+1+n<cLine;omega
   obtain ⟨hl,hj⟩:=eQ (R:=fun x y=>SeqAt.EqAt A.in1 s x y true) (fun v u x y g q1 q2=>ih hu1 g q1 q2) hp r r2
   have:=SeqAt.RcAt.tuples (e:=fun _=>true) p p2 (by omega:A.units<cLine) (fun j h1 h2=>by simpa using hj j (by simpa using h1) (by simpa using h2))
   rw [show ((List.range (min its.toArray.size its2.toArray.size)).all (fun _=>true)&&its.toArray.size==its2.toArray.size)=true by simp [hl]]at this
   exact SeqAt.EqAt.of_refs hab this
end L2
namespace HT
open PySem PyProof.Rows
noncomputable def ins {K:Type} [DecidableEq K] (u:List K):List K->List K
 | []=>u
 | k::r=>ins (if k∈u then u else u++[k]) r
theorem SetOf.keep {prog:Program} {w:World} {K:Type} [DecidableEq K] {knd:KeyKind prog w K} {h h':Heap} {a:Addr} {S:K->Bool} {n:Nat} (H:Heap.SetOf knd h a S n) (k: ∀ o,h.get? a=some o->h'.get? a=some o):Heap.SetOf knd h' a S n:=by
 obtain ⟨o,es,ep,t,h1,h2⟩:=H
 exact ⟨o,es,ep,t,k o h1,h2⟩
theorem SetOf.cong {prog:Program} {w:World} {K:Type} [DecidableEq K] {knd:KeyKind prog w K} {h:Heap} {a:Addr} {S S':K->Bool} {n n':Nat} (H:Heap.SetOf knd h a S n) (e: ∀ k,S k=S' k) (en:n=n'):Heap.SetOf knd h a S' n':=by
 have:S=S':=funext e
 subst this
 subst en
 exact H
theorem lm {prog:Program} {w:World} {A:Around} {R:Result->Shared->Prop} {I:Addr} {fp wr:List Addr} {G:Array GenState->Array GenState->Prop} {P:Nat->Value->Prop} {St:Nat->Shared->Prop} {K:Type} [DecidableEq K] {knd:KeyKind prog w K} {n:Nat}
  (W:WalksS prog w A.in1 I fp wr G n P St) (S:Addr) (hS:S∉fp) (val:List K) (hl:val.length=n) (hP: ∀ i v,P i v-> ∃ k,val[i]? =some k/\knd.is k v=true/\v.scannable=true) (hn:n+1<scanBound):
  ∀ (k i:Nat) (s:Shared) (u:List K),n-i=k->i<=n->St i s->Heap.SetOf knd s.heap S (fun k'=>decide (k'∈u)) u.length->u.length<=i->
   (∀ s',Moved (S::wr) G s s'->Heap.SetOf knd s'.heap S (fun k'=>decide (k'∈ins u (val.drop i))) (ins u (val.drop i)).length->R (.ok (.ret .none)) s')->
   codeAny (model prog w) A (.builtin "set.update.loop" {pos:=[.ref S,.ref I]}) R s:=by
 intro k
 induction k with
 | zero=>
  intro i s u hk hi hst hset hu hR
  have e:i=n:=by omega
  subst e
  refine codeAny_builtin F.entry_set_update_loop ?_
  rw [Around.under_plainId F.plain_set_update_loop]
  refine wpAny_bind (W.done s _ _ hst fun s' mv=>?_)
  have hd:val.drop i=[]:=List.drop_eq_nil_of_le (by omega)
  refine wpAny_pure (hR s' (mv.mono fun b hb=>List.mem_cons_of_mem _ hb) ?_)
  rw [hd]
  exact SetOf.keep hset fun o ho=>mv.heap S o (fun hb=>hS (W.sub S hb)) ho
 | succ k ih=>
  intro i s u hk hi hst hset hu hR
  refine codeAny_builtin F.entry_set_update_loop ?_
  rw [Around.under_plainId F.plain_set_update_loop]
  refine wpAny_bind (W.item i s _ _ (by omega) hst fun v s' hv st' mv=>?_)
  obtain ⟨x,hx,hkx,hsc⟩:=hP i v hv
  have hset':=SetOf.keep hset fun o ho=>mv.heap S o (fun hb=>hS (W.sub S hb)) ho
  have hd:val.drop i=x::val.drop (i+1):=by
   obtain ⟨hlt,hx'⟩:=List.getElem?_eq_some_iff.mp hx
   rw [List.drop_eq_getElem_cons hlt,hx']
  refine wpAny_bind (wpAny_holding (wpAny_holding (wpAny_bind (knd.pyHash hkx (wpAny_setAddHashed_of hkx hsc hset' (by omega) fun h' sb so=>?_)))))
  refine wpAny_pure ⟨plainId_quiet F.plain_set_update_loop _,?_⟩
  refine ih (i+1) _ (if x∈u then u else u++[x]) (by omega) (by omega) ?_ ?_ ?_ ?_
  ·exact W.frame (i+1) s' h' (s'.toks+1) st' (Nat.le_succ _) fun b hb o ho=>(sb.2 b (fun z=>hS (z▸hb))).trans ho
  ·refine SetOf.cong so (fun k'=>?_) ?_
   ·by_cases c:x∈u
    ·rw [if_pos c]
     by_cases c2:k'=x
     ·subst c2;simp [c]
     ·simp [c2]
    ·rw [if_neg c]
     simp
   ·by_cases c:x∈u
    ·rw [if_pos c,if_pos (decide_eq_true c)]
    ·rw [if_neg c,if_neg (by rw [decide_eq_false c];exact Bool.false_ne_true),List.length_append];rfl
  ·split
   ·omega
   ·rw [List.length_append];show u.length+1<=_;omega
  ·intro s2 mv2 hs2
   refine hR s2 ?_ (by rw [hd];exact hs2)
   refine Moved.trans W.gtrans (Moved.then_heap (mv.mono fun b hb=>List.mem_cons_of_mem _ hb) (Nat.le_succ _) fun b o hb ho=>(sb.2 b (fun z=>hb (z▸List.mem_cons_self))).trans ho) mv2
theorem call_setS {prog:Program} {w:World} {A:Around} {E:Value->Shared->Prop} {s:Shared} {l:Addr} {items:Array Value} {K:Type} [DecidableEq K] {knd:KeyKind prog w K} {val:List K} {Q:Value->Shared->Prop} (hh:A.handled=none)
  (hL:s.heap.IsList l items) (hl:val.length=items.size) (hP: ∀ (i:Nat) (v:Value),items[i]? =some v-> ∃ k,val[i]? =some k/\knd.is k v=true/\v.scannable=true) (hn:items.size+1<scanBound)
  (q: ∀ (h':Heap) (tk:Nat),Heap.SetOf knd h' s.heap.objs.size (fun k'=>decide (k'∈ins [] val)) (ins [] val).length->(∀ b o,b<s.heap.objs.size->s.heap.get? b=some o->h'.get? b=some o)->
   Q (.ref s.heap.objs.size) {s with heap:=h',toks:=tk}):
  wpAny (model prog w) A (call (.type "set") [.ref l]) Q E s:=by
 refine wpAny_call (codeAny_of_tree ?_)
 refine wpAny_pure ⟨Code.quiet_builtin _ (by decide +kernel),codeAny_builtin F.entry_type_call ?_⟩
 rw [Around.under_plain (weight_type_call_type _ _ _) rfl]
 obtain ⟨c,tl,em⟩:=F.called_set.mro
 unfold Builtin.«type.__call__»
 simp only [F.called_set.notType,Bool.false_eq_true,if_false,F.called_set.canCreate,F.typeCall_set_1,F.called_set.made,pure_bind,em,List.isEmpty_cons]
 refine wpAny_bind (wpAny_holding (wpAny_call (code_set_new_1 _ fun led=>?_)))
 generalize ho0:({cls:=Value.type "set",data:=Data.set #[] 0 (SetTable.fresh 0 0 led)}:Obj)=o0
 have hset0:Heap.SetOf knd (s.heap.push o0) s.heap.objs.size (fun k'=>decide (k'∈([]:List K))) 0:=by
  subst ho0
  exact SetOf.cong ((setObjOf_fresh (knd:=knd) led).setOf (Heap.get?_push_size _ rfl) (by decide)) (fun k=>by simp) rfl
 have hty:Shared.TypeIs {s with heap:=s.heap.push o0} (.ref s.heap.objs.size) "set":=hset0.typeIs
 refine wpAny_bind (wpAny_isInstance hty F.called_set.sub ?_)
 simp only [Bool.not_true,Bool.false_eq_true,if_false]
 refine wpAny_bind (wpAny_holding (wpAny_callSpecial?_slot hty F.called_set.init (wpAny_call (codeAny_call_builtin (by decide +kernel) F.entry_set_init (check_set_init_1 hty ?_)))))
 unfold Builtin.«set.__init__»
 simp only [noKeywords,List.isEmpty_nil,if_true,pure_bind]
 refine wpAny_bind (show wpAny _ _ (typeNameOfCut 200 (.ref s.heap.objs.size)) _ _ _ from wpAny_bind (wpAny_bind (wpAny_typeOf hty (wpAny_pure (wpAny_pure ?_)))))
 refine wpAny_bind (wpAny_of_eq (show checkCount _ 0 1 1=pure ()from rfl) ?_)
 refine wpAny_bind (wpAny_pure ?_)
 have hload:(s.heap.push o0).get? s.heap.objs.size=some o0:=by subst ho0;exact Heap.get?_push_size _ rfl
 refine wpAny_bind (show wpAny _ _ (setUsed s.heap.objs.size) _ _ _ from wpAny_bind (wpAny_bind (wpAny_load' hload ?_)))
 subst ho0
 refine wpAny_pure (wpAny_pure ?_)
 refine wpAny_bind (?_:wpAny _ _ (Builtin.Frozenset.updateFrom "set.__init__" s.heap.objs.size (.ref l)) _ _ _)
 have hL':=hL.push {cls:=Value.type "set",data:=Data.set #[] 0 (SetTable.fresh 0 0 led)}
 have htyl:Shared.TypeIs {s with heap:=s.heap.push {cls:=Value.type "set",data:=Data.set #[] 0 (SetTable.fresh 0 0 led)}} (.ref l) "list":=Heap.IsList.typeIs hL'
 unfold Builtin.Frozenset.updateFrom
 refine wpAny_bind (show wpAny _ _ (Builtin.Frozenset.isAnySet (.ref l)) _ _ _ from wpAny_bind (wpAny_isInstance htyl F.sub_list_set (wpAny_isInstance htyl F.sub_list_frozenset ?_)))
 refine wpAny_bind (wpAny_typeOf htyl ?_)
 refine wpAny_bind (wpAny_pyIter_list hL' ?_)
 refine wpAny_bind (wpAny_runValue ?_)
 have hsz:(s.heap.push {cls:=Value.type "set",data:=Data.set #[] 0 (SetTable.fresh 0 0 led)}).objs.size=s.heap.objs.size+1:=Heap.size_push _ _
 have hlt:l<s.heap.objs.size:=by
  obtain ⟨o,ho,_⟩:=hL
  exact Heap.lt_size ho
 clear hload hty htyl
 dsimp only
 generalize hh1:s.heap.push {cls:=Value.type "set",data:=Data.set #[] 0 (SetTable.fresh 0 0 led)}=h1 at hset0 hL' hsz ⊢
 have hold: ∀ b o,s.heap.get? b=some o->h1.get? b=some o:=fun b o e=>by rw [<- hh1];exact Heap.get?_push_of_some _ e
 have hno:s.heap.objs.size∉[h1.objs.size,l]:=fun hm=>by
  rw [hsz]at hm
  rcases List.mem_cons.mp hm with z | z
  ·exact absurd z (Nat.ne_of_lt (Nat.lt_succ_self _))
  ·rcases List.mem_cons.mp z with z | z
   ·exact absurd z (Nat.ne_of_gt hlt)
   ·cases z
 refine lm (knd:=knd) (Walks.toS (Walks.list (show A.in1.in1.in1.handled=none from hh) h1.objs.size l (by rw [hsz];exact Nat.ne_of_lt (Nat.lt_succ_of_lt hlt)) items)) s.heap.objs.size hno val hl hP hn items.size 0 _ [] rfl (Nat.zero_le _)
  ⟨⟨_,Heap.get?_push_size _ rfl,rfl,rfl⟩,hL'.push _⟩ (SetOf.keep hset0 fun o ho=>Heap.get?_push_of_some _ ho) (Nat.zero_le _) fun s' mv hs=>?_
 obtain ⟨h',g',d',tk',os'⟩:=s'
 have e1:g'=s.gens:=mv.gens
 have e2:d'=s.drawn:=mv.drawn
 have e3:os'=s.os:=mv.os
 subst e1 e2 e3
 refine wpAny_pure (wpAny_pure (wpAny_pure (q h' tk' hs fun b o hb ho=>mv.heap b o (fun hm=>?_) (Heap.get?_push_of_some _ (hold b o ho)))))
 rw [hsz]at hm
 rcases List.mem_cons.mp hm with z | z
 ·exact absurd z (Nat.ne_of_lt hb)
 ·rcases List.mem_cons.mp z with z | z
  ·exact absurd z (Nat.ne_of_lt (Nat.lt_succ_of_lt hb))
  ·cases z
theorem call_setT {prog:Program} {w:World} {A:Around} {E:Value->Shared->Prop} {s:Shared} {l:Addr} {items:Array Value} {K:Type} [DecidableEq K] {knd:KeyKind prog w K} {val:List K} {Q:Value->Shared->Prop} (hh:A.handled=none)
  (hL:s.heap.IsTuple l items) (hl:val.length=items.size) (hP: ∀ (i:Nat) (v:Value),items[i]? =some v-> ∃ k,val[i]? =some k/\knd.is k v=true/\v.scannable=true) (hn:items.size+1<scanBound)
  (q: ∀ (h':Heap) (tk:Nat),Heap.SetOf knd h' s.heap.objs.size (fun k'=>decide (k'∈ins [] val)) (ins [] val).length->(∀ b o,b<s.heap.objs.size->s.heap.get? b=some o->h'.get? b=some o)->
   Q (.ref s.heap.objs.size) {s with heap:=h',toks:=tk}):
  wpAny (model prog w) A (call (.type "set") [.ref l]) Q E s:=by
 refine wpAny_call (codeAny_of_tree ?_)
 refine wpAny_pure ⟨Code.quiet_builtin _ (by decide +kernel),codeAny_builtin F.entry_type_call ?_⟩
 rw [Around.under_plain (weight_type_call_type _ _ _) rfl]
 obtain ⟨c,tl,em⟩:=F.called_set.mro
 unfold Builtin.«type.__call__»
 simp only [F.called_set.notType,Bool.false_eq_true,if_false,F.called_set.canCreate,F.typeCall_set_1,F.called_set.made,pure_bind,em,List.isEmpty_cons]
 refine wpAny_bind (wpAny_holding (wpAny_call (code_set_new_1 _ fun led=>?_)))
 generalize ho0:({cls:=Value.type "set",data:=Data.set #[] 0 (SetTable.fresh 0 0 led)}:Obj)=o0
 have hset0:Heap.SetOf knd (s.heap.push o0) s.heap.objs.size (fun k'=>decide (k'∈([]:List K))) 0:=by
  subst ho0
  exact SetOf.cong ((setObjOf_fresh (knd:=knd) led).setOf (Heap.get?_push_size _ rfl) (by decide)) (fun k=>by simp) rfl
 have hty:Shared.TypeIs {s with heap:=s.heap.push o0} (.ref s.heap.objs.size) "set":=hset0.typeIs
 refine wpAny_bind (wpAny_isInstance hty F.called_set.sub ?_)
 simp only [Bool.not_true,Bool.false_eq_true,if_false]
 refine wpAny_bind (wpAny_holding (wpAny_callSpecial?_slot hty F.called_set.init (wpAny_call (codeAny_call_builtin (by decide +kernel) F.entry_set_init (check_set_init_1 hty ?_)))))
 unfold Builtin.«set.__init__»
 simp only [noKeywords,List.isEmpty_nil,if_true,pure_bind]
 refine wpAny_bind (show wpAny _ _ (typeNameOfCut 200 (.ref s.heap.objs.size)) _ _ _ from wpAny_bind (wpAny_bind (wpAny_typeOf hty (wpAny_pure (wpAny_pure ?_)))))
 refine wpAny_bind (wpAny_of_eq (show checkCount _ 0 1 1=pure ()from rfl) ?_)
 refine wpAny_bind (wpAny_pure ?_)
 have hload:(s.heap.push o0).get? s.heap.objs.size=some o0:=by subst ho0;exact Heap.get?_push_size _ rfl
 refine wpAny_bind (show wpAny _ _ (setUsed s.heap.objs.size) _ _ _ from wpAny_bind (wpAny_bind (wpAny_load' hload ?_)))
 subst ho0
 refine wpAny_pure (wpAny_pure ?_)
 refine wpAny_bind (?_:wpAny _ _ (Builtin.Frozenset.updateFrom "set.__init__" s.heap.objs.size (.ref l)) _ _ _)
 have hL':=hL.push {cls:=Value.type "set",data:=Data.set #[] 0 (SetTable.fresh 0 0 led)}
 have htyl:Shared.TypeIs {s with heap:=s.heap.push {cls:=Value.type "set",data:=Data.set #[] 0 (SetTable.fresh 0 0 led)}} (.ref l) "tuple":=Heap.IsTuple.typeIs hL'
 unfold Builtin.Frozenset.updateFrom
 refine wpAny_bind (show wpAny _ _ (Builtin.Frozenset.isAnySet (.ref l)) _ _ _ from wpAny_bind (wpAny_isInstance htyl F.sub_tuple_set (wpAny_isInstance htyl F.sub_tuple_frozenset ?_)))
 refine wpAny_bind (wpAny_typeOf htyl ?_)
 refine wpAny_bind (wpAny_pyIter_tuple hL' ?_)
 refine wpAny_bind (wpAny_runValue ?_)
 have hsz:(s.heap.push {cls:=Value.type "set",data:=Data.set #[] 0 (SetTable.fresh 0 0 led)}).objs.size=s.heap.objs.size+1:=Heap.size_push _ _
 have hlt:l<s.heap.objs.size:=by
  obtain ⟨o,ho,_⟩:=hL
  exact Heap.lt_size ho
 clear hload hty htyl
 dsimp only
 generalize hh1:s.heap.push {cls:=Value.type "set",data:=Data.set #[] 0 (SetTable.fresh 0 0 led)}=h1 at hset0 hL' hsz ⊢
 have hold: ∀ b o,s.heap.get? b=some o->h1.get? b=some o:=fun b o e=>by rw [<- hh1];exact Heap.get?_push_of_some _ e
 have hno:s.heap.objs.size∉[h1.objs.size,l]:=fun hm=>by
  rw [hsz]at hm
  rcases List.mem_cons.mp hm with z | z
  ·exact absurd z (Nat.ne_of_lt (Nat.lt_succ_self _))
  ·rcases List.mem_cons.mp z with z | z
   ·exact absurd z (Nat.ne_of_gt hlt)
   ·cases z
 refine lm (knd:=knd) (Walks.toS (Walks.tuple (show A.in1.in1.in1.handled=none from hh) h1.objs.size l (by rw [hsz];exact Nat.ne_of_lt (Nat.lt_succ_of_lt hlt)) items)) s.heap.objs.size hno val hl hP hn items.size 0 _ [] rfl (Nat.zero_le _)
  ⟨⟨_,Heap.get?_push_size _ rfl,rfl,rfl⟩,hL'.push _⟩ (SetOf.keep hset0 fun o ho=>Heap.get?_push_of_some _ ho) (Nat.zero_le _) fun s' mv hs=>?_
 obtain ⟨h',g',d',tk',os'⟩:=s'
 have e1:g'=s.gens:=mv.gens
 have e2:d'=s.drawn:=mv.drawn
 have e3:os'=s.os:=mv.os
 subst e1 e2 e3
 refine wpAny_pure (wpAny_pure (wpAny_pure (q h' tk' hs fun b o hb ho=>mv.heap b o (fun hm=>?_) (Heap.get?_push_of_some _ (hold b o ho)))))
 rw [hsz]at hm
 rcases List.mem_cons.mp hm with z | z
 ·exact absurd z (Nat.ne_of_lt hb)
 ·rcases List.mem_cons.mp z with z | z
  ·exact absurd z (Nat.ne_of_lt (Nat.lt_succ_of_lt hb))
  ·cases z
end HT
namespace L2
open PySem
section
variable {X:Cx}
noncomputable def tx (K:PySem.W.Frag) (te:TE):TE:=fun σ H Q=>te σ H fun x H1=> ∃ (a:Addr) (xs:List Str),x=.ref a/\(SqL K H1 a (xs.map V.str)\/SqT K H1 a (xs.map V.str))/\xs.length<=1000/\Q (.int ((HT.ins [] xs).length:Int)) H1
theorem kQ {xs:List Str} {its:List Value} (r:Vals (xs.map V.str) its): ∀ (i:Nat) (v:Value),its.toArray[i]? =some v-> ∃ k,xs[i]? =some k/\(∃ t,v=.str k t):=by
 induction xs generalizing its with
 | nil=>cases r;intro i v h;simp at h
 | cons x l ih=>
  cases r with
  | cons r1 r2=>
   intro i v h
   rw [List.getElem?_toArray]at h
   cases i with
   | zero=>
    cases h
    obtain ⟨t,e⟩:=r1
    exact ⟨x,rfl,t,e⟩
   | succ i=>exact ih r2 i v (by rw [List.getElem?_toArray];exact h)
theorem pS {e:Expr} {p1 p2 p3 p4:Pos} {te:TE} (hcalm:X.calm=true) (gl:Gl X "len") (ml:X.mg "len"=none) (gs:Gl X "set") (ms:X.mg "set"=none) (he:PE X e te)
  (h1:starEach [.Call (.Name "set" p2) [e] [] p3] X.env=[(false,eval (.Call (.Name "set" p2) [e] [] p3) X.env)]:=by rfl) (h2:starEach [e] X.env=[(false,eval e X.env)]:=by rfl):
  PE X (.Call (.Name "len" p1) [.Call (.Name "set" p2) [e] [] p3] [] p4) (tx X.K te):=by
 intro pins s σ H Q I h
 refine wpAny_Call_Name_kw (eV I gl ml PySem.boot_len ?_)
 refine PyProof.Rows.callWith_builtin1 ?_ h1 rfl
 rw [h1]
 refine Calls.spliced_cons (wpAny_Call_Name_kw (eV I gs ms (show bootBuiltins "set"=some (.type "set") by decide +kernel) (PyProof.Rows.callWith_type1 ?_ h2 rfl)))
 rw [h2]
 refine Calls.spliced_cons (thn (he pins s σ H _ I h) fun u s1 ⟨x,H1,I1,r1,q1⟩=>Calls.spliced_nil ?_)
 obtain ⟨a,xs,rfl,hq,hx,q⟩:=q1
 cases r1
 have hh:X.A.handled=none:=I1.ok.hd hcalm
 have fin: ∀ (h':Heap) (tk:Nat),Heap.SetOf (strKind X.prog X.w) h' s1.heap.objs.size (fun k'=>decide (k'∈HT.ins [] xs)) (HT.ins [] xs).length->(∀ b o,b<s1.heap.objs.size->s1.heap.get? b=some o->h'.get? b=some o)->
   wpAny (model X.prog X.w) X.A (call (Value.builtin "len") [.ref s1.heap.objs.size]) (EP X pins σ Q) X.xe {s1 with heap:=h',toks:=tk}:=fun h' tk hs k=>by
  obtain ⟨o,es,ep,t,g1,g2,g3,_,_,g4,g5,g6⟩:=hs
  refine call_len_set g1 g2 g3 g5 (Int.lt_trans (Int.ofNat_lt.mpr g4) (by decide)) ?_
  rw [g6]
  exact ⟨.int _,H1,I1.kept fun b o e=>k b o (Heap.lt_size e) e,⟨_,rfl⟩,q⟩
 have hmem: ∀ {its:List Value},Vals (xs.map V.str) its-> ∀ (i:Nat) (v:Value),its.toArray[i]? =some v-> ∃ k,xs[i]? =some k/\(strKind X.prog X.w).is k v=true/\v.scannable=true:=fun r' i v hv=>by
  obtain ⟨k,e1,t,rfl⟩:=kQ r' i v hv
  exact ⟨k,e1,strKind_is _ _ _ _,rfl⟩
 have hsz: ∀ {its:List Value},Vals (xs.map V.str) its->xs.length=its.toArray.size:=fun r'=>by
  rw [List.size_toArray,<- r'.length,List.length_map]
 have hb: ∀ {its:List Value},Vals (xs.map V.str) its->its.toArray.size+1<scanBound:=fun r'=>by
  rw [<- hsz r']
  exact Nat.lt_of_le_of_lt (Nat.succ_le_succ hx) (by decide)
 rcases hq with hq | hq
 ·obtain ⟨its,r',pl,hz⟩:=I1.list hq
  exact HT.call_setS (knd:=strKind X.prog X.w) (val:=xs) hh pl.isList (hsz r') (hmem r') (hb r') fun h' tk hs k=>Calls.spliced_nil (fin h' tk hs k)
 ·obtain ⟨its,r',pl,hz⟩:=I1.tuple hq
  obtain ⟨o,ho,hc,n,hd⟩:=pl
  exact HT.call_setT (knd:=strKind X.prog X.w) (val:=xs) hh ⟨o,ho,hc,n,hd⟩ (hsz r') (hmem r') (hb r') fun h' tk hs k=>Calls.spliced_nil (fin h' tk hs k)
theorem jA {K:Type} [DecidableEq K]: ∀ {l u:List K},(u++l).Nodup->HT.ins u l=u++l
 | [],u,_=>(List.append_nil u).symm
 | x::r,u,h=>by
  have hx:x∉u:=fun m=>(List.nodup_append.mp h).2.2 x m x List.mem_cons_self rfl
  show HT.ins (if x∈u then u else u++[x]) r=_
  rw [if_neg hx,jA (by rw [List.append_assoc];exact h),List.append_assoc]
  rfl
end
end L2
namespace L2
open PySem PyProof.Rows
structure pj (sc0:Scope) (N0:List Str) (scope:Scope) (x x2 x3:Str) (ys:List Str) (fr:List Nat):Prop where
 kind:scope.kind=.function
 nocell: ∀ y∈scope.names,y.2≠ .cell
 loc: ∀ y∈scope.names,y.2=.local->scope.names.lookup y.1=some .local
 xl:(ba sc0 scope).lookup x=some .local
 xl2:(ba sc0 scope).lookup x2=some .local
 xl3:(ba sc0 scope).lookup x3=some .local
 free: ∀ y∈scope.names,y.2=.free->sc0.names.lookup y.1=some .cell
 nd:(x::x2::x3::ys).Nodup
 len:ys.length=fr.length
 sl: ∀ q∈ys.zip fr,N0[q.2]? =some q.1/\sc0.names.lookup q.1=some .cell/\(ba sc0 scope).lookup q.1=some .cell
noncomputable def cz (X:Cx) (x x2 x3:Str) (ys:List Str) (scope:Scope) (C:Addr) (s:Shared) (H:Hp) (ex:List Addr):Cx:=
 {X with N:=x::x2::x3::ys,s₀:=s,H₀:=H,env:=compEnvC scope (dw X.env.cells scope.names) C X.env,outer:=X.stack,stack:=X.stack,ex:=ex,fn:=fun _=>false,pn:=[],xe:=fun _ _=>False}
noncomputable def ot (fr:List Nat) (te:TE) (σ:St) (J:It) (H1:Hp) (Q:VK):Prop:=
 ∀ p,H1 p=none-> ∃ W:Nat->Nat->List V->Hp->Prop,(∃ m,W 0 m [] (upd H1 p (.lst [])))/\ ∀ i m ys H,W i m ys H->H p=some (.lst ys)/\
  ((J.stop i H/\Q (.ref p) H)\/(J.go i H/\ys.length<sizeLine/\ ∀ x H',J.yld i H x H'-> ∃ T v1 v2 v3,x=.ref T/\H' T=some (.tup [v1,v2,v3])/\te (some v1::some v2::some v3::cn fr σ) H' fun v H2=>
   H2 p=some (.lst ys)/\ ∃ m',m'<m/\W (i+1) m' (ys++[v]) (upd H2 p (.lst (ys++[v])))))
noncomputable def qL (wi:TI) (fr:List Nat) (te:TE):TE:=fun σ H Q=>wi σ H fun J H1=>ot fr te σ J H1 Q
section
variable {X:Cx} {x x2 x3:Str} {px px2 px3 tpos pos fpos:Pos} {kk:Nat} {iter elt:Expr} {scope sc0:Scope} {N0 ys:List Str} {fr:List Nat} {wi:TI} {te:TE} {pins:List (Addr×Obj)} {σ:St} {H:Hp} {s:Shared}
theorem oe {use:Option (Value->Sem Unit)} {Qv:Value->Shared->Prop} {Q:VK} (hcalm:X.calm=true) (hi:PI X (.Tuple [.Name x px,.Name x2 px2,.Name x3 px3] kk tpos) iter wi) (hsc:X.env.scope=sc0) (hN:X.N=N0) (ok:pj sc0 N0 scope x x2 x3 ys fr)
  (hE: ∀ C s H ex,PE (cz X x x2 x3 ys scope C s H ex) elt te) (I:Inv X pins σ H s) (h:qL wi fr te σ H Q) (hs: ∀ v,foldedSetIterable iter X.env v=pure v)
  (fin: ∀ (p C:Addr) (H':Hp) (s':Shared) (m:Str->Option Value),Inv X pins σ H' s'->s'.heap.Ns C m->H' C=none->C≠X.env.locals->X.s₀.heap.objs.size<=C->(∀ y c,X.env.cells.lookup y=some c->c≠C)->(∀ q∈X.pn++pins,q.1≠C)->Q (.ref p) H'->
   compPost (model X.prog X.w) X.A X.xe use Qv (.ref p) C (.ok .next) s'):
  wpAny (model X.prog X.w) X.A (comprehension (.ListComp elt [⟨.Tuple [.Name x px,.Name x2 px2,.Name x3 px3] kk tpos,iter,[],0⟩] scope pos) scope X.env fpos (newList []) false (eval iter X.env) use) Qv X.xe s:=by
 subst hsc hN
 have hkof: ∀ y,X.env.kindOf y=X.env.scope.names.lookup y:=fun y=>rfl
 have hfree: ∀ y∈scope.names,y.2=.free-> ∃ c,X.env.cells.lookup y.1=some c:=fun y hy e=>I.ok.has y.1 (.inl (ok.free y hy e))
 refine wpAny_comprehension_free (gs:=[]) rfl hs (dI hfree) ok.kind ok.loc (thn (hi pins s σ H _ I h) fun v s1 h1=>thn h1 fun itv s2 h2=>?_)
 obtain ⟨it,fp,tn,J,H2,e,I2,T,st2,f2,hp⟩:=h2
 subst e
 refine wpAny_newObj_type (wpAny_newFunctionEnv ok.nocell (by intro y hy;simp at hy) (fun h₁ hns₁ hsb₁=>?_) ok.kind)
 dsimp only at hns₁ hsb₁ ⊢
 have I3:Inv X pins σ (upd H2 s2.heap.objs.size (.lst [])) {s2 with heap:=s2.heap.push {cls:=.type "list",data:=.seq ([]:List Value).toArray}}:=
  I2.lnew (its:=[]) (ys:=[]) (t':=s2.toks) .nil (Nat.zero_le _)
 have hf2: ∀ b∈fp,b<s2.heap.objs.size:=fun b hb=>by
  obtain ⟨o,e,_⟩:=T.obj _ _ st2 b hb
  exact Heap.lt_size e
 have hps:s2.heap.objs.size< (s2.heap.push {cls:=.type "list",data:=.seq ([]:List Value).toArray}).objs.size:=by rw [Heap.size_push];exact Nat.lt_succ_self _
 have W0:=hp s2.heap.objs.size I2.fresh
 have st3:tn 0 (s2.heap.push {cls:=.type "list",data:=.seq ([]:List Value).toArray}):=T.keep _ _ _ st2 fun b hb o e=>Heap.get?_push_of_some _ e
 generalize hpp:s2.heap.objs.size=p at I3 W0 hf2 hps ⊢
 generalize hh3:(s2.heap.push {cls:=.type "list",data:=.seq ([]:List Value).toArray})=h3 at I3 hns₁ hsb₁ hps st3 ⊢
 generalize hH3:upd H2 p (.lst [])=H3 at I3 W0
 have hold: ∀ b o,h3.get? b=some o->h₁.get? b=some o:=fun b o e=>hsb₁.extBut b o (Nat.ne_of_lt (Heap.lt_size e)) (Heap.get?_push_of_some _ e)
 have fH3: ∀ b∈fp,H3 b=none:=fun b hb=>by
  rw [<- hH3,am (Nat.ne_of_lt (hf2 b hb))]
  exact (f2 b hb).1
 have hclos: ∀ y c,(dw X.env.cells scope.names).lookup y=some c->X.env.cells.lookup y=some c:=fun y c e=>c9 e
 have hcell3: ∀ y c,X.env.cells.lookup y=some c->c<h3.objs.size:=fun y c e=>by
  obtain ⟨v,o,ho,_⟩:=I3.cell y c e
  exact Heap.lt_size ho
 have hlt3:X.env.locals<h3.objs.size:=I3.lt
 have Yok:(cz X x x2 x3 ys scope h3.objs.size {s2 with heap:=h3} H3 fp).Ok:={
  mod:=I.ok.mod
  kind:=ok.kind
  glob:=I.ok.glob
  blt:=I.ok.blt
  above:=Nat.le_refl _
  inj:=fun y z c e1 e2=>I.ok.inj y z c (hclos _ _ e1) (hclos _ _ e2)
  has:=fun y hk=>by
   have hfr:(y,NameKind.free)∈scope.names:=by
    have hm: ∃ k,(ba X.env.scope scope).lookup y=some k/\(k=.cell\/k=.free):=by
     rcases hk with hk | hk
     ·exact ⟨_,hk,.inl rfl⟩
     ·exact ⟨_,hk,.inr rfl⟩
    obtain ⟨k,hk,hkk⟩:=hm
    have hmem:=mem_of_lookup hk
    unfold ba at hmem
    obtain ⟨⟨n,k0⟩,hn,en⟩:=List.mem_map.mp hmem
    dsimp only at en
    split at en
    ·rename_i hc
     simp only [Bool.and_eq_true]at hc
     have hk0:k0=.free:=by simpa using hc.1.1
     cases en
     rw [<- hk0]
     exact hn
    ·cases en
     rcases hkk with e | e
     ·exact absurd e (ok.nocell _ hn)
     ·rw [<- e]
      exact hn
   obtain ⟨c,hc⟩:=hfree _ hfr rfl
   exact ⟨c,cQ hc hfr⟩
  cab:=fun y c hf _=>by cases hf
  hd:=I.ok.hd
  frames:=I.ok.frames
  stk:=.inl rfl
  exf:=fun b hb=>⟨fun e=>absurd (hf2 b hb) (by rw [e];exact Nat.not_lt.mpr (Nat.le_of_lt hps)),fun y c e=>(f2 b hb).2.2.2.2.1 y c (hclos _ _ e)⟩
  bs:=fun b o e=>⟨(I3.bs b o e).1,(I3.bs b o e).2⟩
  bsz:=Nat.le_trans I.ok.bsz I3.sz
  noex:=fun b o e hb=>by
   rcases (f2 b hb).2.2.2.1 with q | q
   ·exact I.ok.noex b o e q
   ·have h1:b<X.base.objs.size:=Heap.lt_size e
    exact absurd h1 (Nat.not_lt.mpr (Nat.le_trans I.ok.bsz q))
  exfs:=fun b hb hm=>by
   rcases List.mem_cons.mp (I3.stkSub b hm)with q | q
   ·exact (f2 b hb).2.1 q
   ·exact (f2 b hb).2.2.1 q
  funs:=I3.stack
  frf:=I3.stkFree}
 have IY:Inv (cz X x x2 x3 ys scope h3.objs.size {s2 with heap:=h3} H3 fp) [] (none::none::none::cn fr σ) H3 {s2 with heap:=h₁,toks:=s2.toks+ ([]:List (Str×Value)).length}:={
  ok:=Yok
  os:=rfl
  bare:=I2.bare
  base:=Un.kept hold
  loc:=by
   refine ⟨_,hns₁,fun i y v hy hv hvis=>?_⟩
   match i,hy,hv with
   | 0,_,hv=>cases hv
   | 1,_,hv=>cases hv
   | 2,_,hv=>cases hv
   | j+3,hy,hv=>
    have hy':ys[j]? =some y:=hy
    have hv':(cn fr σ)[j]? =some (some v):=hv
    unfold cn at hv'
    rw [List.getElem?_map]at hv'
    obtain ⟨i0,hi0,hv0⟩:=Option.map_eq_some_iff.mp hv'
    have hz:(y,i0)∈ys.zip fr:=by
     refine List.mem_iff_getElem?.mpr ⟨j,?_⟩
     rw [List.getElem?_zip_eq_some]
     exact ⟨hy',hi0⟩
    obtain ⟨hn,hk,hk2⟩:=ok.sl _ hz
    have hσ:σ[i0]? =some (some v):=by
     cases e:σ[i0]? with
     | none=>rw [e]at hv0;cases hv0
     | some o=>
      rw [e]at hv0
      rw [show o=some v from hv0]
    obtain ⟨m,hm,hl⟩:=I3.loc
    obtain ⟨u,ru,lk⟩:=hl i0 y v hn hσ (.inr (.inl hk))
    refine ⟨u,ru,.inr ⟨.inl hk2,?_⟩⟩
    rcases lk with ⟨a,_⟩ | ⟨_,c,hc,hcell⟩
    ·have a':X.env.scope.names.lookup y=some .local:=a
     have hk':X.env.scope.names.lookup y=some .cell:=hk
     rw [hk']at a'
     cases a'
    ·have hfr:(y,NameKind.free)∈scope.names:=by
      have hmem:=mem_of_lookup hk2
      unfold ba at hmem
      obtain ⟨⟨n,k0⟩,hn0,en⟩:=List.mem_map.mp hmem
      dsimp only at en
      split at en
      ·rename_i hc0
       simp only [Bool.and_eq_true]at hc0
       have hk0:k0=.free:=by simpa using hc0.1.1
       cases en
       rw [<- hk0]
       exact hn0
      ·cases en
       exact absurd rfl (ok.nocell _ hn0)
     exact ⟨c,cQ hc hfr,hcell.keeps hold⟩
  cell:=fun y c e=>by
   obtain ⟨v,hv⟩:=I3.cell y c (hclos _ _ e)
   exact ⟨v,hv.keeps hold⟩
  free:=I3.fresh
  freeC:=fun y c e=>I3.freeC y c (hclos _ _ e)
  pin:=fun q hq=>by cases hq
  hok:=I3.hok.kept hold
  len:=by
   show (none::none::none::cn fr σ).length=(x::x2::x3::ys).length
   rw [List.length_cons,List.length_cons,List.length_cons,List.length_cons,List.length_cons,List.length_cons,ok.len]
   unfold cn
   rw [List.length_map]}
 have hxl:(cz X x x2 x3 ys scope h3.objs.size {s2 with heap:=h3} H3 fp).env.scope.names.lookup x=some .local:=ok.xl
 have hxl2:(cz X x x2 x3 ys scope h3.objs.size {s2 with heap:=h3} H3 fp).env.scope.names.lookup x2=some .local:=ok.xl2
 have hxl3:(cz X x x2 x3 ys scope h3.objs.size {s2 with heap:=h3} H3 fp).env.scope.names.lookup x3=some .local:=ok.xl3
 have pgx:PG (cz X x x2 x3 ys scope h3.objs.size {s2 with heap:=h3} H3 fp) (.Tuple [.Name x px,.Name x2 px2,.Name x3 px3] kk tpos) (wv X.K 3 (oW (dH 0) (oW (dH 1) (oW (dH 2) ww)))):=
  gK hcalm (bc (aO (i:=0) ok.nd rfl (.inl hxl) (.inr hxl)) (bc (aO (i:=1) ok.nd rfl (.inl hxl2) (.inr hxl2)) (bc (aO (i:=2) ok.nd rfl (.inl hxl3) (.inr hxl3)) fh)))
 have pel:=hE h3.objs.size {s2 with heap:=h3} H3 fp
 obtain ⟨W,⟨m0,w0⟩,turn⟩:=W0
 have stat: ∀ {H':Hp},(∀ b∈fp,H' b=none)-> ∀ b∈fp,jn (cz X x x2 x3 ys scope h3.objs.size {s2 with heap:=h3} H3 fp) [] H' b:=fun hn b hb=>
  ⟨hn b hb,(Yok.exf b hb).1,Yok.exfs b hb,.inl hb,(Yok.exf b hb).2,fun q hq=>by cases hq⟩
 have loop:codeAny (model X.prog X.w) X.A (.compLoop (.ListComp elt [⟨.Tuple [.Name x px,.Name x2 px2,.Name x3 px3] kk tpos,iter,[],0⟩] scope pos) 0 (.ref it) (.ref p) (compEnvC scope (dw X.env.cells scope.names) h3.objs.size X.env))
   (compPost (model X.prog X.w) X.A X.xe use Qv (.ref p) h3.objs.size) {s2 with heap:=h₁,toks:=s2.toks+ ([]:List (Str×Value)).length}:=by
  refine fz (fun n s'=> ∃ i zs v0 w0 z0 H',Inv (cz X x x2 x3 ys scope h3.objs.size {s2 with heap:=h3} H3 fp) [] (v0::w0::z0::cn fr σ) H' s'/\tn i s'.heap/\(∀ b∈fp,H' b=none)/\W i n zs H') ?_ m0
   ⟨0,[],none,none,none,H3,IY,T.keep _ _ _ st3 fun b hb o e=>hold b o e,fH3,w0⟩
  rintro n s5 ⟨i,zs,v0,wv0,zv0,H5,I5,st5,fr5,w5⟩
  obtain ⟨hacc,turn5⟩:=turn i n zs H5 w5
  rcases turn5 with ⟨stop,qn⟩ | ⟨go,hlen,step⟩
  ·refine thn (T.done (cz X x x2 x3 ys scope h3.objs.size {s2 with heap:=h3} H3 fp) rfl rfl rfl hcalm i [] s5 _ H5 _ I5 (stat fr5) st5 stop) fun r s6 ⟨hr,I6⟩=>?_
   subst hr
   obtain ⟨m6,n6,_⟩:=I6.loc
   refine fin p h3.objs.size H5 s6 m6 (I3.call' I6.os I6.base I6.hok I6.bare fun b hb=>⟨(f2 b hb).2.2.2.1,(f2 b hb).2.1,(f2 b hb).2.2.2.2.1,(f2 b hb).2.2.2.2.2⟩) n6 I6.free (Nat.ne_of_gt hlt3) I3.sz (fun y c e=>Nat.ne_of_lt (hcell3 y c e)) (fun q hq=>?_) qn
   exact Nat.ne_of_lt (Heap.lt_size (I3.pin q hq).1)
  ·refine thn (T.item (cz X x x2 x3 ys scope h3.objs.size {s2 with heap:=h3} H3 fp) rfl rfl rfl hcalm i [] s5 _ H5 _ I5 (stat fr5) st5 go) fun r s6 ⟨u,hr,h6⟩=>?_
   subst hr
   refine thn h6 fun _ s7 ⟨xv,H7,I7,r7,y7,st7,fr7⟩=>?_
   have I7':=I7.pinned (stat fr7) (T.obj _ _ st7)
   obtain ⟨T7,v1,v2,v3,eT,hT7,step7⟩:=step xv H7 y7
   refine thn (pgx _ s7 _ H7 xv u (fun σ' H'=>σ'=some v1::some v2::some v3::cn fr σ/\H'=H7) I7' r7 ⟨T7,[v1,v2,v3],eT,SqT.of hT7,rfl,v1,[v2,v3],rfl,v2,[v3],rfl,v3,[],rfl,rfl,rfl,rfl⟩) fun _ s8 ⟨σ8,H8,I8,e8,e8'⟩=>?_
   subst e8 e8'
   refine thn (pel _ s8 _ H8 _ I8 step7) fun yv s9 ⟨v9,H9,I9,r9,hp9,m',hm',w9⟩=>?_
   refine thn (cr _ s9 _ H9 (.ref p) [v9] (.ref p) [yv] (fun _ H'=>H'=upd H9 p (.lst (zs++[v9]))) I9 rfl (.cons r9 .nil) ⟨p,zs,v9,rfl,rfl,hp9,hlen,rfl⟩) fun _ s10 ⟨_,H10,I10,_,e10⟩=>?_
   subst e10
   refine ⟨m',hm',i+1,zs++[v9],some v1,some v2,some v3,_,I10.unpinned,T.keep _ _ _ st7 fun b hb o e=>(I10.pin (b,o) (List.mem_append_right _ (List.mem_append_right _ (br hb e)))).1,fun b hb=>?_,w9⟩
   obtain ⟨o,e,d⟩:=T.obj _ _ st7 b hb
   exact (I10.pin (b,o) (List.mem_append_right _ (List.mem_append_right _ (br hb e)))).2.1
 exact codeAny_compStart_list loop (T.self X.A 0 _ _ _ (T.keep _ _ _ st3 fun b hb o e=>hold b o e) loop)
theorem lL (hcalm:X.calm=true) (hi:PI X (.Tuple [.Name x px,.Name x2 px2,.Name x3 px3] kk tpos) iter wi) (hsc:X.env.scope=sc0) (hN:X.N=N0) (ok:pj sc0 N0 scope x x2 x3 ys fr)
  (hE: ∀ C s H ex,PE (cz X x x2 x3 ys scope C s H ex) elt te) (hs: ∀ v,foldedSetIterable iter X.env v=pure v:=by intro _;rfl):
  PE X (.ListComp elt [⟨.Tuple [.Name x px,.Name x2 px2,.Name x3 px3] kk tpos,iter,[],0⟩] scope pos) (qL wi fr te):=by
 intro pins s σ H Q I h
 rw [eval_ListComp]
 refine oe (use:=none) (Qv:=EP X pins σ Q) (Q:=Q) hcalm hi hsc hN ok hE I h hs fun p C H' s' m I' hn h0 h1 h2 h3 h4 q=>?_
 refine ⟨m,hn,fun h' sb=>⟨.ref p,H',I'.turned (t':=s'.toks) (fun b o hb e=>sb.extBut b o hb e) h0 (Ne.symm (Ne.symm h1)) (.inr h2) h3 h4,rfl,q⟩⟩
end
end L2
namespace L2
open PySem PySem.Spec PyProof.Rows
noncomputable def v5 (n:Nat):R2:=fun x y H Q=> ∃ a b xs ys,x=.ref a/\y=.ref b/\H a=some (.lst xs)/\H b=some (.lst ys)/\Paired (AlkT H n) xs ys/\Q (.bl true) H
theorem u9 {X:Cx} {n:Nat} (hu:X.A.units+ (n+1) <cLine):OpR X (compareOp .Eq) (v5 n):=by
 intro pins s σ H x y v u Q I rx ry h
 obtain ⟨a,b,xs,ys,rfl,rfl,ha,hb,hp,q⟩:=h
 cases rx
 cases ry
 obtain ⟨its,r,p,_⟩:=I.seqS (c:=false) ha
 obtain ⟨its2,r2,p2,_⟩:=I.seqS (c:=false) hb
 have hu1:X.A.in1.units+n<cLine:=by show X.A.units+1+n<cLine;omega
 obtain ⟨hl,hj⟩:=eQ (R:=fun x y=>SeqAt.EqAt X.A.in1 s x y true) (fun v u x y g q1 q2=>AlkT.eqAt I n hu1 g q1 q2) hp r r2
 refine SeqAt.RcAt.lists (e:=fun _=>true) p p2 (by simpa using hl) (by omega) (fun j h1 h2=>by simpa using hj j (by simpa using h1) (by simpa using h2)) X.prog X.w X.xe _ ⟨.bl true,H,I,?_,q⟩
 show Value.bool _=Value.bool true
 simp
theorem fJ (H:Hp): ∀ ks:List Key,Paired (AlkT H 0) (ks.map kV) (ks.map kV)
 | []=>.nil
 | .inl i::r=>.cons (.inr ⟨i,rfl,rfl⟩) (fJ H r)
 | .inr z::r=>.cons (.inl ⟨z,rfl,rfl⟩) (fJ H r)
theorem sI {H:Hp} {kss:List (List Key)} {xs ys:List V} (h1:KsOf H xs kss) (h2:KsOf H ys kss):Paired (AlkT H 1) xs ys:=by
 induction h1 generalizing ys with
 | nil=>cases h2;exact .nil
 | cons a _ ih=>
  cases h2 with
  | cons b t=>
   obtain ⟨c,rfl,hc⟩:=a
   obtain ⟨d,rfl,hd⟩:=b
   exact .cons (.inr ⟨c,d,_,_,rfl,rfl,hc,hd,fJ H _⟩) (ih t)
theorem sS {l:Addr} {xs:List V} {g:TG} {tb:TS} {D:ev} {σ:St} {H:Hp} (Pv:Nat->St->Hp->Prop) (h0:Pv 0 σ H) (hl: ∀ i σ H,i<=xs.length->Pv i σ H->H l=some (.tup xs))
  (step: ∀ i x T σ H,xs[i]? =some x->H T=none->Pv i σ H->g (.ref T) σ (upd H T (.tup [.int (i:Int),x])) fun σ2 H2=>tb {D with nx:=Pv (i+1),ct:=Pv (i+1),bk:=D.nx} σ2 H2) (fin: ∀ σ H,Pv xs.length σ H->D.nx σ H):
  ∃ W:Nat->Nat->St->Hp->Prop,(∃ m,W 0 m σ H)/\ ∀ i m σ H,W i m σ H->
   ((Ite l).stop i H/\D.nx σ H)\/((Ite l).go i H/\ ∃ N:St->Hp->Prop,(∀ σ' H',N σ' H'-> ∃ m',m'<m/\W (i+1) m' σ' H')/\ ∀ x H',(Ite l).yld i H x H'->g x σ H' fun σ2 H2=>tb {D with nx:=N,ct:=N,bk:=D.nx} σ2 H2):=by
 refine ⟨fun i m σ H=>m=xs.length-i/\i<=xs.length/\Pv i σ H,⟨xs.length,by simp,Nat.zero_le _,h0⟩,?_⟩
 rintro i m σ H ⟨rfl,hi,p⟩
 have q:=hl i σ H hi p
 by_cases hlt:i<xs.length
 ·refine .inr ⟨⟨xs,xs[i],q,List.getElem?_eq_getElem hlt⟩,Pv (i+1),fun σ' H' p'=>⟨xs.length- (i+1),by omega,rfl,hlt,p'⟩,fun x H' y=>?_⟩
  obtain ⟨T,v,fT,rfl,rfl,hk⟩:=y
  exact step i v T σ H (hk xs q) fT p
 ·have e:i=xs.length:=by omega
  subst e
  exact .inl ⟨⟨xs,q,rfl⟩,fin σ H p⟩
theorem sR {d:Addr} {o:Obj} {kvs:List (List Key×V)} {g:TG} {tb:TS} {D:ev} {σ:St} {H:Hp} (Pv:Nat->St->Hp->Prop) (h0:Pv 0 σ H) (hl: ∀ i σ H,i<=kvs.length->Pv i σ H->H d=some (.frz o (.dT kvs)))
  (step: ∀ i kv σ H,kvs[i]? =some kv->Pv i σ H->g kv.2 σ H fun σ2 H2=>tb {D with nx:=Pv (i+1),ct:=Pv (i+1),bk:=D.nx} σ2 H2) (fin: ∀ σ H,Pv kvs.length σ H->D.nx σ H):
  ∃ W:Nat->Nat->St->Hp->Prop,(∃ m,W 0 m σ H)/\ ∀ i m σ H,W i m σ H->
   ((Itj d o).stop i H/\D.nx σ H)\/((Itj d o).go i H/\ ∃ N:St->Hp->Prop,(∀ σ' H',N σ' H'-> ∃ m',m'<m/\W (i+1) m' σ' H')/\ ∀ x H',(Itj d o).yld i H x H'->g x σ H' fun σ2 H2=>tb {D with nx:=N,ct:=N,bk:=D.nx} σ2 H2):=by
 refine ⟨fun i m σ H=>m=kvs.length-i/\i<=kvs.length/\Pv i σ H,⟨kvs.length,by simp,Nat.zero_le _,h0⟩,?_⟩
 rintro i m σ H ⟨rfl,hi,p⟩
 have q:=hl i σ H hi p
 by_cases hlt:i<kvs.length
 ·refine .inr ⟨⟨kvs,kvs[i],q,List.getElem?_eq_getElem hlt⟩,Pv (i+1),fun σ' H' p'=>⟨kvs.length- (i+1),by omega,rfl,hlt,p'⟩,fun x H' y=>?_⟩
  obtain ⟨rfl,hk⟩:=y
  have hx:=hk kvs q
  rw [List.getElem?_map]at hx
  obtain ⟨kv,hkv,rfl⟩:=Option.map_eq_some_iff.mp hx
  exact step i kv σ H' hkv p
 ·have e:i=kvs.length:=by omega
  subst e
  exact .inl ⟨⟨kvs,q,rfl⟩,fin σ H p⟩
section
variable {X:Cx}
theorem pN (bs:List Bool):((List.range bs.length).any fun i=>(bs[i]?).getD false)=bs.any id:=by
 induction bs with
 | nil=>rfl
 | cons b r ih=>
  rw [List.length_cons,List.range_succ_eq_map,List.any_cons,List.any_map]
  show (b||(List.range r.length).any (fun i=>((b::r)[i+1]?).getD false))=(b||r.any id)
  rw [<- ih]
  rfl
theorem mr (hc:X.calm=true):cU X (.builtin "any") (fun xs H Q=> ∃ (p:Addr) (bs:List Bool),xs=[.ref p]/\SqL X.K H p (bs.map V.bl)/\Q (.bl (bs.any id)) H):=by
 intro pins s σ H xs us Q I r h
 obtain ⟨p,bs,rfl,hq,q⟩:=h
 obtain ⟨u,rfl,ru⟩:=fj r
 cases ru
 obtain ⟨its,rv,pl,hz⟩:=I.list hq
 have hl:=pl.isList
 have hlt:p<s.heap.objs.size:=by obtain ⟨_,e,_⟩:=hl;exact Heap.lt_size e
 have hn:its.toArray.size=bs.length:=by have:=rv.length;rw [List.length_map]at this;rw [List.size_toArray];omega
 refine call_any_walk (wpAny_pyIter_list hl ?_)
 refine ⟨s.heap.objs.size,[s.heap.objs.size,p],[s.heap.objs.size],its.toArray.size,_,_,fun i=>(bs[i]?).getD false,rfl,Walks.list (A:=X.A.in1) (I.ok.hd hc) _ p (Nat.ne_of_lt hlt) its.toArray,
  ⟨⟨_,Heap.get?_push_size _ rfl,rfl,rfl⟩,hl.push _⟩,fun i v s' Q' E' hP hQ=>?_,fun h' tk hk=>?_⟩
 ·have hv:its[i]? =some v:=by simpa using hP
  have hi:i<bs.length:=by
   have:=(List.getElem?_eq_some_iff.mp hv).1
   have:=rv.length
   rw [List.length_map]at this
   omega
  have hb:(bs.map V.bl)[i]? =some (V.bl bs[i]):=by rw [List.getElem?_map,List.getElem?_eq_getElem hi] <;> rfl
  obtain ⟨u,eu,ru⟩:=rv.get hb
  rw [hv]at eu
  cases eu
  cases (show v=Value.bool bs[i]from ru)
  have hQ':=hQ
  simp only [List.getElem?_eq_getElem hi,Option.getD_some]at hQ'
  exact wpAny_truthy_bool hQ'
 ·rw [hn,pN]
  refine ⟨.bl (bs.any id),H,I.kept (t':=tk) fun b x e=>?_,rfl,q⟩
  exact hk b x (fun hm=>by rw [List.mem_singleton.mp hm]at e;exact Nat.lt_irrefl _ (Heap.lt_size e)) (Heap.get?_push_of_some _ e)
end
end L2
namespace My
open PySem L2
variable {P:Program} {w:World} {K:PySem.W.Frag} {mg:Str->Option Value} {base:Heap} {aD aR f f2 f3 f4 f5 f6 f7 f8 f9 g:Addr} {fd fd2 fd3 fd4 fd5 fd6 fd7 fd8 fd9 gd:FuncData}
noncomputable def eC (c:Nat):Bool:=decide (97<=c/\c<=122)
noncomputable def a5 (x:Str):Bool:=decide (1<=x.length)&&decide (x.length<=8)&&x.cps.toList.all eC
noncomputable def ops:List Str:=["plus","less","times","least","most"]
inductive Fm where
 | num (n:Int)
 | own (x:Str)
 | part (k:Int) (x:Str)
 | bin (op:Str) (a b:Fm)
 | whn (a b c:Fm)
noncomputable def Fm.size:Fm->Nat
 | .num _=>1
 | .own _=>1
 | .part _ _=>1
 | .bin _ a b=>a.size+b.size+1
 | .whn a b c=>a.size+b.size+c.size+1
noncomputable def Fm.wf:Fm->Prop
 | .num n=> -999999<=n/\n<=999999
 | .own x=>a5 x=true
 | .part k x=>(0<=k/\k<=2)/\a5 x=true
 | .bin op a b=>op∈ops/\a.wf/\b.wf
 | .whn a b c=>a.wf/\b.wf/\c.wf
theorem Fm.size_pos: ∀ f:Fm,1<=f.size
 | .num _=>Nat.le_refl 1
 | .own _=>Nat.le_refl 1
 | .part _ _=>Nat.le_refl 1
 | .bin _ a b=>by show 1<=a.size+b.size+1;omega
 | .whn a b c=>by show 1<=a.size+b.size+c.size+1;omega
noncomputable def Rep (H:Hp):Fm->V->Prop
 | .num n,v=> ∃ a,v=.ref a/\H a=some (.tup [.str "num",.int n])
 | .own x,v=> ∃ a,v=.ref a/\H a=some (.tup [.str "own",.str x])
 | .part k x,v=> ∃ a,v=.ref a/\H a=some (.tup [.str "part",.int k,.str x])
 | .bin op A B,v=> ∃ a u w,v=.ref a/\H a=some (.tup [.str op,u,w])/\Rep H A u/\Rep H B w
 | .whn A B C,v=> ∃ a u w z,v=.ref a/\H a=some (.tup [.str "when",u,w,z])/\Rep H A u/\Rep H B w/\Rep H C z
noncomputable def TK (H H':Hp):Prop:= ∀ a xs,H a=some (.tup xs)->H' a=some (.tup xs)
theorem TK.trans {H H1 H2:Hp} (a:TK H H1) (b:TK H1 H2):TK H H2:=fun c o h=>b c o (a c o h)
theorem TK.upd {H:Hp} {p:Addr} {o:HO} (h: ∀ xs,H p≠some (.tup xs)):TK H (upd H p o):=fun a xs e=>by
 by_cases q:a=p
 ·subst q
  exact absurd e (h xs)
 ·rw [am q]
  exact e
theorem TK.lst {H:Hp} {p:Addr} {o:HO} {ys:List V} (h:H p=some (.lst ys)):TK H (L2.upd H p o):=TK.upd fun xs e=>by rw [h]at e;cases e
theorem TK.new {H:Hp} {p:Addr} {o:HO} (h:H p=none):TK H (L2.upd H p o):=TK.upd fun xs e=>by rw [h]at e;cases e
theorem Rep.mono {H H':Hp} (t:TK H H'): ∀ {f:Fm} {v:V},Rep H f v->Rep H' f v
 | .num _,_,⟨a,e,h⟩=>⟨a,e,t _ _ h⟩
 | .own _,_,⟨a,e,h⟩=>⟨a,e,t _ _ h⟩
 | .part _ _,_,⟨a,e,h⟩=>⟨a,e,t _ _ h⟩
 | .bin _ _ _,_,⟨a,u,w,e,h,r1,r2⟩=>⟨a,u,w,e,t _ _ h,Rep.mono t r1,Rep.mono t r2⟩
 | .whn _ _ _,_,⟨a,u,w,z,e,h,r1,r2,r3⟩=>⟨a,u,w,z,e,t _ _ h,Rep.mono t r1,Rep.mono t r2,Rep.mono t r3⟩
noncomputable def isV (T:String) (H:Hp) (v:V):Bool:=match v with
 | .bl _=>T=="bool"||T=="int"
 | .int _=>T=="int"
 | .str _=>T=="str"
 | .ref a=>(match H a with | some (.lst _)=>T=="list" | some (.tup _)=>T=="tuple" | some (.dK _)=>T=="dict" | _=>false)
 | _=>false
noncomputable def Sh (H:Hp):V->Prop
 | .non=>True
 | .bl _=>True
 | .int _=>True
 | .str x=>x.length<=1000
 | .ref a=>(∃ xs,H a=some (.lst xs))\/(∃ xs,H a=some (.tup xs))\/ ∃ kvs,H a=some (.dK kvs)
 | _=>False
section
variable {X:Cx}
theorem uq (K:PySem.W.Frag) (t T:String) (ht:t∈["NoneType","bool","int","str","list","tuple","dict"]) (hT:T∈["bool","int","str","list","tuple","dict"]):
  PySem.W.kitOne K (.type t) (.type T)=some (t==T||(t=="bool"&&T=="int")):=by
 simp only [List.mem_cons,List.not_mem_nil,or_false]at ht hT
 rcases ht with rfl | rfl | rfl | rfl | rfl | rfl | rfl <;> rcases hT with rfl | rfl | rfl | rfl | rfl | rfl <;> first | rfl | (with_unfolding_all rfl) | (with_unfolding_all decide)
theorem bq:cU X (.builtin "isinstance") (fun xs H Q=> ∃ x T,xs=[x,.ty T]/\Sh H x/\T∈["bool","int","str","list","tuple","dict"]/\Q (.bl (isV T H x)) H):=by
 intro pins s σ H xs us Q I r h
 obtain ⟨x,T,rfl,hs,hT,q⟩:=h
 have go: ∀ t,gm X.K H x (.type t)->t∈["NoneType","bool","int","str","list","tuple","dict"]->isV T H x=(t==T||(t=="bool"&&T=="int"))->wpAny (model X.prog X.w) X.A (call (.builtin "isinstance") us) (EP X pins σ Q) X.xe s:=by
  intro t ty ht e
  refine tf pins s σ H _ us Q I r ⟨x,T,.type t,_,rfl,ty,uq X.K t T ht hT,?_⟩
  rw [<- e]
  exact q
 have hTT:=hT
 simp only [List.mem_cons,List.not_mem_nil,or_false]at hTT
 cases x with
 | non=>exact go _ .non (by simp) (by rcases hTT with rfl | rfl | rfl | rfl | rfl | rfl <;> rfl)
 | bl b=>exact go _ (.bl b) (by simp) (by rcases hTT with rfl | rfl | rfl | rfl | rfl | rfl <;> rfl)
 | int i=>exact go _ (.int i) (by simp) (by rcases hTT with rfl | rfl | rfl | rfl | rfl | rfl <;> rfl)
 | str z=>exact go _ (.str z) (by simp) (by rcases hTT with rfl | rfl | rfl | rfl | rfl | rfl <;> rfl)
 | ref a=>
  rcases hs with ⟨ys,e⟩ | ⟨ys,e⟩ | ⟨ys,e⟩
  ·exact go _ (.lst e) (by simp) (by simp only [isV,e];rcases hTT with rfl | rfl | rfl | rfl | rfl | rfl <;> rfl)
  ·exact go _ (.tup e) (by simp) (by simp only [isV,e];rcases hTT with rfl | rfl | rfl | rfl | rfl | rfl <;> rfl)
  ·exact go _ (.dK e) (by simp) (by simp only [isV,e];rcases hTT with rfl | rfl | rfl | rfl | rfl | rfl <;> rfl)
 | byt _=>exact hs.elim
 | flt _=>exact hs.elim
 | ty _=>exact hs.elim
end
noncomputable def top (i:Nat):Stmt:=PySem.Challenge.pw_boughworth_k10_level_or_not.main.body.getD i (.Pass ⟨0,0,0,0⟩)
noncomputable abbrev ni:Stmt:=top 2
noncomputable abbrev jR:Stmt:=top 3
noncomputable abbrev oD:Stmt:=top 4
noncomputable abbrev rh:Stmt:=top 11
noncomputable abbrev rg:Stmt:=top 12
noncomputable abbrev nr:Stmt:=top 13
noncomputable abbrev jT:Stmt:=top 14
noncomputable abbrev nj:Stmt:=top 15
noncomputable abbrev qZ:Stmt:=top 21
noncomputable abbrev iC:Stmt:=top 22
noncomputable abbrev iD:Stmt:=top 23
noncomputable abbrev iI:Stmt:=top 24
noncomputable abbrev ef:Stmt:=top 25
noncomputable abbrev nu:Stmt:=top 26
noncomputable abbrev uV:Stmt:=top 27
noncomputable abbrev gI:Stmt:=top 28
noncomputable abbrev eJ:Stmt:=top 29
noncomputable abbrev iF:Stmt:=top 30
noncomputable abbrev iE:Stmt:=top 31
noncomputable abbrev ig:Stmt:=top 32
noncomputable abbrev nn:Stmt:=top 33
noncomputable abbrev jU:Stmt:=top 34
noncomputable abbrev j9:Stmt:=top 35
noncomputable abbrev eN:Stmt:=top 36
noncomputable abbrev dQ:Stmt:=top 37
noncomputable abbrev nq:Stmt:=top 38
noncomputable abbrev fe:Stmt:=top 39
noncomputable abbrev iH:Stmt:=top 40
noncomputable abbrev fC:Stmt:=top 41
noncomputable abbrev eh:Stmt:=top 42
noncomputable abbrev fD:Stmt:=top 43
noncomputable abbrev cM:Stmt:=top 44
noncomputable abbrev jS:Stmt:=top 45
noncomputable abbrev ff:Stmt:=top 46
noncomputable abbrev j0:Stmt:=top 47
noncomputable abbrev eM:Stmt:=top 48
noncomputable abbrev ie:Stmt:=top 49
noncomputable abbrev eg:Stmt:=top 50
noncomputable abbrev rj:Stmt:=top 52
noncomputable abbrev q9:Stmt:=top 53
noncomputable abbrev nv:Stmt:=top 54
noncomputable abbrev eK:Stmt:=top 55
noncomputable abbrev jW:Stmt:=top 56
noncomputable abbrev rf:Stmt:=top 57
noncomputable abbrev jY:Stmt:=top 58
noncomputable abbrev rc:Stmt:=top 59
noncomputable abbrev jZ:Stmt:=top 60
noncomputable abbrev fS:Stmt:=top 61
noncomputable abbrev eL:Stmt:=top 62
noncomputable abbrev fR:Stmt:=top 63
noncomputable abbrev jX:Stmt:=top 64
noncomputable abbrev re:Stmt:=top 65
noncomputable abbrev cL:Stmt:=top 66
noncomputable abbrev iG:Stmt:=top 67
noncomputable abbrev cq:Stmt:=top 68
noncomputable abbrev cI:Stmt:=top 69
noncomputable abbrev jV:Stmt:=top 70
noncomputable abbrev jv:Stmt:=top 71
structure Gb (mg:Str->Option Value):Prop where
 isi:mg "isinstance"=none
 int:mg "int"=none
 bool:mg "bool"=none
 str:mg "str"=none
 tuple:mg "tuple"=none
 len:mg "len"=none
 all:mg "all"=none
 range:mg "range"=none
 max:mg "max"=none
 min:mg "min"=none
noncomputable def qE:V->Bool
 | .int _=>true
 | _=>false
noncomputable def cG (lo hi:Int):V->Bool
 | .int i=>decide (lo<=i)&&decide (i<=hi)
 | _=>false
noncomputable def cX:V->Bool
 | .str x=>a5 x
 | _=>false
theorem oT {H:Hp} {v:V} (h:Sh H v):(if isV "int" H v=true then !isV "bool" H v else false)=qE v:=by
 cases v with
 | ref a=>rcases h with ⟨ys,e⟩ | ⟨ys,e⟩ | ⟨ys,e⟩ <;> (simp only [isV,e];rfl)
 | _=>rfl
theorem oS {H:Hp} {v:V} (h:isV "str" H v=true): ∃ z,v=.str z:=by
 cases v with
 | str z=>exact ⟨z,rfl⟩
 | ref a=>
  simp only [isV]at h
  split at h <;> simp at h
 | _=>simp [isV]at h
theorem uu {H:Hp} {v:V} (h:isV "tuple" H v=true): ∃ a xs,v=.ref a/\H a=some (.tup xs):=by
 cases v with
 | ref a=>
  simp only [isV]at h
  split at h
  ·simp at h
  ·rename_i xs e
   exact ⟨a,xs,rfl,e⟩
  ·simp at h
  ·simp at h
 | _=>simp [isV]at h
theorem qb {Q:VK} {b b':Bool} {H:Hp} (q:Q (.bl b) H) (e:b=b'):Q (.bl b') H:=e▸q
theorem ai {H:Hp} {p:Addr} (h:H p=none) (o:HO):Same H (upd H p o):=fun b u q=>by rw [am (aj q h)];exact q
noncomputable def eY:Sp:=fun vs H Q _=> ∃ v,vs=[v]/\Sh H v/\Q (.bl (qE v)) H
noncomputable def iq:Sp:=fun vs H Q _=> ∃ v lo hi,vs=[v,.int lo,.int hi]/\Sh H v/\Q (.bl (cG lo hi v)) H
noncomputable def gB:Sp:=fun vs H Q _=> ∃ v,vs=[v]/\Sh H v/\ ∀ H',Same H H'->Q (.bl (cX v)) H'
theorem tD:ay ["thing"] ["thing"] (ag ni):=fsc
theorem rM (F:Fun K "is_whole" "is_whole" ni f fd) (G:Gb mg):FnOk P w K mg base CX0 1 f fd ["thing"] eY:=by
 refine F.ok tD (fun vs H Q E h=>?_) (fun cdv A outer s H vs Q E hr h=>?_)
 ·obtain ⟨v,rfl,_⟩:=h
  rfl
 obtain ⟨v,rfl,hS,q⟩:=h
 refine ⟨_,ah (au (ck (ao bq rfl G.isi (by decide +kernel) (aa (pv 0) (aa (bw (v:=.ty "int") rfl G.int (by decide +kernel) rfl) ab)))
  (cB (rF (ao bq rfl G.isi (by decide +kernel) (aa (pv 0) (aa (bw (v:=.ty "bool") rfl G.bool (by decide +kernel) rfl) ab))))))),?_⟩
 have e:=oT hS
 refine ⟨_,rfl,v,"int",rfl,hS,by simp,_,rfl,?_⟩
 refine bo (fun c=>?_) (fun c=>?_)
 ·rw [if_pos c]at e
  refine ⟨_,rfl,v,"bool",rfl,hS,by simp,_,rfl,?_⟩
  exact qb q e.symm
 ·rw [if_neg c]at e
  exact qb q e.symm
theorem qU:ay ["thing","lowest","highest"] ["thing","lowest","highest"] (ag jR):=fsc
theorem pV (F:Fun K "is_whole_within" "is_whole_within" jR f fd) (GW:FnOk P w K mg base CX0 1 g gd ["thing"] eY) (bW:Binds K gd ["thing"] []) (kW:PySem.W.keepIn K (.ref g)=true) (mW:mg "is_whole"=some (.ref g)):
  FnOk P w K mg base CX0 2 f fd ["thing","lowest","highest"] iq:=by
 refine F.ok qU (fun vs H Q E h=>?_) (fun cdv A outer s H vs Q E hr h=>?_)
 ·obtain ⟨v,lo,hi,rfl,_⟩:=h
  rfl
 obtain ⟨v,lo,hi,rfl,hS,q⟩:=h
 refine ⟨_,ah (au (ck (af GW hr rfl mW kW bW .nil al (aa (pv 0) ab)) (cB (iO ft ft (pv 1) (pv 0) (pv 2))))),?_⟩
 refine ⟨_,rfl,v,rfl,hS,_,rfl,?_⟩
 refine bo (fun c=>?_) (fun c=>?_)
 ·cases v with
  | int i=>
   refine ⟨_,rfl,_,rfl,lo,i,rfl,rfl,_,rfl,?_⟩
   refine bo (fun c1=>?_) (fun c1=>?_)
   ·refine ⟨_,rfl,i,hi,rfl,rfl,?_⟩
    have e:cG lo hi (.int i)=decide (i<=hi):=by
     show (decide (lo<=i)&&decide (i<=hi))=_
     rw [c1,Bool.true_and]
    exact qb q e
   ·have e:cG lo hi (.int i)=false:=by
     show (decide (lo<=i)&&decide (i<=hi))=_
     rw [Bool.eq_false_iff.mpr c1,Bool.false_and]
    exact qb q e
  | _=>cases c
 ·have e:cG lo hi v=false:=by
   cases v with
   | int i=>exact absurd rfl c
   | _=>rfl
  exact qb q e
theorem sA (a b:Nat):decide ([a] <[b])=decide (a<b):=by
 rw [decide_eq_decide]
 simp [List.cons_lt_cons_iff]
theorem wG (c:Nat):(!decide ((⟨#[c]⟩:Str).cps.toList< ("a":Str).cps.toList))=decide (97<=c):=by
 have e:("a":Str).cps.toList=[97]:=by decide +kernel
 rw [e]
 show (!decide ([c] <[97]))=_
 rw [sA]
 by_cases h:c<97
 ·rw [decide_eq_true h,decide_eq_false (by omega)]
  rfl
 ·rw [decide_eq_false h,decide_eq_true (by omega)]
  rfl
theorem xc (c:Nat):(!decide (("z":Str).cps.toList< (⟨#[c]⟩:Str).cps.toList))=decide (c<=122):=by
 have e:("z":Str).cps.toList=[122]:=by decide +kernel
 rw [e]
 show (!decide ([122] <[c]))=_
 rw [sA]
 by_cases h:122<c
 ·rw [decide_eq_true h,decide_eq_false (by omega)]
  rfl
 ·rw [decide_eq_false h,decide_eq_true (by omega)]
  rfl
theorem um (c:Nat):eC c=(decide (97<=c)&&decide (c<=122)):=by
 unfold eC
 by_cases h1:97<=c <;> by_cases h2:c<=122 <;> simp [h1,h2]
theorem uS:ay ["thing"] ["thing"] (ag oD):=fsc
theorem tY (F:Fun K "is_word" "is_word" oD f fd) (G:Gb mg) {tk:Tok} (mL:mg "MOST_LETTERS"=some (.int 8 tk)):FnOk P w K mg base CX0 1 f fd ["thing"] gB:=by
 refine F.ok uS (fun vs H Q E h=>?_) (fun cdv A outer s H vs Q E hr h=>?_)
 ·obtain ⟨v,rfl,_⟩:=h
  rfl
 obtain ⟨v,rfl,hS,q⟩:=h
 refine ⟨_,ad (aK (PW.pt (cY (aV (aN (ao bq rfl G.isi (by decide +kernel) (aa (pv 0) (aa (bw (v:=.ty "str") rfl G.str (by decide +kernel) rfl) ab)))))
   (cA (aV (iK ft ft ae (ao gj rfl G.len PySem.boot_len (aa (pv 0) ab)) (cg (v:=.int 8) rfl mL ⟨_,rfl⟩)))))) (ah (au cj)) ax)
  (ah (au (ao (cp rfl) rfl G.all (by decide +kernel) (aa (a9 (sc0:=ag oD) (N0:=["thing"]) (ys:=[]) (fr:=[]) rfl (rE (pv 0)) rfl rfl
   cok (fun C s H ex=>iO jy jy aG (pv 0) aG)) ab)))),?_⟩
 refine ⟨_,rfl,v,"str",rfl,hS,by simp,_,rfl,?_⟩
 refine bo (fun c=>?_) (fun c=>?_)
 ·-- no text
  refine aY ?_
  have e:cX v=false:=by
   cases v with
   | str z=>simp [isV]at c
   | _=>rfl
  exact qb (q H (Same.refl H)) e
 ·obtain ⟨z,rfl⟩:=oS (H:=H) (v:=v) (by cases h:isV "str" H v with
   | true=>rfl
   | false=>rw [h]at c;exact absurd rfl c)
  have hz:z.length<=sizeLine:=Nat.le_of_lt (aF hS)
  refine ⟨_,rfl,z,rfl,hz,1,_,rfl,rfl,_,rfl,?_⟩
  have ew:cX (.str z)=(decide (1<=z.length)&&decide (z.length<=8)&&z.cps.toList.all eC):=rfl
  refine bo (fun c1=>?_) (fun c1=>?_)
  ·have c1':1<=z.length:=by have:=of_decide_eq_true c1;omega
   refine ⟨_,8,rfl,rfl,_,rfl,?_⟩
   refine bo (fun c2=>?_) (fun c2=>?_)
   ·have c2': ¬ z.length<=8:=fun z8=>by
     have:((z.length:Int)<=8):=by omega
     rw [decide_eq_true this]at c2
     exact absurd c2 (by decide)
    have e:cX (.str z)=false:=by rw [ew,decide_eq_false c2',Bool.and_false,Bool.false_and]
    exact qb (q H (Same.refl H)) e
   ·have c2':z.length<=8:=by
     by_cases h:((z.length:Int)<=8)
     ·omega
     ·rw [decide_eq_false h]at c2
      exact absurd rfl c2
    refine ⟨_,rfl,z,rfl,?_⟩
    refine dX (n:=z.length) (R:=fun i v=> ∃ c,z.cps[i]? =some c/\v=.str ⟨#[c]⟩) (by omega) sJ l8 oR
     (fun p i zs H'=>H'=upd H p (.lst zs)/\i<=z.length/\zs=((z.cps.toList.take i).map eC).map V.bl) (fun p hp=>⟨rfl,Nat.zero_le _,rfl⟩) ?_ ?_ ?_
    ·rintro p i zs H' ⟨rfl,hi,rfl⟩
     refine ⟨ac,?_⟩
     rw [List.length_map,List.length_map,List.length_take]
     exact Nat.min_eq_left hi
    ·rintro p i zs H' v k hp hi ⟨ch,hc,rfl⟩ ⟨rfl,_,rfl⟩ hk
     have hc':z.cps.toList[i]? =some ch:=by rw [Array.getElem?_toList];exact hc
     have nxt:((z.cps.toList.take i).map eC).map V.bl++[V.bl (eC ch)]=((z.cps.toList.take (i+1)).map eC).map V.bl:=by
      rw [List.take_add_one,hc']
      simp
     have fin:k (.bl (eC ch)) (upd H p (.lst (((z.cps.toList.take i).map eC).map V.bl))):=hk _ _ ac ⟨by rw [c6],hi,nxt⟩
     rw [um]at fin
     refine ⟨_,rfl,_,_,rfl,rfl,_,rfl,?_⟩
     refine bo (fun c3=>?_) (fun c3=>?_)
     ·refine ⟨_,_,rfl,rfl,?_⟩
      rw [wG]at c3
      rw [c3,Bool.true_and]at fin
      exact qb fin (xc ch).symm
     ·rw [wG]at c3
      rw [Bool.eq_false_iff.mpr c3,Bool.false_and]at fin
      exact fin
    ·rintro p zs H' hp ⟨rfl,_,rfl⟩
     refine ⟨p,(z.cps.toList.take z.length).map eC,rfl,SqL.of ac,?_⟩
     have e:cX (.str z)=((z.cps.toList.take z.length).map eC).all id:=by
      rw [ew,decide_eq_true c1',decide_eq_true c2',List.take_of_length_le (show z.cps.toList.length<=z.length from Nat.le_refl _),List.all_map]
      rfl
     exact qb (q _ (ai hp _)) e
  ·have c1': ¬ 1<=z.length:=fun z1=>by
    have:((1:Int)<=(z.length:Int)):=by omega
    rw [decide_eq_true this]at c1
    exact c1 rfl
   refine ⟨_,rfl,?_⟩
   refine aY ?_
   have e:cX (.str z)=false:=by rw [ew,decide_eq_false c1',Bool.false_and,Bool.false_and]
   exact qb (q H (Same.refl H)) e
noncomputable def cF (k:Str):Option Nat:=if k∈ops then some 2 else if k="when" then some 3 else none
noncomputable def pU (p:V->Bool):List V->Bool
 | [x]=>p x
 | _=>false
noncomputable def uN (p:V->V->Bool):List V->Bool
 | [x,y]=>p x y
 | _=>false
theorem oI {p:V->Bool} {r:List V} (h: ¬ r.length=1):pU p r=false:=by
 match r with
 | []=>rfl
 | [x]=>exact absurd rfl h
 | _::_::_=>rfl
theorem tt {p:V->V->Bool} {r:List V} (h: ¬ r.length=2):uN p r=false:=by
 match r with
 | []=>rfl
 | [_]=>rfl
 | [x,y]=>exact absurd rfl h
 | _::_::_::_=>rfl
noncomputable def cC:List V->Bool
 | .str k::r=>(match cF k with
  | some n=>decide (r.length=n)
  | none=>if k="num" then pU (cG (-999999) 999999) r
   else if k="own" then pU cX r
   else if k="part" then uN (fun x y=>cG 0 2 x&&cX y) r else false)
 | _=>false
noncomputable def cK (H:Hp):V->Bool
 | .ref a=>(match H a with | some (.tup xs)=>cC xs | _=>false)
 | _=>false
theorem gR {H:Hp} {a:Addr} {xs:List V} (h:H a=some (.tup xs)):cK H (.ref a)=cC xs:=by simp only [cK,h]
theorem qv {H:Hp} {a:Addr} {xs:List V} (h:H a=some (.lst xs)):cK H (.ref a)=false:=by simp only [cK,h]
theorem sP {H:Hp} {a:Addr} {xs:List (Key×V)} (h:H a=some (.dK xs)):cK H (.ref a)=false:=by simp only [cK,h]
noncomputable def aP:List V->List V
 | .str k::r=>if (cF k).isSome then r else []
 | _=>[]
noncomputable def gf:List (Key×V):=[(.inr "plus",.int 2),(.inr "less",.int 2),(.inr "times",.int 2),(.inr "least",.int 2),(.inr "most",.int 2),(.inr "when",.int 3)]
theorem sN (k:Str):cT gf (.inr k)=(cF k).map fun (n:Nat)=>V.int n:=by
 unfold cF ops gf
 by_cases h1:k="plus"
 ·subst h1;decide +kernel
 by_cases h2:k="less"
 ·subst h2;decide +kernel
 by_cases h3:k="times"
 ·subst h3;decide +kernel
 by_cases h4:k="least"
 ·subst h4;decide +kernel
 by_cases h5:k="most"
 ·subst h5;decide +kernel
 by_cases h6:k="when"
 ·subst h6;decide +kernel
 have ne: ∀ {y:Str},¬ k=y-> ¬ (Sum.inr y:Key)=Sum.inr k:=fun h e=>h (Sum.inr.inj e).symm
 rw [a6 (ne h1),a6 (ne h2),a6 (ne h3),a6 (ne h4),a6 (ne h5),a6 (ne h6),qH,if_neg,if_neg h6]
 ·rfl
 ·simp only [List.mem_cons,List.not_mem_nil,or_false,not_or]
  exact ⟨h1,h2,h3,h4,h5⟩
theorem aT {α:Type} {x:α} {r:List α}:atI (x::r) 0=some x:=aB (j:=0) rfl
theorem uA {α:Type} {x y:α} {r:List α}:atI (x::y::r) 1=some y:=aB (j:=1) rfl
theorem wF {α:Type} {x y z:α} {r:List α}:atI (x::y::z::r) 2=some z:=aB (j:=2) rfl
noncomputable def Ask (H:Hp) (v:V):Prop:=Sh H v/\ ∀ a xs,v=.ref a->H a=some (.tup xs)->xs.length<=1000/\ ∀ x∈xs,Sh H x
noncomputable def qR:Sp:=fun vs H Q _=> ∃ v,vs=[v]/\Ask H v/\ ∀ H',Same H H'->Q (.bl (cK H v)) H'
noncomputable def jM:Sp:=fun vs H Q _=> ∃ a k r,vs=[.ref a]/\H a=some (.tup (.str k::r))/\r.length<=1000/\ ∀ p H',Same H H'->H' p=some (.tup (aP (.str k::r)))->Q (.ref p) H'
theorem n8 {m n:Nat}:decide (V.int (m:Int)=V.int (n:Int))=decide (m=n):=by
 by_cases h:m=n
 ·subst h;rw [decide_eq_true rfl,decide_eq_true rfl]
 ·rw [decide_eq_false h,decide_eq_false (fun e=>h (by injection e with e;omega))]
theorem tI:ay ["formula"] ["formula"] (ag nr):=fsc
theorem rX (F:Fun K "inner_of" "inner_of" nr f fd) (mD:mg "INNER_COUNTS"=some (.ref aD)) (D:qD P w K aD gf):FnOk P w K mg base CX0 1 f fd ["formula"] jM:=by
 refine F.ok tI (fun vs H Q E h=>?_) (fun cdv A outer s H vs Q E hr h=>?_)
 ·obtain ⟨a,k,r,rfl,_⟩:=h
  rfl
 obtain ⟨a,k,r,rfl,ha,hl,q⟩:=h
 refine ⟨_,ah (au (dl (az rJ (av aq (pv 0) ae (fun _ _=>rfl)) (cg (v:=.ref aD) rfl mD rfl) (by with_unfolding_all rfl)) (bh gE (pv 0) (bZ ae) ca) (aS ab))),?_⟩
 refine ⟨_,rfl,a,_,0,_,rfl,rfl,SqT.of ha,aT,.inr k,aD,gf,rfl,rfl,D,_,rfl,?_⟩
 have hv:=sN k
 cases hk:cF k with
 | none=>
  rw [hk]at hv
  refine bo (fun c=>?_) (fun c=>?_)
  ·rw [hv]at c
   exact absurd c (by decide)
  ·refine ⟨(by show 0<=sizeLine;decide),fun p hp=>?_⟩
   refine q p _ (ai hp _) ?_
   rw [ac]
   show some (HO.tup [])=some (HO.tup (if (cF k).isSome=true then r else []))
   rw [hk]
   rfl
 | some n=>
  rw [hk]at hv
  refine bo (fun c=>?_) (fun c=>?_)
  ·refine ⟨_,rfl,1,rfl,a,_,rfl,SqT.of ha,?_,fun p hp=>?_⟩
   ·rintro ⟨h1,_⟩
    have:HT.sIx (V.str k::r).length 0 (some 1)=min 1 (V.str k::r).length:=HT.sIx_nat _ _ 1
    rw [this,List.length_cons]at h1
    omega
   ·refine q p _ (ai hp _) ?_
    rw [ac]
    have e1:HT.sIx (V.str k::r).length 0 (some 1)=1:=by
     have:HT.sIx (V.str k::r).length 0 (some 1)=min 1 (V.str k::r).length:=HT.sIx_nat _ _ 1
     rw [this,List.length_cons]
     omega
    have e2:dW (V.str k::r) (some 1) none=r:=by
     unfold dW
     rw [e1,HT.sIx_none,List.length_cons,List.drop_one,List.tail_cons,Nat.add_sub_cancel,List.take_length]
    show some (HO.tup (dW (V.str k::r) (some 1) none))=some (HO.tup (if (cF k).isSome=true then r else []))
    rw [hk,e2]
    rfl
  ·rw [hv]at c
   exact absurd rfl c
theorem scHead:ay ["thing","kind"] ["thing"] (ag rg):=fsc
theorem ug (F:Fun K "is_head" "is_head" rg f fd) (G:Gb mg) (mD:mg "INNER_COUNTS"=some (.ref aD)) (D:qD P w K aD gf) {tN tP:Tok} (mN:mg "MOST_NUM"=some (.int 999999 tN)) (mP:mg "MOST_PART"=some (.int 2 tP))
  (GW:FnOk P w K mg base CX0 2 g gd ["thing","lowest","highest"] iq) (bW:Binds K gd ["thing","lowest","highest"] []) (kW:PySem.W.keepIn K (.ref g)=true) (mW:mg "is_whole_within"=some (.ref g))
  (GX:FnOk P w K mg base CX0 1 f2 fd2 ["thing"] gB) (bX:Binds K fd2 ["thing"] []) (kX:PySem.W.keepIn K (.ref f2)=true) (mX:mg "is_word"=some (.ref f2)):
  FnOk P w K mg base CX0 3 f fd ["thing"] qR:=by
 refine F.ok scHead (fun vs H Q E h=>?_) (fun cdv A outer s H vs Q E hr h=>?_)
 ·obtain ⟨v,rfl,_⟩:=h
  rfl
 obtain ⟨v,rfl,⟨hS,hI⟩,q⟩:=h
 have hr1:=hr.mono (show 1<=2 by decide)
 refine ⟨_,ad (aK (PW.pt (cY (aV (aN (ao bq rfl G.isi (by decide +kernel) (aa (pv 0) (aa (bw (v:=.ty "tuple") rfl G.tuple (by decide +kernel) rfl) ab)))))
   (cA (az aZ (ao aA rfl G.len PySem.boot_len (aa (pv 0) ab)) ae (aE _))))) (ah (au cj)) ax)
  (ad (aw (i:=1) scHead.nd rfl (Or.inl rfl) (av aq (pv 0) ae (fun _ _=>rfl)))
  (ad (aK (aV (aN (ao bq rfl G.isi (by decide +kernel) (aa (pv 1) (aa (bw (v:=.ty "str") rfl G.str (by decide +kernel) rfl) ab))))) (ah (au cj)) ax)
  (ad (aK (az rJ (pv 1) (cg (v:=.ref aD) rfl mD rfl) (by with_unfolding_all rfl))
   (ah (au (bm aZ (ao aA rfl G.len PySem.boot_len (aa (pv 0) ab)) (aJ bi ae (tV (cg (v:=.ref aD) rfl mD rfl) (pv 1) (fun _ _=>rfl))) (aE _)))) ax)
  (ad (aK (az aZ (pv 1) aG (aE _))
   (ah (au (ck (bm aZ (ao aA rfl G.len PySem.boot_len (aa (pv 0) ab)) ae (aE _))
    (cB (af GW hr rfl mW kW bW .nil al (aa (av aq (pv 0) ae (fun _ _=>rfl)) (aa (iL fA (cg (v:=.int 999999) rfl mN ⟨_,rfl⟩)) (aa (cg (v:=.int 999999) rfl mN ⟨_,rfl⟩) ab)))))))) ax)
  (ad (aK (az aZ (pv 1) aG (aE _))
   (ah (au (ck (bm aZ (ao aA rfl G.len PySem.boot_len (aa (pv 0) ab)) ae (aE _))
    (cB (af GX hr1 rfl mX kX bX .nil al (aa (av aq (pv 0) ae (fun _ _=>rfl)) ab)))))) ax)
  (ad (aK (az aZ (pv 1) aG (aE _))
   (ah (au (ck (bm aZ (ao aA rfl G.len PySem.boot_len (aa (pv 0) ab)) ae (aE _))
    (ck (af GW hr rfl mW kW bW .nil al (aa (av aq (pv 0) ae (fun _ _=>rfl)) (aa ae (aa (cg (v:=.int 2) rfl mP ⟨_,rfl⟩) ab))))
    (cB (af GX hr1 rfl mX kX bX .nil al (aa (av aq (pv 0) ae (fun _ _=>rfl)) ab))))))) ax)
  (ah (au cj)))))))),?_⟩
 have fin: ∀ b,cK H v=b->Q (.bl b) H:=fun b e=>by
  exact qb (q H (Same.refl H)) e
 refine ⟨_,rfl,v,"tuple",rfl,hS,by simp,_,rfl,?_⟩
 refine bo (fun c=>?_) (fun c=>?_)
 ·refine aY ?_
  refine fin false ?_
  have c':isV "tuple" H v=false:=by simpa using c
  cases v with
  | ref a=>
   rcases hS with ⟨ys,e⟩ | ⟨ys,e⟩ | ⟨ys,e⟩
   ·exact qv e
   ·simp only [isV,e]at c'
    simp at c'
   ·exact sP e
  | _=>rfl
 have c':isV "tuple" H v=true:=by
  cases h:isV "tuple" H v with
  | true=>rfl
  | false=>rw [h]at c;exact absurd rfl c
 obtain ⟨a,xs,rfl,ha⟩:=uu c'
 obtain ⟨hl,hx⟩:=hI a xs rfl ha
 have hH:cK H (.ref a)=cC xs:=gR ha
 refine ⟨_,rfl,a,xs,rfl,.inr (SqT.of ha),rfl,_,rfl,?_⟩
 cases xs with
 | nil=>exact aY (fin false (by rw [hH];rfl))
 | cons x0 r=>
  have c0: ¬ (decide (V.int (((x0::r).length:Nat):Int)=V.int 0))=true:=fun z=>by
   have:=of_decide_eq_true z
   injection this with this
   rw [List.length_cons]at this
   omega
  refine bo (fun z=>absurd z c0) (fun _=>?_)
  refine ⟨_,rfl,a,_,0,x0,rfl,rfl,SqT.of ha,aT,?_⟩
  refine ⟨_,rfl,x0,"str",rfl,hx x0 List.mem_cons_self,by simp,_,rfl,?_⟩
  refine bo (fun c1=>?_) (fun c1=>?_)
  ·refine fin false ?_
   rw [hH]
   cases x0 with
   | str k=>simp [isV]at c1
   | _=>rfl
  have c1':isV "str" H x0=true:=by
   cases h:isV "str" H x0 with
   | true=>rfl
   | false=>rw [h]at c1;exact absurd rfl c1
  obtain ⟨k,rfl⟩:=oS c1'
  have hlen: ∀ n:Nat,decide (V.int (((V.str k::r).length:Nat):Int)=V.int ((n+1:Nat):Int))=decide (r.length=n):=fun n=>by
   rw [n8,List.length_cons]
   by_cases h:r.length=n
   ·rw [decide_eq_true h,decide_eq_true (by omega)]
   ·rw [decide_eq_false h,decide_eq_false (by omega)]
  have hv:=sN k
  refine ⟨_,rfl,.inr k,aD,gf,rfl,rfl,D,_,rfl,?_⟩
  cases hk:cF k with
  | some n=>
   rw [hk]at hv
   refine bo (fun _=>?_) (fun c2=>?_)
   ·refine ⟨_,rfl,a,_,rfl,.inr (SqT.of ha),_,rfl,aD,gf,.inr k,_,rfl,rfl,D,hv,1,_,rfl,rfl,rfl,?_⟩
    refine fin _ ?_
    have e:=hlen n
    have e2:(1:Int) + (n:Int)=((n+1:Nat):Int):=by omega
    rw [hH]
    show cC (V.str k::r)=decide (V.int (((V.str k::r).length:Nat):Int)=V.int (1+ (n:Int)))
    rw [e2,e]
    simp only [cC,hk]
   ·rw [hv]at c2
    exact absurd rfl c2
  | none=>
   rw [hk]at hv
   refine bo (fun c2=>?_) (fun _=>?_)
   ·rw [hv]at c2
    exact absurd c2 (by decide)
   have hh:cC (V.str k::r)=(if k="num" then pU (cG (-999999) 999999) r
     else if k="own" then pU cX r
     else if k="part" then uN (fun x y=>cG 0 2 x&&cX y) r else false):=by
    simp only [cC,hk]
   refine ⟨_,rfl,rfl,_,rfl,?_⟩
   refine bo (fun c3=>?_) (fun c3=>?_)
   ·have ek:k="num":=by have:=of_decide_eq_true c3;injection this
    rw [if_pos ek]at hh
    refine ⟨_,rfl,a,_,rfl,.inr (SqT.of ha),rfl,_,rfl,?_⟩
    refine bo (fun c4=>?_) (fun c4=>?_)
    ·have e4:r.length=1:=of_decide_eq_true ((hlen 1).symm.trans c4)
     obtain ⟨x1,rfl⟩: ∃ x1,r=[x1]:=List.length_eq_one_iff.mp e4
     refine ⟨_,rfl,a,_,1,x1,rfl,rfl,SqT.of ha,uA,999999,rfl,x1,-999999,999999,rfl,hx x1 (by simp),?_⟩
     exact fin _ (by rw [hH,hh];rfl)
    ·refine fin false ?_
     rw [hH,hh]
     exact oI fun e1=>c4 ((hlen 1).trans (decide_eq_true e1))
   have nk: ¬ k="num":=fun e=>c3 (decide_eq_true (by rw [e]))
   rw [if_neg nk]at hh
   refine ⟨_,rfl,rfl,_,rfl,?_⟩
   refine bo (fun c3=>?_) (fun c3=>?_)
   ·have ek:k="own":=by have:=of_decide_eq_true c3;injection this
    rw [if_pos ek]at hh
    refine ⟨_,rfl,a,_,rfl,.inr (SqT.of ha),rfl,_,rfl,?_⟩
    refine bo (fun c4=>?_) (fun c4=>?_)
    ·have e4:r.length=1:=of_decide_eq_true ((hlen 1).symm.trans c4)
     obtain ⟨x1,rfl⟩: ∃ x1,r=[x1]:=List.length_eq_one_iff.mp e4
     refine ⟨_,rfl,a,_,1,x1,rfl,rfl,SqT.of ha,uA,x1,rfl,hx x1 (by simp),fun H' sm=>?_⟩
     have e:cK H (.ref a)=cX x1:=by rw [hH,hh];rfl
     exact qb (q H' sm) e
    ·refine fin false ?_
     rw [hH,hh]
     exact oI fun e1=>c4 ((hlen 1).trans (decide_eq_true e1))
   have nk2: ¬ k="own":=fun e=>c3 (decide_eq_true (by rw [e]))
   rw [if_neg nk2]at hh
   refine ⟨_,rfl,rfl,_,rfl,?_⟩
   refine bo (fun c3=>?_) (fun c3=>?_)
   ·have ek:k="part":=by have:=of_decide_eq_true c3;injection this
    rw [if_pos ek]at hh
    refine ⟨_,rfl,a,_,rfl,.inr (SqT.of ha),rfl,_,rfl,?_⟩
    refine bo (fun c4=>?_) (fun c4=>?_)
    ·have e4:r.length=2:=of_decide_eq_true ((hlen 2).symm.trans c4)
     obtain ⟨x1,x2,rfl⟩: ∃ x1 x2,r=[x1,x2]:=by
      match r,e4 with
      | [x1,x2],_=>exact ⟨x1,x2,rfl⟩
     refine ⟨_,rfl,a,_,1,x1,rfl,rfl,SqT.of ha,uA,x1,0,2,rfl,hx x1 (by simp),_,rfl,?_⟩
     refine bo (fun c5=>?_) (fun c5=>?_)
     ·refine ⟨_,rfl,a,_,2,x2,rfl,rfl,SqT.of ha,wF,x2,rfl,hx x2 (by simp),fun H' sm=>?_⟩
      have e:cK H (.ref a)=cX x2:=by rw [hH,hh];show (cG 0 2 x1&&cX x2)=_;rw [c5,Bool.true_and]
      exact qb (q H' sm) e
     ·refine fin false ?_
      rw [hH,hh]
      show (cG 0 2 x1&&cX x2)=_
      rw [Bool.eq_false_iff.mpr c5,Bool.false_and]
    ·refine fin false ?_
     rw [hH,hh]
     exact tt fun e1=>c4 ((hlen 2).trans (decide_eq_true e1))
   have nk3: ¬ k="part":=fun e=>c3 (decide_eq_true (by rw [e]))
   rw [if_neg nk3]at hh
   exact fin false (by rw [hH,hh])
inductive Bad (H:Hp):V->Prop where
 | sc {v:V}:Ask H v->cK H v=false->Bad H v
 | inn {a:Addr} {k:Str} {pre post:List V} {u:V}:H a=some (.tup (.str k::(pre++u::post)))->k.length<=1000->cF k=some (pre++u::post).length->(∀ x∈pre++post,∃ f,Rep H f x/\f.wf)->Bad H u->Bad H (.ref a)
inductive Fs (H:Hp):List V->Nat->Prop where
 | nil:Fs H [] 0
 | cons {v:V} {f:Fm} {vs:List V} {n:Nat}:Rep H f v->f.wf->Fs H vs n->Fs H (v::vs) (f.size+n)
theorem Fs.append {H:Hp} {xs ys:List V} {m n:Nat} (a:Fs H xs m) (b:Fs H ys n):Fs H (xs++ys) (m+n):=by
 induction a with
 | nil=>rw [Nat.zero_add];exact b
 | cons r w _ ih=>rw [Nat.add_assoc];exact .cons r w ih
theorem Fs.split {H:Hp}: ∀ {xs ys:List V} {n:Nat},Fs H (xs++ys) n-> ∃ a b,Fs H xs a/\Fs H ys b/\n=a+b
 | [],ys,n,h=>⟨0,n,.nil,h,by omega⟩
 | x::r,ys,n,h=>by
  cases h with
  | cons rp wf t=>
   obtain ⟨a,b,h1,h2,e⟩:=Fs.split t
   exact ⟨_,b,.cons rp wf h1,h2,by omega⟩
theorem Fs.mem {H:Hp} {xs:List V} {n:Nat} (h:Fs H xs n): ∀ x∈xs,∃ f,Rep H f x/\f.wf:=by
 induction h with
 | nil=>intro x hx;cases hx
 | cons r w _ ih=>
  intro x hx
  rcases List.mem_cons.mp hx with e | e
  ·subst e;exact ⟨_,r,w⟩
  ·exact ih x e
theorem fi {k:Str} (h:k∈ops):k.length<=1000:=by
 unfold ops at h
 simp only [List.mem_cons,List.not_mem_nil,or_false]at h
 rcases h with rfl | rfl | rfl | rfl | rfl <;> decide +kernel
theorem eP {H:Hp}: ∀ {f:Fm} {v:V},Rep H f v->Sh H v
 | .num _,_,⟨a,e,h⟩=>by subst e;exact .inr (.inl ⟨_,h⟩)
 | .own _,_,⟨a,e,h⟩=>by subst e;exact .inr (.inl ⟨_,h⟩)
 | .part _ _,_,⟨a,e,h⟩=>by subst e;exact .inr (.inl ⟨_,h⟩)
 | .bin _ _ _,_,⟨a,u,w,e,h,_⟩=>by subst e;exact .inr (.inl ⟨_,h⟩)
 | .whn _ _ _,_,⟨a,u,w,z,e,h,_⟩=>by subst e;exact .inr (.inl ⟨_,h⟩)
theorem a7 {x:Str} (h:a5 x=true):x.length<=1000:=by
 unfold a5 at h
 simp only [Bool.and_eq_true,decide_eq_true_eq]at h
 omega
theorem dR {op:Str} (h:op∈ops):cF op=some 2:=by unfold cF;rw [if_pos h]
theorem dr:cF "when"=some 3:=by decide +kernel
theorem dS:cF "num"=none:=by decide +kernel
theorem df:cF "own"=none:=by decide +kernel
theorem cP:cF "part"=none:=by decide +kernel
theorem kb {H:Hp} {f:Fm} {v:V} (r:Rep H f v) (wf:f.wf): ∃ a k xs n,v=.ref a/\H a=some (.tup (.str k::xs))/\xs.length<=3/\k.length<=1000/\(∀ x∈xs,Sh H x)/\cC (.str k::xs)=true/\Fs H (aP (.str k::xs)) n/\f.size=n+1:=by
 cases f with
 | num n=>
  obtain ⟨a,rfl,h⟩:=r
  refine ⟨a,_,_,0,rfl,h,by simp,by decide +kernel,by simp [Sh],?_,?_,rfl⟩
  ·simp only [cC,dS,if_true,pU,cG]
   have w1: -999999<=n/\n<=999999:=wf
   rw [decide_eq_true w1.1,decide_eq_true w1.2]
   rfl
  ·simp only [aP,dS]
   exact .nil
 | own x=>
  obtain ⟨a,rfl,h⟩:=r
  have w1:a5 x=true:=wf
  refine ⟨a,_,_,0,rfl,h,by simp,by decide +kernel,by simpa [Sh]using a7 w1,?_,?_,rfl⟩
  ·simp only [cC,df]
   rw [if_neg (by decide +kernel),if_pos True.intro]
   exact w1
  ·simp only [aP,df]
   exact .nil
 | part k x=>
  obtain ⟨a,rfl,h⟩:=r
  obtain ⟨w0,w1⟩:(0<=k/\k<=2)/\a5 x=true:=wf
  refine ⟨a,_,_,0,rfl,h,by simp,by decide +kernel,by simpa [Sh]using a7 w1,?_,?_,rfl⟩
  ·simp only [cC,cP]
   rw [if_neg (by decide +kernel),if_neg (by decide +kernel),if_pos True.intro]
   show (decide (0<=k)&&decide (k<=2)&&a5 x)=true
   rw [w1,decide_eq_true w0.1,decide_eq_true w0.2]
   rfl
  ·simp only [aP,cP]
   exact .nil
 | bin op A B=>
  obtain ⟨a,u,w,rfl,h,r1,r2⟩:=r
  obtain ⟨ho,w1,w2⟩:op∈ops/\A.wf/\B.wf:=wf
  refine ⟨a,_,_,A.size+ (B.size+0),rfl,h,by simp,fi ho,?_,?_,?_,by show A.size+B.size+1=_;omega⟩
  ·intro x hx
   simp only [List.mem_cons,List.not_mem_nil,or_false]at hx
   rcases hx with rfl | rfl
   ·exact eP r1
   ·exact eP r2
  ·simp only [cC,dR ho]
   rfl
  ·simp only [aP,dR ho]
   exact .cons r1 w1 (.cons r2 w2 .nil)
 | whn A B C=>
  obtain ⟨a,u,w,z,rfl,h,r1,r2,r3⟩:=r
  obtain ⟨w1,w2,w3⟩:A.wf/\B.wf/\C.wf:=wf
  refine ⟨a,_,_,A.size+ (B.size+ (C.size+0)),rfl,h,by simp,by decide +kernel,?_,?_,?_,by show A.size+B.size+C.size+1=_;omega⟩
  ·intro x hx
   simp only [List.mem_cons,List.not_mem_nil,or_false]at hx
   rcases hx with rfl | rfl | rfl
   ·exact eP r1
   ·exact eP r2
   ·exact eP r3
  ·simp only [cC,dr]
   rfl
  ·simp only [aP,dr]
   exact .cons r1 w1 (.cons r2 w2 (.cons r3 w3 .nil))
theorem ke {H:Hp} {f:Fm} {v:V} (r:Rep H f v) (wf:f.wf):Ask H v/\cK H v=true:=by
 obtain ⟨a,k,xs,n,rfl,h,hl,hk,hs,hh,_,_⟩:=kb r wf
 refine ⟨⟨eP r,fun b ys e h'=>?_⟩,by rw [gR h];exact hh⟩
 cases e
 rw [h]at h'
 cases h'
 refine ⟨by rw [List.length_cons];omega,fun x hx=>?_⟩
 rcases List.mem_cons.mp hx with e | e
 ·subst e;exact hk
 ·exact hs x e
theorem vy {H:Hp} {v:V} (b:Bad H v):Sh H v:=by
 cases b with
 | sc a _=>exact a.1
 | inn h _ _ _ _=>exact .inr (.inl ⟨_,h⟩)
noncomputable def Res (H:Hp) (ws:List V) (n:Nat):Bool->Prop
 | true=> ∃ t,Fs H ws t/\t+n<=15
 | false=>(∃ t,Fs H ws t/\15<t+n)\/ ∃ pre u post,ws=pre++u::post/\(∀ x∈pre++post,∃ f,Rep H f x/\f.wf)/\Bad H u
theorem tK {H:Hp} {n:Nat} {b:Bool} (hn:n<=15) (h:Res H [] n b):b=true:=by
 cases b with
 | true=>rfl
 | false=>
  rcases h with ⟨t,f,e⟩ | ⟨pre,u,post,e,_⟩
  ·cases f;omega
  ·cases pre <;> cases e
theorem rn {H:Hp} {ws:List V} {x:V} {b:Bool} (h:Res H (ws++[x]) 15 b):b=false:=by
 cases b with
 | false=>rfl
 | true=>
  obtain ⟨t,f,e⟩:=h
  obtain ⟨a,c,f1,f2,e2⟩:=f.split
  cases f2 with
  | cons r w f3=>
   have:=Fm.size_pos (by assumption)
   omega
theorem rm {H:Hp} {ws:List V} {x:V} {n:Nat} {b:Bool} (hn:n<15) (h:Res H (ws++[x]) n b):
  Ask H x/\((cK H x=false/\b=false)\/(cK H x=true/\ ∃ a k r,x=.ref a/\H a=some (.tup (.str k::r))/\r.length<=3/\Res H (ws++aP (.str k::r)) (n+1) b)):=by
 have good: ∀ {t:Nat},Fs H (ws++[x]) t-> ∃ f m,Rep H f x/\f.wf/\Fs H ws m/\t=m+f.size:=fun f=>by
  obtain ⟨a,c,f1,f2,e2⟩:=f.split
  cases f2 with
  | cons r w f3=>
   cases f3
   exact ⟨_,a,r,w,f1,by omega⟩
 have step: ∀ {f:Fm} {m:Nat},Rep H f x->f.wf->Fs H ws m-> ∃ a k r,x=.ref a/\H a=some (.tup (.str k::r))/\r.length<=3/\Fs H (ws++aP (.str k::r)) (m+ (f.size-1)):=fun rp wf fm=>by
  obtain ⟨a,k,xs,q,e,h1,hl,hk,hs,hh,hi,sz⟩:=kb rp wf
  refine ⟨a,k,xs,e,h1,hl,?_⟩
  rw [sz]
  exact fm.append hi
 cases b with
 | true=>
  obtain ⟨t,f,e⟩:=h
  obtain ⟨fm,m,rp,wf,fw,et⟩:=good f
  obtain ⟨ak,hv⟩:=ke rp wf
  obtain ⟨a,k,r,ex,ha,hl,hf⟩:=step rp wf fw
  have:=fm.size_pos
  exact ⟨ak,.inr ⟨hv,a,k,r,ex,ha,hl,_,hf,by omega⟩⟩
 | false=>
  rcases h with ⟨t,f,e⟩ | ⟨pre,u,post,e,hpp,bu⟩
  ·obtain ⟨fm,m,rp,wf,fw,et⟩:=good f
   obtain ⟨ak,hv⟩:=ke rp wf
   obtain ⟨a,k,r,ex,ha,hl,hf⟩:=step rp wf fw
   have:=fm.size_pos
   exact ⟨ak,.inr ⟨hv,a,k,r,ex,ha,hl,.inl ⟨_,hf,by omega⟩⟩⟩
  ·rcases List.eq_nil_or_concat post with hp | ⟨post',y,hp⟩
   ·-- the spoilt one itself
    subst hp
    have ee:ws++[x]=pre++[u]:=e
    obtain ⟨e1,e2⟩:=List.append_inj' ee rfl
    cases e2
    subst e1
    cases bu with
    | sc ak hv=>exact ⟨ak,.inl ⟨hv,rfl⟩⟩
    | @inn a k p2 q2 u2 h1 hk hi hpq b2=>
     have hh:cC (.str k::(p2++u2::q2))=true:=by simp only [cC,hi];simp
     have hlen:(p2++u2::q2).length<=3:=by
      unfold cF at hi
      split at hi
      ·injection hi with hi;omega
      ·split at hi
       ·injection hi with hi;omega
       ·cases hi
     refine ⟨⟨.inr (.inl ⟨_,h1⟩),fun b ys eb h'=>?_⟩,.inr ⟨by rw [gR h1];exact hh,a,k,_,rfl,h1,hlen,.inr ⟨ws++p2,u2,q2,?_,?_,b2⟩⟩⟩
     ·cases eb
      rw [h1]at h'
      cases h'
      refine ⟨by rw [List.length_cons];omega,fun z hz=>?_⟩
      rcases List.mem_cons.mp hz with q | q
      ·subst q;exact hk
      ·rcases List.mem_append.mp q with q | q
       ·obtain ⟨f,rp,_⟩:=hpq z (List.mem_append_left _ q)
        exact eP rp
       ·rcases List.mem_cons.mp q with q | q
        ·subst q;exact vy b2
        ·obtain ⟨f,rp,_⟩:=hpq z (List.mem_append_right _ q)
         exact eP rp
     ·show ws++aP (.str k::(p2++u2::q2))=_
      simp only [aP,hi,Option.isSome_some,if_true]
      rw [List.append_assoc]
     ·intro z hz
      rcases List.mem_append.mp hz with q | q
      ·rcases List.mem_append.mp q with q | q
       ·exact hpp z (List.mem_append_left _ q)
       ·exact hpq z (List.mem_append_left _ q)
      ·exact hpq z (List.mem_append_right _ q)
   ·-- a formula behind it
    rw [List.concat_eq_append]at hp
    subst hp
    have ee:ws++[x]=(pre++u::post')++[y]:=by rw [e];simp
    obtain ⟨e1,e2⟩:=List.append_inj' ee rfl
    cases e2
    obtain ⟨fm,rp,wf⟩:=hpp x (by simp)
    obtain ⟨ak,hv⟩:=ke rp wf
    obtain ⟨a,k,xs,q,ex,h1,hl,hk,hs,hh,hi,sz⟩:=kb rp wf
    refine ⟨ak,.inr ⟨hv,a,k,xs,ex,h1,hl,.inr ⟨pre,u,post'++aP (.str k::xs),by rw [e1];simp,?_,bu⟩⟩⟩
    intro z hz
    rcases List.mem_append.mp hz with q | q
    ·exact hpp z (List.mem_append_left _ q)
    ·rcases List.mem_append.mp q with q | q
     ·exact hpp z (List.mem_append_right _ (List.mem_append_left _ q))
     ·exact hi.mem z q
theorem pM {H H':Hp} {v:V} (sm:Same H H') (a:Ask H v):Ask H' v/\cK H' v=cK H v:=by
 have sh: ∀ {x:V},Sh H x->Sh H' x:=fun {x} h=>by
  cases x with
  | ref b=>
   rcases h with ⟨ys,e⟩ | ⟨ys,e⟩ | ⟨ys,e⟩
   ·exact .inl ⟨_,sm _ _ e⟩
   ·exact .inr (.inl ⟨_,sm _ _ e⟩)
   ·exact .inr (.inr ⟨_,sm _ _ e⟩)
  | _=>exact h
 cases v with
 | ref b=>
  obtain ⟨o,eo⟩: ∃ o,H b=some o:=by rcases a.1 with ⟨ys,e⟩ | ⟨ys,e⟩ | ⟨ys,e⟩ <;> exact ⟨_,e⟩
  refine ⟨⟨sh a.1,fun c ys ec h'=>?_⟩,by simp only [cK,sm _ _ eo,eo]⟩
  cases ec
  have h2:H b=some (.tup ys):=by rw [sm _ _ eo]at h';rw [eo];exact h'
  obtain ⟨h3,h4⟩:=a.2 b ys rfl h2
  exact ⟨h3,fun x hx=>sh (h4 x hx)⟩
 | _=>exact ⟨⟨sh a.1,fun c ys ec=>by cases ec⟩,rfl⟩
noncomputable def qS:Sp:=fun vs H Q _=> ∃ v b,vs=[v]/\Res H [v] 0 b/\ ∀ H',Same H H'->Q (.bl b) H'
theorem scForm:ay ["thing","waiting","seen","one"] ["thing"] (ag rh):=fsc
theorem uh (F:Fun K "is_formula" "is_formula" rh f fd) {tT:Tok} (mT:mg "MOST_TUPLES"=some (.int 15 tT))
  (GH:FnOk P w K mg base CX0 3 g gd ["thing"] qR) (bH:Binds K gd ["thing"] []) (kH:PySem.W.keepIn K (.ref g)=true) (mH:mg "is_head"=some (.ref g))
  (GI:FnOk P w K mg base CX0 1 f2 fd2 ["formula"] jM) (bI:Binds K fd2 ["formula"] []) (kI:PySem.W.keepIn K (.ref f2)=true) (mI:mg "inner_of"=some (.ref f2)):
  FnOk P w K mg base CX0 4 f fd ["thing"] qS:=by
 refine F.ok scForm (fun vs H Q E h=>?_) (fun cdv A outer s H vs Q E hr h=>?_)
 ·obtain ⟨v,b,rfl,_⟩:=h
  rfl
 obtain ⟨v,b,rfl,hR,q⟩:=h
 have hr1:=hr.mono (show 1<=3 by decide)
 refine ⟨_,ad (aw (i:=1) scForm.nd rfl (Or.inl rfl) (bd (aa (pv 0) ab)))
  (ad (aw (i:=2) scForm.nd rfl (Or.inl rfl) ae)
  (ad (fV PassesOwn.never (lH (pv 1) (fun _=>rfl))
   (ad (aw (i:=3) scForm.nd rfl (Or.inl rfl) (nC PySem.F.plainAttrs_list PySem.F.slot_list_pop PySem.F.type_list_pop nT (pv 1)))
   (ad (aK (PW.pt (cY (az aZ (pv 2) (cg (v:=.int 15) rfl mT ⟨_,rfl⟩) (aE _)) (cA (aV (aN (af GH hr rfl mH kH bH .nil al (aa (pv 3) ab))))))) (ah (au cj)) ax)
   (ad (uZ (i:=2) scForm.nd rfl (Or.inl rfl) ae vp)
   (ah (cy (eA PySem.F.plainAttrs_list PySem.F.slot_list_extend PySem.F.type_list_extend ku (pv 1) (aa (af GI hr1 rfl mI kI bI .nil al (aa (pv 3) ab)) ab))))))))
  (ah (au cj)))),?_⟩
 refine ⟨_,rfl,(by show 1<=sizeLine;decide),fun l hl=>?_⟩
 dsimp only [qK,jK,dH,tC]
 refine kJ (fun σ H'=> ∃ (ws:List V) (n:Nat) (o:Option V),σ=[some v,some (.ref l),some (.int n),o]/\H' l=some (.lst ws)/\Same H H'/\n<=15/\ws.length<=1+3*n/\Res H ws n b)
  (fun σ _=>match σ with | [_,_,some (.int n),_]=>15-n.toNat | _=>0) ⟨[v],0,none,rfl,ac,ai hl _,Nat.zero_le _,by simp,hR⟩ ?_ ?_
 ·rintro σ H' ⟨ws,n,o,rfl,hw,sm,hn,hlen,hR⟩
  refine ⟨_,rfl,_,.inl ⟨ws,SqL.of hw,rfl⟩,?_⟩
  rcases List.eq_nil_or_concat ws with hz | ⟨ws',x,hz⟩
  ·subst hz
   refine aH ?_
   have eb:=tK hn hR
   subst eb
   exact q H' sm
  ·rw [List.concat_eq_append]at hz
   subst hz
   have ne:(!(ws'++[x]).isEmpty)=true:=by cases ws' <;> rfl
   refine bo (fun _=>?_) (fun c=>absurd ne c)
   refine ⟨_,rfl,.inl ⟨rfl,_,SqL.of hw⟩,l,_,x,rfl,rfl,hw,by simp,?_⟩
   rw [List.dropLast_concat]
   have lne: ∀ {c:Addr} {oo:HO},H c=some oo->c≠l:=fun h=>aj h hl
   have sm1:Same H (upd H' l (.lst ws')):=fun c oo h=>by rw [am (lne h)];exact sm c oo h
   refine ⟨_,rfl,rfl,_,rfl,?_⟩
   refine bo (fun c=>?_) (fun c=>?_)
   ·-- fifteen were seen
    refine aY ?_
    have e15:n=15:=by have:=of_decide_eq_true c;injection this with this;omega
    subst e15
    have eb:=rn hR
    subst eb
    exact q _ sm1
   ·have hn':n<15:=by
     rcases Nat.lt_or_ge n 15 with z | z
     ·exact z
     ·have:n=15:=by omega
      subst this
      exact absurd (decide_eq_true rfl) c
    obtain ⟨ak,alt⟩:=rm hn' hR
    obtain ⟨ak1,hv1⟩:=pM sm1 ak
    refine ⟨_,rfl,x,rfl,ak1,fun H2 sm2=>⟨_,rfl,?_⟩⟩
    rw [hv1]
    rcases alt with ⟨hv,eb⟩ | ⟨hv,a,k,r,ex,ha,hl3,hR'⟩
    ·rw [hv]
     refine aY ?_
     subst eb
     exact q _ (sm1.trans sm2)
    ·rw [hv]
     refine aH ?_
     subst ex
     have sm3:=sm1.trans sm2
     refine ⟨_,rfl,_,1,rfl,rfl,?_⟩
     have hl2:H2 l=some (.lst ws'):=sm2 _ _ ac
     refine ⟨_,rfl,.inl ⟨rfl,_,SqL.of hl2⟩,_,rfl,a,k,r,rfl,sm3 _ _ ha,by omega,fun p H3 sm4 hp=>?_⟩
     have hl3':H3 l=some (.lst ws'):=sm4 _ _ hl2
     have hil:(aP (.str k::r)).length<=3:=by
      show (if (cF k).isSome=true then r else []).length<=3
      split
      ·exact hl3
      ·exact Nat.zero_le _
     refine ⟨l,p,_,_,rfl,rfl,hl3',SqT.of hp,?_,?_⟩
     ·rw [List.length_append]at hlen
      exact Nat.le_of_lt (aF (by simp at hlen;omega))
     ·refine ⟨⟨ws'++aP (.str k::r),n+1,_,rfl,ac,fun c oo h=>?_,by omega,?_,hR'⟩,?_⟩
      ·rw [am (lne h)]
       exact sm4 _ _ (sm3 c oo h)
      ·simp at hlen
       rw [List.length_append]
       omega
      ·show 15- ((n:Int) +1).toNat<15- ((n:Int)).toNat
       omega
 ·rintro σ H' Q1 Q2 hq ⟨y,e1,k,t,h⟩
  exact ⟨y,e1,k,t,hq _ _ h⟩
inductive Ts (H:Hp):List V->List V->Prop where
 | nil:Ts H [] []
 | cons {a:Addr} {k:Str} {r vs out:List V}:H a=some (.tup (.str k::r))->k.length<=1000->r.length<=3->Ts H (aP (.str k::r)++vs) out->Ts H (.ref a::vs) (.ref a::out)
theorem Ts.len {H:Hp} {ws out:List V} (h:Ts H ws out):ws.length<=out.length:=by
 induction h with
 | nil=>exact Nat.le_refl _
 | cons _ _ _ _ ih=>
  rw [List.length_append]at ih
  rw [List.length_cons,List.length_cons]
  omega
noncomputable def ir:Sp:=fun vs H Q _=> ∃ v out,vs=[v]/\Ts H [v] out/\out.length<=1000/\ ∀ p H',Same H H'->H' p=some (.lst out)->Q (.ref p) H'
theorem scTuples:ay ["formula","found","waiting","one"] ["formula"] (ag jT):=fsc
theorem pX (F:Fun K "tuples_of" "tuples_of" jT f fd)
  (GI:FnOk P w K mg base CX0 1 f2 fd2 ["formula"] jM) (bI:Binds K fd2 ["formula"] []) (kI:PySem.W.keepIn K (.ref f2)=true) (mI:mg "inner_of"=some (.ref f2)):
  FnOk P w K mg base CX0 2 f fd ["formula"] ir:=by
 refine F.ok scTuples (fun vs H Q E h=>?_) (fun cdv A outer s H vs Q E hr h=>?_)
 ·obtain ⟨v,b,rfl,_⟩:=h
  rfl
 obtain ⟨v,out,rfl,hT,hout,q⟩:=h
 refine ⟨_,ad (aw (i:=1) scTuples.nd rfl (Or.inl rfl) (bd ab))
  (ad (aw (i:=2) scTuples.nd rfl (Or.inl rfl) (bd (aa (pv 0) ab)))
  (ad (fV PassesOwn.never (lH (pv 2) (fun _=>rfl))
   (ad (aw (i:=3) scTuples.nd rfl (Or.inl rfl) (nC PySem.F.plainAttrs_list PySem.F.slot_list_pop PySem.F.type_list_pop nT (pv 2)))
   (ad (cy (eA PySem.F.plainAttrs_list PySem.F.slot_list_append PySem.F.type_list_append cr (pv 1) (aa (pv 3) ab)))
   (ah (cy (eA PySem.F.plainAttrs_list PySem.F.slot_list_extend PySem.F.type_list_extend ku (pv 2) (aa (rH (af GI hr rfl mI kI bI .nil al (aa (pv 3) ab)) (iL fA ae)) ab)))))))
  (ah (au (pv 1))))),?_⟩
 refine ⟨(by show 0<=sizeLine;decide),fun p1 h1=>?_⟩
 refine ⟨_,rfl,(by show 1<=sizeLine;decide),fun p2 h2=>?_⟩
 dsimp only [qK,jK,dH,tC]
 have n21:p1≠p2:=fun e=>by
  subst e
  rw [ac]at h2
  cases h2
 have h2':H p2=none:=by rw [am (Ne.symm n21)]at h2;exact h2
 refine kJ (fun σ H'=> ∃ (ws done rest:List V) (o:Option V),σ=[some v,some (.ref p1),some (.ref p2),o]/\H' p1=some (.lst done)/\H' p2=some (.lst ws.reverse)/\Same H H'/\Ts H ws rest/\done++rest=out)
  (fun _ H'=>match H' p1 with | some (.lst d)=>out.length-d.length | _=>0) ⟨[v],[],out,none,rfl,by rw [am n21,ac],ac,(ai h1 _).trans (ai h2 _),hT,rfl⟩ ?_ ?_
 ·rintro σ H' ⟨ws,done,rest,o,rfl,g1,g2,sm,hW,he⟩
  refine ⟨_,rfl,_,.inl ⟨ws.reverse,SqL.of g2,rfl⟩,?_⟩
  have hle:done.length+rest.length=out.length:=by rw [<- he,List.length_append]
  cases hW with
  | nil=>
   refine aH ?_
   refine ⟨_,rfl,?_⟩
   rw [List.append_nil]at he
   subst he
   exact q _ _ sm g1
  | @cons a k r vs rest' ha hk hr3 ht=>
   have ne:(!((V.ref a::vs).reverse).isEmpty)=true:=by simp
   refine bo (fun _=>?_) (fun c=>absurd ne c)
   rw [List.reverse_cons]at g2
   refine ⟨_,rfl,.inl ⟨rfl,_,SqL.of g2⟩,p2,_,.ref a,rfl,rfl,g2,by simp,?_⟩
   rw [List.dropLast_concat]
   have l1: ∀ {c:Addr} {oo:HO},H c=some oo->c≠p1:=fun h=>aj h h1
   have l2: ∀ {c:Addr} {oo:HO},H c=some oo->c≠p2:=fun h=>aj h h2'
   rw [List.length_cons]at hle
   refine ⟨_,rfl,.inl ⟨rfl,_,SqL.of (show upd H' p2 (.lst vs.reverse) p1=some (.lst done) by rw [am n21];exact g1)⟩,_,rfl,p1,done,.ref a,rfl,rfl,by rw [am n21];exact g1,aF (by omega),?_⟩
   have sm1:Same H (upd (upd H' p2 (.lst vs.reverse)) p1 (.lst (done++[.ref a]))):=fun c oo h=>by rw [am (l1 h),am (l2 h)];exact sm c oo h
   have k2:upd (upd H' p2 (.lst vs.reverse)) p1 (.lst (done++[.ref a])) p2=some (.lst vs.reverse):=by rw [am (Ne.symm n21),ac]
   refine ⟨_,rfl,.inl ⟨rfl,_,SqL.of k2⟩,_,rfl,a,k,r,rfl,sm1 _ _ ha,by omega,fun p H3 sm4 hp=>?_⟩
   have k1':H3 p1=some (.lst (done++[.ref a])):=sm4 _ _ ac
   have k2':H3 p2=some (.lst vs.reverse):=sm4 _ _ k2
   have hil:(aP (.str k::r)).length<=3:=by
    show (if (cF k).isSome=true then r else []).length<=3
    split
    ·exact hr3
    ·exact Nat.zero_le _
   refine ⟨_,rfl,p,_,rfl,rfl,SqT.of hp,fun p4 h4=>?_⟩
   have n41:p1≠p4:=aj k1' h4
   have n42:p2≠p4:=aj k2' h4
   have hlv:=ht.len
   rw [List.length_append]at hlv
   refine ⟨p2,p4,_,_,rfl,rfl,by rw [am n42];exact k2',SqT.of ac,?_,?_⟩
   ·rw [List.length_reverse,List.length_reverse]
    exact Nat.le_of_lt (aF (by omega))
   ·refine ⟨⟨aP (.str k::r)++vs,done++[.ref a],rest',_,rfl,by rw [am n21,am n41];exact k1',by rw [ac,List.reverse_append],fun c oo h=>?_,ht,by rw [List.append_assoc];exact he⟩,?_⟩
    ·have h3:=sm4 _ _ (sm1 c oo h)
     rw [am (l2 h),am (aj h3 h4)]
     exact h3
    ·rw [am n21,am n41,k1',g1]
     show out.length- (done++[V.ref a]).length<out.length-done.length
     rw [List.length_append,List.length_singleton]
     omega
 ·rintro σ H' Q1 Q2 hq ⟨y,e1,k,t,h⟩
  exact ⟨y,e1,k,t,hq _ _ h⟩
noncomputable def RK (ks:List Key):Prop:=(∃ x:Str,ks=[.inr "own",.inr x]/\x.length<=1000)\/ ∃ (i:Int) (x:Str),ks=[.inr "part",.inl i,.inr x]/\x.length<=1000
inductive Tw (H:Hp):List V->List V->List (List Key)->Prop where
 | nil:Tw H [] [] []
 | rd {a:Addr} {ks:List Key} {vs out:List V} {rs:List (List Key)}:H a=some (.tup (ks.map kV))->RK ks->Tw H vs out rs->Tw H (.ref a::vs) (.ref a::out) (ks::rs)
 | num {a:Addr} {r vs out:List V} {rs:List (List Key)}:H a=some (.tup (.str "num"::r))->r.length<=3->Tw H vs out rs->Tw H (.ref a::vs) (.ref a::out) rs
 | inn {a:Addr} {k:Str} {r vs out:List V} {rs:List (List Key)}:H a=some (.tup (.str k::r))->(cF k).isSome=true->k.length<=1000->r.length<=3->Tw H (r++vs) out rs->Tw H (.ref a::vs) (.ref a::out) rs
theorem Tw.mono {H H':Hp} {ws out:List V} {rs:List (List Key)} (t:TK H H') (h:Tw H ws out rs):Tw H' ws out rs:=by
 induction h with
 | nil=>exact .nil
 | rd a b _ ih=>exact .rd (t _ _ a) b ih
 | num a b _ ih=>exact .num (t _ _ a) b ih
 | inn a b c d _ ih=>exact .inn (t _ _ a) b c d ih
theorem Tw.len {H:Hp} {ws out:List V} {rs:List (List Key)} (h:Tw H ws out rs):ws.length<=out.length:=by
 induction h with
 | nil=>exact Nat.le_refl _
 | rd _ _ _ ih=>exact Nat.succ_le_succ ih
 | num _ _ _ ih=>exact Nat.succ_le_succ ih
 | inn _ _ _ _ _ ih=>
  rw [List.length_append]at ih
  rw [List.length_cons,List.length_cons]
  omega
theorem ka {ks:List Key} (h:RK ks): ∃ (k:Str) (r:List V),ks.map kV=.str k::r/\(k="own"\/k="part")/\r.length<=3/\cF k=none:=by
 rcases h with ⟨x,rfl,_⟩ | ⟨i,x,rfl,_⟩
 ·exact ⟨"own",_,rfl,.inl rfl,by simp,df⟩
 ·exact ⟨"part",_,rfl,.inr rfl,by simp,cP⟩
theorem Tw.ts {H:Hp} {ws out:List V} {rs:List (List Key)} (h:Tw H ws out rs):Ts H ws out:=by
 induction h with
 | nil=>exact .nil
 | @rd a ks vs out rs ha hk t ih=>
  obtain ⟨k,r,e,hk2,hl,hi⟩:=ka hk
  rw [e]at ha
  refine .cons ha ?_ hl ?_
  ·rcases hk2 with rfl | rfl <;> decide +kernel
  ·have:aP (.str k::r)=[]:=by simp only [aP,hi];rfl
   rw [this]
   exact ih
 | @num a r vs out rs ha hl t ih=>
  refine .cons ha (by decide +kernel) hl ?_
  have:aP (.str "num"::r)=[]:=by simp only [aP,dS];rfl
  rw [this]
  exact ih
 | @inn a k r vs out rs ha hi hk hl t ih=>
  refine .cons ha hk hl ?_
  have:aP (.str k::r)=r:=by simp only [aP,hi];rfl
  rw [this]
  exact ih
theorem Tw.rk {H:Hp} {ws out:List V} {rs:List (List Key)} (h:Tw H ws out rs): ∀ ks∈rs,RK ks:=by
 induction h with
 | nil=>intro ks hk;cases hk
 | rd _ b _ ih=>
  intro ks hk
  rcases List.mem_cons.mp hk with e | e
  ·rw [e];exact b
  ·exact ih ks e
 | num _ _ _ ih=>exact ih
 | inn _ _ _ _ _ ih=>exact ih
inductive Tr (H:Hp):List V->List (List Key)->Prop where
 | nil:Tr H [] []
 | rd {a:Addr} {ks:List Key} {out:List V} {rs:List (List Key)}:H a=some (.tup (ks.map kV))->RK ks->Tr H out rs->Tr H (.ref a::out) (ks::rs)
 | no {a:Addr} {k:Str} {r out:List V} {rs:List (List Key)}:H a=some (.tup (.str k::r))-> ¬ k="own"-> ¬ k="part"->Tr H out rs->Tr H (.ref a::out) rs
theorem Tw.tr {H:Hp} {ws out:List V} {rs:List (List Key)} (h:Tw H ws out rs):Tr H out rs:=by
 induction h with
 | nil=>exact .nil
 | rd a b _ ih=>exact .rd a b ih
 | num a _ _ ih=>exact .no a (by decide +kernel) (by decide +kernel) ih
 | @inn a k r vs out rs ha hi _ _ _ ih=>
  refine .no ha (fun e=>?_) (fun e=>?_) ih
  ·rw [e,df]at hi;cases hi
  ·rw [e,cP]at hi;cases hi
noncomputable def dd (acc:List (List Key)):List (List Key)->List (List Key)
 | []=>acc
 | k::r=>dd (if k∈acc then acc else acc++[k]) r
theorem fL {P:List Key->Prop}: ∀ {rs acc:List (List Key)},(∀ k∈acc,P k)->(∀ k∈rs,P k)-> ∀ k∈dd acc rs,P k
 | [],_,h,_=>h
 | x::r,acc,h,h2=>by
  refine fL (rs:=r) (fun k hk=>?_) fun k hk=>h2 k (List.mem_cons_of_mem _ hk)
  by_cases e:x∈acc
  ·rw [if_pos e]at hk;exact h k hk
  ·rw [if_neg e]at hk
   rcases List.mem_append.mp hk with z | z
   ·exact h k z
   ·rw [List.mem_singleton.mp z];exact h2 x List.mem_cons_self
theorem l6 (kvs:List (List Key×V)) (k:List Key) (v:V):(c7 kvs k v).map (·.1)=if k∈kvs.map (·.1)then kvs.map (·.1)else kvs.map (·.1)++[k]:=by
 unfold c7
 by_cases h:k∈kvs.map (·.1)
 ·rw [if_pos h,if_pos,List.map_map]
  ·refine List.map_congr_left fun x _=>?_
   show (if x.1=k then (x.1,v)else x).1=x.1
   split <;> rfl
  ·obtain ⟨x,hx,e⟩:=List.mem_map.mp h
   exact List.any_eq_true.mpr ⟨x,hx,decide_eq_true e⟩
 ·rw [if_neg h,if_neg,List.map_append]
  ·rfl
  ·intro z
   obtain ⟨x,hx,e⟩:=List.any_eq_true.mp z
   exact h (List.mem_map.mpr ⟨x,hx,of_decide_eq_true e⟩)
theorem hZ (k:Str):inV (.str k) [.str "own",.str "part"]=(decide (k="own")||decide (k="part")):=by
 show (("own"==k)||(("part"==k)||false))=_
 rw [Bool.or_false]
 by_cases h1:k="own"
 ·subst h1;decide +kernel
 ·by_cases h2:k="part"
  ·subst h2;decide +kernel
  ·rw [decide_eq_false h1,decide_eq_false h2]
   have e1:(("own":Str)==k)=false:=beq_eq_false_iff_ne.mpr fun e=>h1 e.symm
   have e2:(("part":Str)==k)=false:=beq_eq_false_iff_ne.mpr fun e=>h2 e.symm
   rw [e1,e2]
noncomputable def fP:Sp:=fun vs H Q _=> ∃ v out rs,vs=[v]/\Tw H [v] out rs/\out.length<=1000/\ ∀ p ys H',H p=none->Same H H'->H' p=some (.lst ys)->KsOf H' ys (dd [] rs)->Q (.ref p) H'
theorem scReads:ay ["formula","found","one"] ["formula"] (ag nj):=fsc
theorem rO (F:Fun K "readings_of" "readings_of" nj f fd) (hlist:mg "list"=none) (mR:mg "READINGS"=some (.ref aR)) (hR: ∀ H,SqT K H aR [.str "own",.str "part"])
  (GT:FnOk P w K mg base CX0 2 f2 fd2 ["formula"] ir) (bT:Binds K fd2 ["formula"] []) (kT:PySem.W.keepIn K (.ref f2)=true) (mT:mg "tuples_of"=some (.ref f2)):
  FnOk P w K mg base CX0 3 f fd ["formula"] fP:=by
 refine F.ok scReads (fun vs H Q E h=>?_) (fun cdv A outer s H vs Q E hr h=>?_)
 ·obtain ⟨v,b,_,rfl,_⟩:=h
  rfl
 obtain ⟨v,out,rs,rfl,hT,hout,q⟩:=h
 have hu:=hr.units
 refine ⟨_,ad (aw (i:=1) scReads.nd rfl (Or.inl rfl) iM)
  (ad (cf PassesOwn.never rfl (cS (af GT hr rfl mT kT bT .nil al (aa (pv 0) ab))) (aO (i:=2) scReads.nd rfl (Or.inl rfl))
   (ah (aK (az cN (av aq (pv 2) ae (fun _ _=>rfl)) (cg (v:=.ref aR) rfl mR rfl) (by with_unfolding_all rfl))
    (ah (kg (ma hr) (pv 1) (pv 2) cj rfl)) ax)))
  (ah (au (bG (og rfl) rfl hlist (by decide +kernel) (aa (pv 1) ab))))),?_⟩
 refine fun pd hd=>?_
 have s0:=ai hd (.dT [])
 have g0:(upd H pd (.dT [])) pd=some (.dT []):=ac
 generalize upd H pd (.dT [])=H0 at s0 g0 ⊢
 refine ⟨_,rfl,v,out,rfl,(hT.mono (fun _ _ h=>s0 _ _ h)).ts,hout,fun p1 H1 s1 h1=>⟨p1,rfl,⟨out,SqL.of h1⟩,?_⟩⟩
 have S1:=s0.trans s1
 have n1:pd≠p1:=fun e=>by
  subst e
  have:=s1 _ _ g0
  rw [h1]at this
  cases this
 refine mf (xs:=out) (fun i σ H'=>i<=out.length/\ ∃ o kvs rs',σ=[some v,some (.ref pd),o]/\H' pd=some (.dT kvs)/\H' p1=some (.lst out)/\Same H H'/\Tr H (out.drop i) rs'/\dd (kvs.map (·.1)) rs'=dd [] rs/\kvs.length<=i)
  ⟨Nat.zero_le _,none,[],rs,rfl,s1 _ _ g0,h1,S1,hT.tr,rfl,Nat.le_refl _⟩ (fun i σ H' _ h=>by obtain ⟨_,_,_,_,_,_,gp,_⟩:=h;exact SqL.of gp) ?_ ?_
 ·rintro i x σ H' hx ⟨hi,o,kvs,rs',rfl,gd,gp,sm,hTr,hdd,hl⟩
  have hlt:i<out.length:=(List.getElem?_eq_some_iff.mp hx).1
  have hdr:out.drop i=x::out.drop (i+1):=by
   rw [List.drop_eq_getElem_cons hlt]
   have:out[i]? =some out[i]:=List.getElem?_eq_getElem hlt
   rw [hx]at this
   rw [Option.some.inj this]
  rw [hdr]at hTr
  cases hTr with
  | @rd a ks _ rs'' ha hk t=>
   obtain ⟨k,r,e,hk2,_,_⟩:=ka hk
   have ha':=sm _ _ ha
   refine ⟨_,rfl,a,_,0,_,rfl,rfl,SqT.of (by rw [<- e];exact ha'),aT,aR,_,rfl,.inr (hR _),rfl,rfl,_,rfl,?_⟩
   refine bo (fun _=>?_) (fun c=>absurd ?_ c)
   ·refine ⟨_,rfl,_,rfl,pd,_,rfl,DPut.t gd ha' (aF (by omega)),?_⟩
    refine ⟨hlt,_,_,rs'',rfl,ac,by rw [am (Ne.symm n1)];exact gp,fun c oo h=>by rw [am (aj h hd)];exact sm c oo h,t,?_,?_⟩
    ·rw [l6];exact hdd
    ·have:=congrArg List.length (l6 kvs ks (.bl true))
     rw [List.length_map]at this
     rw [this]
     split
     ·rw [List.length_map];omega
     ·rw [List.length_append,List.length_map,List.length_singleton];omega
   ·show inV (.str k) [.str "own",.str "part"]=true
    rw [hZ]
    rcases hk2 with rfl | rfl <;> rfl
  | @no a k r _ _ ha h1' h2' t=>
   refine ⟨_,rfl,a,_,0,_,rfl,rfl,SqT.of (sm _ _ ha),aT,aR,_,rfl,.inr (hR _),rfl,rfl,_,rfl,?_⟩
   refine bo (fun c=>absurd c ?_) (fun _=>?_)
   ·show ¬ inV (.str k) [.str "own",.str "part"]=true
    rw [hZ,decide_eq_false h1',decide_eq_false h2']
    decide
   ·exact ⟨hlt,_,_,rs',rfl,gd,gp,sm,t,hdd,by omega⟩
 ·rintro σ H' ⟨_,o,kvs,rs',rfl,gd,gp,sm,hTr,hdd,hl⟩
  rw [List.drop_length]at hTr
  cases hTr
  refine ⟨_,rfl,pd,kvs,rfl,gd,fun p ys hp hk=>?_⟩
  have e:kvs.map (·.1)=dd [] rs:=hdd
  rw [e]at hk
  exact q p ys _ (sm.free hp) (fun c oo h=>by rw [am (aj (sm c oo h) hp)];exact sm c oo h) ac (hk.mono fun b xs h=>by rw [am (aj h hp)];exact h)
noncomputable def LR (H:Hp) (v:V) (p1:Addr) (rs:List (List Key)) (m:Nat) (σ:St) (H':Hp):Prop:= ∃ (pw:Addr) (ws done rest:List V) (dk rs':List (List Key)) (o:Option V),
 σ=[some v,some (.ref p1),some (.ref pw),o]/\p1≠pw/\H' p1=some (.lst done)/\H' pw=some (.lst ws)/\Same H H'/\Tw H ws rest rs'/\KsOf H' done dk/\dd dk rs'=dd [] rs/\done.length+rest.length<=1000/\m=rest.length
theorem scLReads:ay ["formula","found","waiting","one"] ["formula"] (ag jZ):=fsc
theorem dz (k x:Str):decide (V.str k=V.str x)=decide (k=x):=by
 by_cases h:k=x
 ·subst h;rw [decide_eq_true rfl,decide_eq_true rfl]
 ·rw [decide_eq_false h,decide_eq_false fun e=>h (V.str.inj e)]
theorem kz (x:V) (r:List V):dW (x::r) (some 1) none=r:=by
 have e1:HT.sIx (x::r).length 0 (some 1)=1:=by
  have:HT.sIx (x::r).length 0 (some 1)=min 1 (x::r).length:=HT.sIx_nat _ _ 1
  rw [this,List.length_cons]
  omega
 unfold dW
 rw [e1,HT.sIx_none,List.length_cons,List.drop_one,List.tail_cons,Nat.add_sub_cancel,List.take_length]
theorem de (x:V) (r:List V): ¬ (HT.sIx (x::r).length 0 (some 1)=0/\HT.sIx (x::r).length (x::r).length none=(x::r).length):=by
 rintro ⟨h1,_⟩
 have:HT.sIx (x::r).length 0 (some 1)=min 1 (x::r).length:=HT.sIx_nat _ _ 1
 rw [this,List.length_cons]at h1
 omega
theorem qf (F:Fun K "_law_reads" "_law_reads" jZ f fd) (hlist:mg "list"=none):FnOk P w K mg base CX0 1 f fd ["formula"] fP:=by
 refine F.ok scLReads (fun vs H Q E h=>?_) (fun cdv A outer s H vs Q E hr h=>?_)
 ·obtain ⟨v,b,_,rfl,_⟩:=h
  rfl
 obtain ⟨v,out,rs,rfl,hT,hout,q⟩:=h
 have hu:=hr.units
 refine ⟨_,ad (aw (i:=1) scLReads.nd rfl (Or.inl rfl) (bd ab))
  (ad (aw (i:=2) scLReads.nd rfl (Or.inl rfl) (bd (aa (pv 0) ab)))
  (ad (fV PassesOwn.never (az (jx hr.units0) (pv 2) (bd ab) (aE _))
   (ad (aw (i:=3) scLReads.nd rfl (Or.inl rfl) (av bn (pv 2) ae (fun _ _=>rfl)))
   (ad (aw (i:=2) scLReads.nd rfl (Or.inl rfl) (bh ic (pv 2) (bZ ae) ca))
   (ah (aK (PW.pt (cY (az aZ (av aq (pv 3) ae (fun _ _=>rfl)) aG (aE _)) (cA (az aZ (av aq (pv 3) ae (fun _ _=>rfl)) aG (aE _)))))
    (ah (aK (az (lM (Nat.lt_of_le_of_lt (Nat.add_le_add_left (show 1<=16 by decide) _) (ma hr))) (pv 3) (pv 1) (by with_unfolding_all rfl))
     (ah (cy (eA PySem.F.plainAttrs_list PySem.F.slot_list_append PySem.F.type_list_append cr (pv 1) (aa (pv 3) ab)))) ax))
    (ah (aK (az iS (av aq (pv 3) ae (fun _ _=>rfl)) aG (aE _))
     (ah (aw (i:=2) scLReads.nd rfl (Or.inl rfl) (aJ iU (bG el rfl hlist (by decide +kernel) (aa (bh gE (pv 3) (bZ ae) ca) ab)) (pv 2)))) ax)))))))
  (ah (au (pv 1))))),?_⟩
 refine ⟨(by show 0<=sizeLine;decide),fun p1 h1=>?_⟩
 refine ⟨_,rfl,(by show 1<=sizeLine;decide),fun p2 h2=>?_⟩
 dsimp only [qK,jK,dH,tC]
 have n21:p1≠p2:=fun e=>by
  subst e
  rw [ac]at h2
  cases h2
 have h2':H p2=none:=by rw [am (Ne.symm n21)]at h2;exact h2
 refine ⟨LR H v p1 rs,⟨_,p2,[v],[],out,[],rs,none,rfl,n21,by rw [am n21,ac],ac,(ai h1 _).trans (ai h2 _),hT,.nil,rfl,by simpa using hout,rfl⟩,?_⟩
 rintro m σ H' ⟨pw,ws,done,rest,dk,rs',o,rfl,n1w,g1,g2,sm,hW,hk,hdd,hl,rfl⟩
 refine ⟨_,rfl,(by show 0<=sizeLine;decide),fun p3 h3=>?_⟩
 have n13:p1≠p3:=aj g1 h3
 have nw3:pw≠p3:=aj g2 h3
 have sm3:=sm.trans (ai h3 (.lst []))
 have g1':(upd H' p3 (.lst [])) p1=some (.lst done):=by rw [am n13];exact g1
 have g2':(upd H' p3 (.lst [])) pw=some (.lst ws):=by rw [am nw3];exact g2
 have g3':(upd H' p3 (.lst [])) p3=some (.lst []):=ac
 have hk':KsOf (upd H' p3 (.lst [])) done dk:=hk.mono fun b xs h=>by rw [am (aj h h3)];exact h
 generalize upd H' p3 (.lst [])=H3 at sm3 g1' g2' g3' hk' ⊢
 refine ⟨pw,p3,ws,rfl,rfl,SqL.of g2',SqL.of g3',_,rfl,?_⟩
 cases ws with
 | nil=>
  refine aH ?_
  cases hW
  refine ⟨_,rfl,?_⟩
  have e:dk=dd [] rs:=hdd
  subst e
  exact q p1 done H3 h1 sm3 g1' hk'
 | cons x vs=>
  refine aY ⟨fun σ' H''=> ∃ m',m'<rest.length/\LR H v p1 rs m' σ' H'',fun σ' H'' h=>h,?_⟩
  refine ⟨_,rfl,pw,_,0,x,rfl,rfl,SqL.of g2',aT,?_⟩
  refine ⟨_,rfl,1,rfl,pw,_,rfl,SqL.of g2',fun p4 h4=>?_⟩
  rw [kz]
  have n14:p1≠p4:=aj g1' h4
  have sm4:=sm3.trans (ai h4 (.lst vs))
  have g1'':(upd H3 p4 (.lst vs)) p1=some (.lst done):=by rw [am n14];exact g1'
  have g4:(upd H3 p4 (.lst vs)) p4=some (.lst vs):=ac
  have hk'':KsOf (upd H3 p4 (.lst vs)) done dk:=hk'.mono fun b xs h=>by rw [am (aj h h4)];exact h
  generalize upd H3 p4 (.lst vs)=H4 at sm4 g1'' g4 hk'' ⊢
  cases hW with
  | @rd a ks _ rest' rs'' ha hrk t=>
   rw [List.length_cons]at hl ⊢
   obtain ⟨k,r,e,hk2,_,_⟩:=ka hrk
   have ha4:=sm4 _ _ ha
   have ha4':H4 a=some (.tup (.str k::r)):=by rw [<- e];exact ha4
   have ed:dd dk (ks::rs'')=dd (if ks∈dk then dk else dk++[ks]) rs'':=rfl
   rw [ed]at hdd
   have old:ks∈dk->LR H v p1 rs rest'.length [some v,some (.ref p1),some (.ref p4),some (.ref a)] H4:=fun hm=>by
    rw [if_pos hm]at hdd
    exact ⟨p4,vs,done,rest',dk,rs'',_,rfl,n14,g1'',g4,sm4,t,hk'',hdd,by omega,rfl⟩
   have new: ¬ ks∈dk->LR H v p1 rs rest'.length [some v,some (.ref p1),some (.ref p4),some (.ref a)] (upd H4 p1 (.lst (done++[.ref a]))):=fun hm=>by
    rw [if_neg hm]at hdd
    refine ⟨p4,vs,done++[.ref a],rest',dk++[ks],rs'',_,rfl,n14,ac,by rw [am (Ne.symm n14)];exact g4,fun c oo h=>by rw [am (aj h h1)];exact sm4 c oo h,t,?_,hdd,by rw [List.length_append,List.length_singleton];omega,rfl⟩
    refine Paired.snoc (hk''.mono fun b xs h=>?_) ⟨a,rfl,?_⟩
    ·rw [am (fun z=>by subst z;rw [g1'']at h;cases h)];exact h
    ·rw [am (fun z=>by subst z;rw [g1'']at ha4;cases ha4)];exact ha4
   have goal: ∀ {A' B':Hp->Prop},(∀ m',m'<rest'.length+1->LR H v p1 rs m' [some v,some (.ref p1),some (.ref p4),some (.ref a)] H4->B' H4)->(∀ m',m'<rest'.length+1->LR H v p1 rs m' [some v,some (.ref p1),some (.ref p4),some (.ref a)] (upd H4 p1 (.lst (done++[.ref a])))->A' H4)->
     if (if true=true then !decide (ks∈dk)else decide (ks∈dk))=true then A' H4 else B' H4:=fun hB hA=>by
    rw [if_pos rfl]
    by_cases hm:ks∈dk
    ·rw [decide_eq_true hm]
     exact aH (hB _ (Nat.lt_succ_self _) (old hm))
    ·rw [decide_eq_false hm]
     exact aY (hA _ (Nat.lt_succ_self _) (new hm))
   refine ⟨_,rfl,a,_,0,_,rfl,rfl,SqT.of ha4',aT,rfl,_,rfl,?_⟩
   rw [dz]
   rcases hk2 with rfl | rfl
   ·rw [decide_eq_true rfl]
    refine aY (aY ?_)
    refine ⟨_,rfl,_,rfl,a,p1,ks,done,dk,rfl,rfl,ha4,SqL.of g1'',hk'',_,rfl,?_⟩
    refine goal (fun m' h1 h2=>⟨m',h1,h2⟩) (fun m' h1 h2=>?_)
    exact ⟨_,rfl,.inl ⟨rfl,_,SqL.of g1''⟩,_,rfl,p1,done,.ref a,rfl,rfl,g1'',aF (by omega),m',h1,h2⟩
   ·rw [decide_eq_false (by decide +kernel)]
    refine aH ?_
    refine ⟨_,rfl,a,_,0,_,rfl,rfl,SqT.of ha4',aT,rfl,_,rfl,?_⟩
    rw [dz,decide_eq_true rfl]
    refine aY ?_
    refine ⟨_,rfl,_,rfl,a,p1,ks,done,dk,rfl,rfl,ha4,SqL.of g1'',hk'',_,rfl,?_⟩
    refine goal (fun m' h1 h2=>⟨m',h1,h2⟩) (fun m' h1 h2=>?_)
    exact ⟨_,rfl,.inl ⟨rfl,_,SqL.of g1''⟩,_,rfl,p1,done,.ref a,rfl,rfl,g1'',aF (by omega),m',h1,h2⟩
  | @num a r _ rest' _ ha _ t=>
   rw [List.length_cons]at hl ⊢
   have ha4:=sm4 _ _ ha
   refine ⟨_,rfl,a,_,0,_,rfl,rfl,SqT.of ha4,aT,rfl,_,rfl,?_⟩
   rw [dz,decide_eq_false (by decide +kernel)]
   refine aH ⟨_,rfl,a,_,0,_,rfl,rfl,SqT.of ha4,aT,rfl,_,rfl,?_⟩
   rw [dz,decide_eq_false (by decide +kernel)]
   refine aH ⟨_,rfl,a,_,0,_,rfl,rfl,SqT.of ha4,aT,rfl,_,rfl,?_⟩
   rw [dz,decide_eq_true rfl]
   refine aH ?_
   exact ⟨_,Nat.lt_succ_self _,p4,vs,done,rest',dk,rs',_,rfl,n14,g1'',g4,sm4,t,hk'',hdd,by omega,rfl⟩
  | @inn a k r _ rest' _ ha hi hk3 hr3 t=>
   rw [List.length_cons]at hl ⊢
   have ha4:=sm4 _ _ ha
   have k1: ¬ k="own":=fun e=>by rw [e,df]at hi;cases hi
   have k2: ¬ k="part":=fun e=>by rw [e,cP]at hi;cases hi
   have k3: ¬ k="num":=fun e=>by rw [e,dS]at hi;cases hi
   refine ⟨_,rfl,a,_,0,_,rfl,rfl,SqT.of ha4,aT,rfl,_,rfl,?_⟩
   rw [dz,decide_eq_false k1]
   refine aH ⟨_,rfl,a,_,0,_,rfl,rfl,SqT.of ha4,aT,rfl,_,rfl,?_⟩
   rw [dz,decide_eq_false k2]
   refine aH ⟨_,rfl,a,_,0,_,rfl,rfl,SqT.of ha4,aT,rfl,_,rfl,?_⟩
   rw [dz,decide_eq_false k3]
   refine aY ?_
   refine ⟨_,rfl,1,rfl,a,_,rfl,SqT.of ha4,de _ _,fun p5 h5=>?_⟩
   rw [kz]
   have s5:=ai h5 (.tup r)
   have g5:(upd H4 p5 (.tup r)) p5=some (.tup r):=ac
   have g15:=s5 _ _ g1''
   have g45:=s5 _ _ g4
   have hk5:KsOf (upd H4 p5 (.tup r)) done dk:=hk''.mono fun b xs h=>s5 _ _ h
   have sm5:=sm4.trans s5
   generalize upd H4 p5 (.tup r)=H5 at s5 g5 g15 g45 hk5 sm5 ⊢
   refine ⟨p5,r,rfl,.inr (SqT.of g5),fun p6 h6=>?_⟩
   have s6:=ai h6 (.lst r)
   have g6:(upd H5 p6 (.lst r)) p6=some (.lst r):=ac
   have g16:=s6 _ _ g15
   have g46:=s6 _ _ g45
   have hk6:KsOf (upd H5 p6 (.lst r)) done dk:=hk5.mono fun b xs h=>s6 _ _ h
   have sm6:=sm5.trans s6
   generalize upd H5 p6 (.lst r)=H6 at s6 g6 g16 g46 hk6 sm6 ⊢
   have hlen:=t.len
   rw [List.length_append]at hlen
   refine ⟨_,rfl,p6,p4,r,vs,rfl,rfl,g6,g46,Nat.le_of_lt (aF (by omega)),fun p7 h7=>?_⟩
   have s7:=ai h7 (.lst (r++vs))
   have n17:p1≠p7:=aj g16 h7
   exact ⟨_,Nat.lt_succ_self _,p7,r++vs,done,rest',dk,rs',_,rfl,n17,s7 _ _ g16,ac,sm6.trans s7,t,hk6.mono fun b xs h=>s7 _ _ h,hdd,by omega,rfl⟩
noncomputable def Kp (tp:Addr) (H H':Hp):Prop:= ∀ b o,H b=some o->b≠tp->H' b=some o
theorem Kp.refl {tp:Addr} {H:Hp}:Kp tp H H:=fun _ _ h _=>h
theorem Kp.trans {tp:Addr} {H H1 H2:Hp} (a:Kp tp H H1) (b:Kp tp H1 H2):Kp tp H H2:=fun c o h n=>b c o (a c o h n) n
theorem Kp.same {tp:Addr} {H H1 H2:Hp} (a:Kp tp H H1) (b:Same H1 H2):Kp tp H H2:=fun c o h n=>b c o (a c o h n)
theorem Kp.tape {tp:Addr} {H:Hp} {o:HO}:Kp tp H (upd H tp o):=fun b u h n=>by rw [am n];exact h
theorem Kp.new {tp p:Addr} {H H1:Hp} {o:HO} (a:Kp tp H H1) (h:H1 p=none):Kp tp H (upd H1 p o):=a.same (ai h _)
noncomputable def Tp (H:Hp) (tp:Addr):Prop:= ∃ t:Int,H tp=some (.lst [.int t])
theorem Kp.tk {tp:Addr} {H H':Hp} (a:Kp tp H H') (t:Tp H tp):TK H H':=fun b xs h=>a b _ h fun e=>by
 obtain ⟨t,ht⟩:=t
 subst e
 rw [ht]at h
 cases h
theorem Tp.new {H:Hp} {tp p:Addr} {o:HO} (t:Tp H tp) (h:H p=none):Tp (upd H p o) tp:=by
 obtain ⟨t,ht⟩:=t
 exact ⟨t,by rw [am (aj ht h)];exact ht⟩
noncomputable def qT (K:PySem.W.Frag):Sp:=fun vs H Q _=> ∃ (a:Addr) (ns:List Int) (k:Int),vs=[.ref a,.int k]/\SqL K H a (ns.map V.int)/\ns.length<=63/\0<=k/\ ∀ c:Int,Q (.int c) H
noncomputable def nc (K:PySem.W.Frag):Sp:=fun vs H Q _=> ∃ (a:Addr) (ns:List Int) (k:Int),vs=[.ref a,.int k]/\SqL K H a (ns.map V.int)/\ns.length<=63/\0<=k/\k<1000/\ ∀ p t,H p=none->Q (.ref p) (upd H p (.lst [.int t]))
noncomputable def bj:Sp:=fun vs H Q _=> ∃ (tp:Addr) (m:Int),vs=[.ref tp,.int m]/\Tp H tp/\0<m/\m<1073741824/\ ∀ d t:Int,0<=d->d<m->Q (.int d) (upd H tp (.lst [.int t]))
noncomputable def iu:Sp:=fun vs H Q _=> ∃ tp,vs=[.ref tp]/\Tp H tp/\ ∀ (n:Int) H',-999999<=n->n<=999999->Kp tp H H'->Tp H' tp->Q (.int n) H'
theorem uU:ay ["script","k"] ["script","k"] (ag rj):=fsc
theorem ui (F:Fun K "_law_cell_at" "_law_cell_at" rj f fd) (G:Gb mg):FnOk P w K mg base CX0 1 f fd ["script","k"] (qT K):=by
 refine F.ok uU (fun vs H Q E h=>?_) (fun cdv A outer s H vs Q E hr h=>?_)
 ·obtain ⟨a,ns,k,rfl,_⟩:=h
  rfl
 obtain ⟨a,ns,k,rfl,hS,hl,hk,q⟩:=h
 refine ⟨_,ad (aK (az hV (pv 1) (ao aA rfl G.len PySem.boot_len (aa (pv 0) ab)) (aE _)) (ah (au (av bn (pv 0) (pv 1) (fun _ _=>rfl)))) ax) (ah (au ae)),?_⟩
 refine ⟨_,rfl,_,rfl,a,_,rfl,.inl hS,_,_,rfl,rfl,_,rfl,?_⟩
 refine bo (fun c=>?_) (fun c=>?_)
 ·have c':k< (((ns.map V.int).length:Nat):Int):=of_decide_eq_true c
  rw [List.length_map]at c'
  have hk':k.toNat<ns.length:=by omega
  have e:atI (ns.map V.int) k=some (V.int ns[k.toNat]):=by
   have ek:k=((k.toNat:Nat):Int):=by omega
   have q:atI (ns.map V.int) ((k.toNat:Nat):Int)=some (V.int ns[k.toNat]):=aB (by rw [List.getElem?_map,List.getElem?_eq_getElem hk'] <;> rfl)
   rw [<- ek]at q
   exact q
  exact ⟨_,rfl,_,rfl,a,_,k,_,rfl,rfl,hS,e,q _⟩
 ·exact q 0
theorem scTape:ay ["script","k","cell","p","one","two","three","four"] ["script","k"] (ag q9):=fsc
theorem tZ (F:Fun K "_law_tape" "_law_tape" q9 f fd) (GC:FnOk P w K mg base CX0 1 g gd ["script","k"] (qT K)) (bC:Binds K gd ["script","k"] []) (kC:PySem.W.keepIn K (.ref g)=true) (mC:mg "_law_cell_at"=some (.ref g)):
  FnOk P w K mg base CX0 2 f fd ["script","k"] (nc K):=by
 refine F.ok scTape (fun vs H Q E h=>?_) (fun cdv A outer s H vs Q E hr h=>?_)
 ·obtain ⟨a,ns,k,rfl,_⟩:=h
  rfl
 obtain ⟨a,ns,k,rfl,hS,hl,hk,hk2,q⟩:=h
 refine ⟨_,ad (aw (i:=2) scTape.nd rfl (Or.inl rfl) (af GC hr rfl mC kC bC .nil al (aa (pv 0) (aa (pv 1) ab))))
  (ad (aK (az aZ (aJ cV (pv 2) ae) ae (aE _)) (ah (au (bd (aa (aJ oG (pv 2) ae) ab)))) ax)
  (ad (aw (i:=3) scTape.nd rfl (Or.inl rfl) ae)
  (ad (aw (i:=4) scTape.nd rfl (Or.inl rfl) (aJ cV (aJ bi (aJ bi (aJ dn (aJ cV (pv 2) (pv 3)) ae) (aJ dn ae (pv 1))) ae) (pv 3)))
  (ad (aw (i:=5) scTape.nd rfl (Or.inl rfl) (aJ cV (aJ bi (aJ bi (aJ dn (pv 4) (pv 4)) (aJ dn ae (pv 1))) (pv 4)) (pv 3)))
  (ad (aw (i:=6) scTape.nd rfl (Or.inl rfl) (aJ cV (aJ bi (aJ dn (pv 5) (pv 5)) (pv 4)) (pv 3)))
  (ad (aw (i:=7) scTape.nd rfl (Or.inl rfl) (aJ cV (aJ bi (aJ dn (pv 6) (pv 6)) (pv 5)) (pv 3)))
  (ah (au (bd (aa (aJ bi (aJ dn (aJ bi (aJ dn (aJ bi (aJ dn (pv 4) (pv 3)) (pv 5)) (pv 3)) (pv 6)) (pv 3)) (pv 7)) ab)))))))))),?_⟩
 refine ⟨_,rfl,_,rfl,a,ns,k,rfl,hS,hl,hk,fun c=>?_⟩
 refine ⟨_,rfl,_,_,rfl,rfl,(by show (0:Int) <2;decide),rfl,_,rfl,?_⟩
 refine bo (fun _=>?_) (fun _=>?_)
 ·exact ⟨_,rfl,_,_,rfl,rfl,⟨by decide,by decide⟩,(by show 1<=sizeLine;decide),fun p hp=>q p _ hp⟩
 have hp0:(0:Int) <2305843009213693951:=by decide
 have mm: ∀ x:Int,-(2^64) <x%2305843009213693951/\x%2305843009213693951<2^64:=fun x=>by
  have h1:=Int.emod_nonneg x (show (2305843009213693951:Int)≠0 by decide)
  have h2:=Int.emod_lt_of_pos x hp0
  omega
 have hkk: -(2^64) <k/\k<2^64:=by omega
 have hpp:(-(2^64):Int) <2305843009213693951/\(2305843009213693951:Int) <2^64:=by decide
 refine ⟨_,rfl,_,rfl,_,_,rfl,rfl,hp0,_,_,rfl,rfl,.inl (mm _),_,rfl,_,_,rfl,rfl,.inr hkk,_,_,rfl,rfl,_,_,rfl,rfl,_,rfl,_,_,rfl,rfl,hp0,?_⟩
 refine ⟨_,rfl,_,rfl,_,_,rfl,rfl,.inl (mm _),_,rfl,_,_,rfl,rfl,.inr hkk,_,_,rfl,rfl,_,rfl,_,_,rfl,rfl,_,rfl,_,_,rfl,rfl,hp0,?_⟩
 refine ⟨_,rfl,_,rfl,_,_,rfl,rfl,.inl (mm _),_,rfl,_,_,rfl,rfl,_,rfl,_,_,rfl,rfl,hp0,?_⟩
 refine ⟨_,rfl,_,rfl,_,_,rfl,rfl,.inl (mm _),_,rfl,_,_,rfl,rfl,_,rfl,_,_,rfl,rfl,hp0,?_⟩
 refine ⟨_,rfl,_,rfl,_,_,rfl,rfl,.inr hpp,_,rfl,_,_,rfl,rfl,_,rfl,_,_,rfl,rfl,.inr hpp,_,rfl,_,_,rfl,rfl,_,rfl,_,_,rfl,rfl,.inr hpp,_,rfl,_,_,rfl,rfl,(by show 1<=sizeLine;decide),fun p hp=>q p _ hp⟩
theorem scDigit:ay ["tape","many","found"] ["tape","many"] (ag nv):=fsc
theorem rZ (F:Fun K "_law_digit" "_law_digit" nv f fd):FnOk P w K mg base CX0 1 f fd ["tape","many"] bj:=by
 refine F.ok scDigit (fun vs H Q E h=>?_) (fun cdv A outer s H vs Q E hr h=>?_)
 ·obtain ⟨tp,m,rfl,_⟩:=h
  rfl
 obtain ⟨tp,m,rfl,⟨t,ht⟩,hm,hm2,q⟩:=h
 refine ⟨_,ad (aw (i:=2) scDigit.nd rfl (Or.inl rfl) (aJ cV (av bn (pv 0) ae (fun _ _=>rfl)) (pv 1)))
  (ad (ki (aJ oG (av bn (pv 0) ae (fun _ _=>rfl)) (pv 1)) (nB (pv 0) ae iB))
  (ah (au (pv 2)))),?_⟩
 refine ⟨_,rfl,tp,_,0,_,rfl,rfl,SqL.of ht,aT,_,rfl,_,_,rfl,rfl,hm,?_⟩
 refine ⟨_,rfl,tp,_,0,_,rfl,rfl,SqL.of ht,aT,_,rfl,_,_,rfl,rfl,⟨hm,hm2⟩,?_⟩
 refine ⟨_,rfl,tp,_,0,0,rfl,rfl,ht,rfl,?_⟩
 exact ⟨_,rfl,q (t%m) (t/m) (Int.emod_nonneg _ (by omega)) (Int.emod_lt_of_pos _ hm)⟩
theorem scNumber:ay ["tape","way"] ["tape"] (ag jW):=fsc
theorem qa (F:Fun K "_law_number" "_law_number" jW f fd) (GD:FnOk P w K mg base CX0 1 g gd ["tape","many"] bj) (bD:Binds K gd ["tape","many"] []) (kD:PySem.W.keepIn K (.ref g)=true) (mD:mg "_law_digit"=some (.ref g)):
  FnOk P w K mg base CX0 2 f fd ["tape"] iu:=by
 refine F.ok scNumber (fun vs H Q E h=>?_) (fun cdv A outer s H vs Q E hr h=>?_)
 ·obtain ⟨tp,rfl,_⟩:=h
  rfl
 obtain ⟨tp,rfl,hT,q⟩:=h
 refine ⟨_,ad (aw (i:=1) scNumber.nd rfl (Or.inl rfl) (af GD hr rfl mD kD bD .nil al (aa (pv 0) (aa ae ab))))
  (ad (aK (az hV (pv 1) ae (aE _)) (ah (au (pv 1))) ax)
  (ah (au (av bn (bd (aa (iL fA ae) (aa (aJ eS (af GD hr rfl mD kD bD .nil al (aa (pv 0) (aa ae ab))) ae)
   (aa (aJ eS (af GD hr rfl mD kD bD .nil al (aa (pv 0) (aa ae ab))) ae) ab)))) (aJ eS (pv 1) ae) (fun _ _=>rfl))))),?_⟩
 refine ⟨_,rfl,tp,6,rfl,hT,by decide,by decide,fun d t h0 h1=>?_⟩
 refine ⟨_,rfl,_,_,rfl,rfl,_,rfl,?_⟩
 refine bo (fun c=>?_) (fun c=>?_)
 ·exact ⟨_,rfl,q d _ (by omega) (by omega) Kp.tape ⟨t,ac⟩⟩
 have c':3<=d:=by
  rcases Int.lt_or_le d 3 with z | z
  ·exact absurd (decide_eq_true z) c
  ·exact z
 refine ⟨_,rfl,_,rfl,tp,1001,rfl,⟨t,ac⟩,by decide,by decide,fun d2 t2 h20 h21=>?_⟩
 refine ⟨_,_,rfl,rfl,_,rfl,tp,1999999,rfl,⟨t2,ac⟩,by decide,by decide,fun d3 t3 h30 h31=>?_⟩
 refine ⟨_,_,rfl,rfl,(by show 3<=sizeLine;decide),fun p hp=>?_⟩
 rw [c6,c6]at hp ⊢
 have hd:d=3\/d=4\/d=5:=by omega
 have fin: ∀ n:Int,-999999<=n->n<=999999->Q (.int n) (upd (upd H tp (.lst [.int t3])) p (.lst [.int (-1),.int (d2-500),.int (d3-999999)])):=fun n h1 h2=>
  q n _ h1 h2 (Kp.tape.new hp) (Tp.new ⟨t3,ac⟩ hp)
 rcases hd with rfl | rfl | rfl
 ·exact ⟨_,rfl,_,_,rfl,rfl,p,_,0,_,rfl,rfl,SqL.of ac,aT,fin _ (by omega) (by omega)⟩
 ·exact ⟨_,rfl,_,_,rfl,rfl,p,_,1,_,rfl,rfl,SqL.of ac,uA,fin _ (by omega) (by omega)⟩
 ·exact ⟨_,rfl,_,_,rfl,rfl,p,_,2,_,rfl,rfl,SqL.of ac,wF,fin _ (by omega) (by omega)⟩
theorem cW {α:Type} {xs:List α} {d:Int} (h0:0<=d) (h1:d<xs.length): ∃ x,atI xs d=some x/\xs[d.toNat]? =some x:=by
 have hk:d.toNat<xs.length:=by omega
 have ek:d=((d.toNat:Nat):Int):=by omega
 have q:atI xs ((d.toNat:Nat):Int)=some xs[d.toNat]:=aB (List.getElem?_eq_getElem hk)
 rw [<- ek]at q
 exact ⟨_,q,List.getElem?_eq_getElem hk⟩
theorem mj (xs:List V) {j:Int} (h0:0<=j) (h1:j<=xs.length):dW xs none (some j)=xs.take j.toNat:=by
 have ej:j=((j.toNat:Nat):Int):=by omega
 have e:HT.sIx xs.length xs.length (some j)=j.toNat:=by
  rw [ej,HT.sIx_nat]
  omega
 unfold dW
 rw [e,HT.sIx_none,List.drop_zero,Nat.sub_zero]
theorem sY (xs:List V) {j:Int} (h0:0<=j) (h1:j<=xs.length):dW xs (some j) none=xs.drop j.toNat:=by
 have ej:j=((j.toNat:Nat):Int):=by omega
 have e:HT.sIx xs.length 0 (some j)=j.toNat:=by
  rw [ej,HT.sIx_nat]
  omega
 unfold dW
 rw [e,HT.sIx_none]
 apply List.take_of_length_le
 rw [List.length_drop]
 omega
theorem ju (z:Str) {j:Int} (h0:0<=j) (h1:j<=z.length):((Txt.slice z none (some j)).length:Int)=j:=by
 rcases PyProof.Rows.slice_ns_cases z j h0 with ⟨_,h⟩ | ⟨h,_⟩
 ·exact h
 ·omega
noncomputable def letters:Str:="abcdefghijklmnopqrstuvwxyz"
theorem lY:letters.cps.toList.all eC=true:=by decide +kernel
theorem hX:letters.length=26:=by decide +kernel
theorem qo {d:Int} (h0:0<=d) (h1:d<26): ∃ c,atI letters.cps.toList d=some c/\eC c=true:=by
 have hl:letters.cps.toList.length=26:=by decide +kernel
 obtain ⟨c,e,e2⟩:=cW (xs:=letters.cps.toList) h0 (by rw [hl];omega)
 exact ⟨c,e,List.all_eq_true.mp lY c (List.mem_of_getElem? e2)⟩
theorem uB (x y:Str):(x++y).length=x.length+y.length:=by
 show (x.cps++y.cps).size=_
 rw [Array.size_append]
 rfl
noncomputable def names13:List Str:=["own","up","down","min","max","of","top","form","sort","wheel","book","tree","ok"]
theorem aneq:(Txt.slice "aneqoubi" none (some 7)).length=7/\(Txt.slice "aneqoubi" none (some 7)).cps.toList.all eC=true:=by decide +kernel
theorem oY:("eyzmopq":Str).length=7:=by decide +kernel
theorem Tp.same {H H':Hp} {tp:Addr} (t:Tp H tp) (s:Same H H'):Tp H' tp:=by
 obtain ⟨t0,e⟩:=t
 exact ⟨t0,s _ _ e⟩
noncomputable def Fm.wfp (ρ:Fm->Prop):Fm->Prop
 | .num n=> -999999<=n/\n<=999999
 | .own x=>a5 x=true/\ρ (.own x)
 | .part k x=>((0<=k/\k<=2)/\a5 x=true)/\ρ (.part k x)
 | .bin op a b=>op∈ops/\a.wfp ρ/\b.wfp ρ
 | .whn a b c=>a.wfp ρ/\b.wfp ρ/\c.wfp ρ
theorem Fm.wfp.wf {ρ:Fm->Prop}: ∀ {f:Fm},f.wfp ρ->f.wf
 | .num _,h=>h
 | .own _,h=>h.1
 | .part _ _,h=>h.1
 | .bin _ _ _,h=>⟨h.1,Fm.wfp.wf h.2.1,Fm.wfp.wf h.2.2⟩
 | .whn _ _ _,h=>⟨Fm.wfp.wf h.1,Fm.wfp.wf h.2.1,Fm.wfp.wf h.2.2⟩
noncomputable def wL (ρ:Fm->Prop) (H:Hp) (rs:List V):Prop:= ∀ v∈rs,∃ f,Rep H f v/\f.wfp ρ/\f.size=1
noncomputable def ox (ρ:Fm->Prop):Sp:=fun vs H Q _=> ∃ tp rl rs,vs=[.ref tp,.ref rl]/\Tp H tp/\rl≠tp/\H rl=some (.lst rs)/\rs.length<=1000/\wL ρ H rs/\
 ∀ v f H',Rep H' f v->f.wfp ρ->f.size=1->Kp tp H H'->Tp H' tp->Q v H'
theorem tE:ay ["tape","readings"] ["tape","readings"] (ag rf):=fsc
theorem rR {ρ:Fm->Prop} (F:Fun K "_law_leaf" "_law_leaf" rf f fd) (G:Gb mg) (GD:FnOk P w K mg base CX0 1 g gd ["tape","many"] bj) (bD:Binds K gd ["tape","many"] []) (kD:PySem.W.keepIn K (.ref g)=true) (mD:mg "_law_digit"=some (.ref g))
  (GN:FnOk P w K mg base CX0 2 f2 fd2 ["tape"] iu) (bN:Binds K fd2 ["tape"] []) (kN:PySem.W.keepIn K (.ref f2)=true) (mN:mg "_law_number"=some (.ref f2)):
  FnOk P w K mg base CX0 3 f fd ["tape","readings"] (ox ρ):=by
 refine F.ok tE (fun vs H Q E h=>?_) (fun cdv A outer s H vs Q E hr h=>?_)
 ·obtain ⟨tp,rl,rs,rfl,_⟩:=h
  rfl
 obtain ⟨tp,rl,rs,rfl,hT,hne,hrl,hlen,hL,q⟩:=h
 have hr1:=hr.mono (show 1<=2 by decide)
 refine ⟨_,ad (aK (PW.pt (di (az rK (ao aA rfl G.len PySem.boot_len (aa (pv 1) ab)) ae (aE _))
   (cR (az hV (af GD hr1 rfl mD kD bD .nil al (aa (pv 0) (aa ae ab))) ae (aE _)))))
   (ah (au (av bn (pv 1) (af GD hr1 rfl mD kD bD .nil al (aa (pv 0) (aa (ao aA rfl G.len PySem.boot_len (aa (pv 1) ab)) ab))) (fun _ _=>rfl)))) ax)
  (ah (au (aS (aa aG (aa (af GN hr rfl mN kN bN .nil al (aa (pv 0) ab)) ab))))),?_⟩
 have num: ∀ H1,Kp tp H H1->Tp H1 tp->(∃ v,([some (V.ref tp),some (.ref rl)]:St)[0]? =some (some v)/\iu [v] H1 (fun x H2=>[V.str "num",x].length<=sizeLine/\ ∀ p,H2 p=none->Q (.ref p) (upd H2 p (.tup [V.str "num",x]))) E0):=fun H1 k1 t1=>by
  refine ⟨_,rfl,tp,rfl,t1,fun n H2 h1 h2 k2 t2=>⟨(by show 2<=sizeLine;decide),fun p hp=>?_⟩⟩
  exact q _ (.num n) _ ⟨p,rfl,ac⟩ ⟨h1,h2⟩ rfl ((k1.trans k2).new hp) (t2.new hp)
 refine ⟨_,rfl,rl,rs,rfl,.inl (SqL.of hrl),_,_,rfl,rfl,_,rfl,?_⟩
 refine bo (fun c=>?_) (fun c=>?_)
 ·have c':0<rs.length:=by have:=of_decide_eq_true c;omega
  refine ⟨_,rfl,tp,4,rfl,hT,by decide,by decide,fun d t h0 h1=>?_⟩
  refine ⟨_,_,rfl,rfl,_,rfl,?_⟩
  refine bo (fun c2=>?_) (fun c2=>?_)
  ·have h2:(upd H tp (.lst [.int t])) rl=some (.lst rs):=by rw [am hne];exact hrl
   refine ⟨_,rfl,_,rfl,_,rfl,rl,rs,rfl,.inl (SqL.of h2),tp,_,rfl,⟨t,ac⟩,by omega,by omega,fun d2 t2 h20 h21=>?_⟩
   rw [c6]
   have h3:(upd H tp (.lst [.int t2])) rl=some (.lst rs):=by rw [am hne];exact hrl
   obtain ⟨x,ex,ex2⟩:=cW (xs:=rs) h20 h21
   obtain ⟨fm,r,wf,sz⟩:=hL x (List.mem_of_getElem? ex2)
   have k2:Kp tp H (upd H tp (.lst [.int t2])):=Kp.tape
   exact ⟨rl,rs,d2,x,rfl,rfl,SqL.of h3,ex,q x fm _ (r.mono (k2.tk hT)) wf sz k2 ⟨t2,ac⟩⟩
  ·exact num _ Kp.tape ⟨t,ac⟩
 ·exact num _ Kp.refl hT
noncomputable def lZ (d:Int):Nat:=(atI letters.cps.toList d).getD 0
noncomputable def dZ (tu:Int):Str:=(⟨#[lZ tu]⟩:Str)++Txt.slice "aneqoubi" none (some 7)
noncomputable def nm0 (tu:Int) (i:Nat):Str:=if (0+ (i:Int)) <8 then Txt.slice (dZ tu) none (some (0+ (i:Int) +1))else (⟨#[lZ ((tu+1) %26)]⟩:Str)++Txt.slice (dZ tu) none (some (0+ (i:Int) -8))
noncomputable def nm1 (tu:Int) (i:Nat):Str:=((names13)[((tu+ (0+ (i:Int))) %13).toNat]?).getD ""
noncomputable def nm2 (tu:Int) (i:Nat):Str:=(⟨#[lZ ((tu+ (0+ (i:Int))) %26)]⟩:Str)++Txt.slice "eyzmopq" none (some ((tu+3* (0+ (i:Int))) %8))
noncomputable def fY (way:Nat) (tu:Int) (i:Nat):Str:=if way=0 then nm0 tu i else if way=1 then nm1 tu i else nm2 tu i
noncomputable def NamesAre (m:Nat) (ws:List Str):Prop:= ∃ (way tu:Nat) (back:Bool),way<3/\tu<26/\ws=(if back=true then ((List.range m).map (fY way tu)).reverse else (List.range m).map (fY way tu))
noncomputable def iw:Sp:=fun vs H Q _=> ∃ tp m,vs=[.ref tp,.int m]/\Tp H tp/\0<=m/\m<=13/\
 ∀ l (ws:List Str) H',H' l=some (.lst (ws.map V.str))->(ws.length:Int)=m->NamesAre m.toNat ws->l≠tp->Kp tp H H'->Tp H' tp->Q (.ref l) H'
theorem kw {d:Int} (h0:0<=d) (h1:d<26):atI letters.cps.toList d=some (lZ d):=by
 obtain ⟨c,e,_⟩:=qo h0 h1
 unfold lZ
 rw [e]
 rfl
theorem qO (tu:Int):(dZ tu).length=8:=by unfold dZ;rw [uB,aneq.1];rfl
theorem scNamesX:ay ["tape","many","letters","way","turn","back","stem","names","words"] ["tape","many"] (ag eK):=fsc
theorem qc (F:Fun K "_law_names" "_law_names" eK f fd) (G:Gb mg) (GD:FnOk P w K mg base CX0 1 g gd ["tape","many"] bj) (bD:Binds K gd ["tape","many"] []) (kD:PySem.W.keepIn K (.ref g)=true) (mD:mg "_law_digit"=some (.ref g)):
  FnOk P w K mg base CX0 2 f fd ["tape","many"] iw:=by
 refine F.ok scNamesX (fun vs H Q E h=>?_) (fun cdv A outer s H vs Q E hr h=>?_)
 ·obtain ⟨tp,m,rfl,_⟩:=h
  rfl
 obtain ⟨tp,m,rfl,hT,hm0,hm1,q⟩:=h
 obtain ⟨t,ht,hread⟩: ∃ t,PSs (dv CX0 P w K mg base ["tape","many","letters","way","turn","back","stem","names","words"] "_law_names" (ag eK) f cdv A outer s H E).nox ((cs eK).drop 5) t/\
   ∀ (b:Int) (l:Addr) (way tu:Nat) (H2:Hp) (o2 o3 o4 o6 o8:Option V),(b=1\/b= -1)->way<3->tu<26->H2 l=some (.lst (((List.range m.toNat).map (fY way tu)).map V.str))->Kp tp H H2->Tp H2 tp->
    t {nx:=fun _ H'=>Q .non H',rt:=Q} [some (.ref tp),some (.int m),o2,o3,o4,some (.int b),o6,some (.ref l),o8] H2:=by
  refine ⟨_,ah (au (tU (pv 7) (pv 5))),fun b l way tu H2 o2 o3 o4 o6 o8 hb hw1 hw2 hl k2 t2=>?_⟩
  have hlen:(((List.range m.toNat).map (fY way tu)).length:Int)=m:=by rw [List.length_map,List.length_range];omega
  refine ⟨_,rfl,_,rfl,l,_,b,rfl,rfl,SqL.of hl,by omega,fun p hp=>?_⟩
  have hpt:p≠tp:=fun e=>by
   obtain ⟨t0,e0⟩:=t2
   subst e
   rw [e0]at hp
   cases hp
  rcases hb with rfl | rfl
  ·rw [pB]
   exact q p _ _ ac hlen ⟨way,tu,false,hw1,hw2,rfl⟩ hpt (k2.new hp) (t2.new hp)
  ·rw [pC,<- List.map_reverse]
   exact q p _ _ ac (by rw [List.length_reverse];exact hlen) ⟨way,tu,true,hw1,hw2,rfl⟩ hpt (k2.new hp) (t2.new hp)
 have cw: ∀ {te:TE} {fr:List Nat} {σ:St} {H2:Hp} {Q2:VK} (g:Nat->Str),(∀ (i:Nat) (H3:Hp) (k:VK),(i:Int) <m->k (.str (g i)) H3->te (some (.int (0+i))::cn fr σ) H3 k)->
   (∀ p,H2 p=none->Q2 (.ref p) (upd H2 p (.lst (((List.range m.toNat).map g).map V.str))))->eF fr te σ (Itr 0 m.toNat) H2 Q2:=by
  intro te fr σ H2 Q2 g hs hd
  refine dX (n:=m.toNat) (R:=fun i v=>v=.int (0+i)) (by omega) nY iX kx
   (fun p i zs H'=>H'=upd H2 p (.lst zs)/\zs=((List.range i).map g).map V.str) (fun p hp=>⟨rfl,rfl⟩) ?_ ?_ ?_
  ·rintro p i zs H' ⟨rfl,rfl⟩
   exact ⟨ac,by rw [List.length_map,List.length_map,List.length_range]⟩
  ·rintro p i zs H' v k hp hi rfl ⟨rfl,rfl⟩ hk
   exact hs i _ k (by omega) (hk (.str (g i)) _ ac ⟨c6,by rw [List.range_succ];simp⟩)
  ·rintro p zs H' hp ⟨rfl,rfl⟩
   exact hd p hp
 refine ⟨_,ad (aw (i:=2) scNamesX.nd rfl (Or.inr rfl) aG)
  (ad (aw (i:=3) scNamesX.nd rfl (Or.inl rfl) (af GD hr rfl mD kD bD .nil al (aa (pv 0) (aa ae ab))))
  (ad (aw (i:=4) scNamesX.nd rfl (Or.inr rfl) (af GD hr rfl mD kD bD .nil al (aa (pv 0) (aa ae ab))))
  (ad (aw (i:=5) scNamesX.nd rfl (Or.inl rfl) (aJ eS ae (aJ dn ae (af GD hr rfl mD kD bD .nil al (aa (pv 0) (aa ae ab))))))
  (ad (aK (az aZ (pv 3) ae (aE _))
   (ad (aw (i:=6) scNamesX.nd rfl (Or.inr rfl) (aJ fF (av nX (pv 2) (pv 4) (fun _ _=>rfl)) (bh jP aG ca (bZ ae))))
   (ah (fW (i:=7) (sc0:=ag eK) (N0:=["tape","many","letters","way","turn","back","stem","names","words"]) (ys:=["letters","stem","turn"]) (fr:=[2,6,4]) rfl scNamesX.nd rfl (Or.inl rfl) (cE rfl G.range (aa (pv 1) ab)) rfl rfl
    cok
    (fun C s H ex=>dl (az hV (pv 0) ae (aE _)) (bh jP (pv 2) ca (bZ (aJ bi (pv 0) ae)))
     (aJ fF (av nX (pv 1) (aJ cV (aJ bi (pv 3) ae) ae) (fun _ _=>rfl)) (bh jP (pv 2) ca (bZ (aJ eS (pv 0) ae))))))))
   (ah (aK (az aZ (pv 3) ae (aE _))
    (@ad _ _ _ _ _ (@tR _ 8 _ _ (names13.map V.str) _ _ _ scNamesX.nd rfl (Or.inr rfl) (Or.inl rfl) rfl)
    (ah (fW (i:=7) (sc0:=ag eK) (N0:=["tape","many","letters","way","turn","back","stem","names","words"]) (ys:=["turn","words"]) (fr:=[4,8]) rfl scNamesX.nd rfl (Or.inl rfl) (cE rfl G.range (aa (pv 1) ab)) rfl rfl
     cok
     (fun C s H ex=>av (r:=vY K) bn (pv 2) (aJ cV (aJ bi (pv 1) (pv 0)) ae) (fun _ _=>rfl)))))
    (ah (fW (i:=7) (sc0:=ag eK) (N0:=["tape","many","letters","way","turn","back","stem","names","words"]) (ys:=["letters","turn"]) (fr:=[2,4]) rfl scNamesX.nd rfl (Or.inl rfl) (cE rfl G.range (aa (pv 1) ab)) rfl rfl
     cok
     (fun C s H ex=>aJ fF (av nX (pv 1) (aJ cV (aJ bi (pv 2) (pv 0)) ae) (fun _ _=>rfl)) (bh jP aG ca (bZ (aJ cV (aJ bi (pv 2) (aJ dn ae (pv 0))) ae)))))))))
  ht)))),?_⟩
 refine ⟨_,rfl,tp,3,rfl,hT,by decide,by decide,fun wy t1 hw0 hw1=>?_⟩
 refine ⟨_,rfl,tp,26,rfl,⟨t1,ac⟩,by decide,by decide,fun tu t2 htu0 htu1=>?_⟩
 rw [c6]
 refine ⟨_,rfl,tp,2,rfl,⟨t2,ac⟩,by decide,by decide,fun bk t3 hb0 hb1=>?_⟩
 rw [c6]
 refine ⟨2,_,rfl,rfl,.inl ⟨by decide,by decide⟩,1,_,rfl,rfl,?_⟩
 have hb:(1-2*bk=1\/1-2*bk= -1):=by omega
 have k3:Kp tp H (upd H tp (.lst [.int t3])):=Kp.tape
 have tt3:Tp (upd H tp (.lst [.int t3])) tp:=⟨t3,ac⟩
 generalize upd H tp (.lst [.int t3])=H3 at k3 tt3 ⊢
 have l26:(letters.length:Int)=26:=by rw [hX];rfl
 have lsz:letters.length<=sizeLine:=by rw [hX];exact Nat.le_of_lt (aF (by decide))
 refine ⟨_,rfl,rfl,_,rfl,?_⟩
 refine bo (fun c=>?_) (fun c=>?_)
 ·-- stems
  have hwy:wy=0:=V.int.inj (of_decide_eq_true c)
  have ec0:=kw htu0 htu1
  refine ⟨_,rfl,_,rfl,letters,tu,lZ tu,rfl,rfl,lsz,ec0,7,rfl,"aneqoubi",rfl,(by decide +kernel),_,_,rfl,rfl,?_,?_⟩
  ·rw [aneq.1]
   show 1+7<=sizeLine
   exact Nat.le_of_lt (aF (by decide))
  have zl:=qO tu
  have zsz:(dZ tu).length<=sizeLine:=by rw [zl];exact Nat.le_of_lt (aF (by decide))
  refine ⟨_,rfl,m,rfl,by omega,by omega,?_⟩
  refine cw (nm0 tu) ?_ ?_
  ·intro i H4 k hi hk
   refine ⟨_,rfl,_,_,rfl,rfl,_,rfl,?_⟩
   refine bo (fun ci=>?_) (fun ci=>?_)
   ·have ci':(0+ (i:Int)) <8:=of_decide_eq_true ci
    refine ⟨_,rfl,_,rfl,_,_,rfl,rfl,_,rfl,dZ tu,rfl,zsz,?_⟩
    unfold nm0 at hk
    rw [if_pos ci']at hk
    exact hk
   ·have ci': ¬ (0+ (i:Int)) <8:=fun y=>ci (decide_eq_true y)
    have ec1:=kw (d:=(tu+1) %26) (Int.emod_nonneg _ (by decide)) (Int.emod_lt_of_pos _ (by decide))
    have e:=ju (dZ tu) (j:=0+ (i:Int) -8) (by omega) (by rw [zl];omega)
    unfold nm0 at hk
    rw [if_neg ci']at hk
    refine ⟨_,rfl,_,rfl,_,_,rfl,rfl,_,_,rfl,rfl,(by show (0:Int) <26;decide),letters,_,lZ ((tu+1) %26),rfl,rfl,lsz,ec1,_,rfl,_,rfl,_,_,rfl,rfl,_,rfl,dZ tu,rfl,zsz,_,_,rfl,rfl,?_,hk⟩
    show 1+ (Txt.slice (dZ tu) none (some (0+ (i:Int) -8))).length<=sizeLine
    exact Nat.le_of_lt (aF (by omega))
  ·intro p hp
   have etu:((tu.toNat:Nat):Int)=tu:=by omega
   refine hread (1-2*bk) p 0 tu.toNat _ _ _ _ _ _ hb (by decide) (by omega) ?_ (k3.new hp) (tt3.new hp)
   rw [etu]
   exact ac
 ·refine ⟨_,rfl,rfl,_,rfl,?_⟩
  refine bo (fun c2=>?_) (fun c2=>?_)
  ·-- written words
   refine ⟨(by show 13<=sizeLine;decide),fun pw hpw=>?_⟩
   refine ⟨_,rfl,m,rfl,by omega,by omega,?_⟩
   have s4:Same H3 (upd H3 pw (.lst (names13.map V.str))):=ai hpw _
   have g4:(upd H3 pw (.lst (names13.map V.str))) pw=some (.lst (names13.map V.str)):=ac
   have k4:Kp tp H (upd H3 pw (.lst (names13.map V.str))):=k3.same s4
   have tt4:Tp (upd H3 pw (.lst (names13.map V.str))) tp:=tt3.new hpw
   generalize upd H3 pw (.lst (names13.map V.str))=H4 at s4 g4 k4 tt4 ⊢
   refine dX (n:=m.toNat) (R:=fun i v=>v=.int (0+i)) (by omega) nY iX kx
    (fun p i zs H'=>H'=upd H4 p (.lst zs)/\H4 p=none/\zs=((List.range i).map (nm1 tu)).map V.str) (fun p hp=>⟨rfl,hp,rfl⟩) ?_ ?_ ?_
   ·rintro p i zs H' ⟨rfl,_,rfl⟩
    exact ⟨ac,by rw [List.length_map,List.length_map,List.length_range]⟩
   ·rintro p i zs H' v k hp hi rfl ⟨rfl,hp4,rfl⟩ hk
    have h1:=Int.emod_nonneg (tu+ (0+ (i:Int))) (show (13:Int)≠0 by decide)
    have h2:=Int.emod_lt_of_pos (tu+ (0+ (i:Int))) (show (0:Int) <13 by decide)
    obtain ⟨xv,ex,ex2⟩:=cW (xs:=names13.map V.str) h1 (by rw [List.length_map];exact h2)
    have exv:xv=.str (nm1 tu i):=by
     rw [List.getElem?_map]at ex2
     unfold nm1
     cases hx:names13[((tu+ (0+ (i:Int))) %13).toNat]? with
     | none=>rw [hx]at ex2;cases ex2
     | some y=>rw [hx]at ex2;exact (Option.some.inj ex2).symm
    subst exv
    have g5:(upd H4 p (.lst (((List.range i).map (nm1 tu)).map V.str))) pw=some (.lst (names13.map V.str)):=by rw [am (aj g4 hp4)];exact g4
    refine ⟨_,rfl,_,rfl,_,rfl,_,_,rfl,rfl,_,_,rfl,rfl,(by show (0:Int) <13;decide),pw,_,_,_,rfl,rfl,SqL.of g5,ex,?_⟩
    exact hk _ _ ac ⟨c6,hp4,by rw [List.range_succ];simp⟩
   ·rintro p zs H' hp ⟨rfl,hp4,rfl⟩
    have etu:((tu.toNat:Nat):Int)=tu:=by omega
    refine hread (1-2*bk) p 1 tu.toNat _ _ _ _ _ _ hb (by decide) (by omega) ?_ (k4.new hp4) (tt4.new hp4)
    rw [etu]
    exact ac
  ·-- a letter and a tail
   refine ⟨_,rfl,m,rfl,by omega,by omega,?_⟩
   refine cw (nm2 tu) ?_ ?_
   ·intro i H4 k hi hk
    have ec1:=kw (d:=(tu+ (0+ (i:Int))) %26) (Int.emod_nonneg _ (by decide)) (Int.emod_lt_of_pos _ (by decide))
    have h1:=Int.emod_nonneg (tu+3* (0+ (i:Int))) (show (8:Int)≠0 by decide)
    have h2:=Int.emod_lt_of_pos (tu+3* (0+ (i:Int))) (show (0:Int) <8 by decide)
    have e:=ju "eyzmopq" (j:=(tu+3* (0+ (i:Int))) %8) h1 (by rw [oY];omega)
    refine ⟨_,rfl,_,rfl,_,rfl,_,_,rfl,rfl,_,_,rfl,rfl,(by show (0:Int) <26;decide),letters,_,lZ ((tu+ (0+ (i:Int))) %26),rfl,rfl,lsz,ec1,_,rfl,_,rfl,3,_,rfl,rfl,.inl ⟨by decide,by decide⟩,_,_,rfl,rfl,_,_,rfl,rfl,(by show (0:Int) <8;decide),_,rfl,"eyzmopq",rfl,(by rw [oY];exact Nat.le_of_lt (aF (by decide))),_,_,rfl,rfl,?_,hk⟩
    ·show 1+ (Txt.slice "eyzmopq" none (some ((tu+3* (0+ (i:Int))) %8))).length<=sizeLine
     exact Nat.le_of_lt (aF (by omega))
   ·intro p hp
    have etu:((tu.toNat:Nat):Int)=tu:=by omega
    refine hread (1-2*bk) p 2 tu.toNat _ _ _ _ _ _ hb (by decide) (by omega) ?_ (k3.new hp) (tt3.new hp)
    rw [etu]
    exact ac
noncomputable def ndB:List Str->Bool
 | []=>true
 | x::r=> !(r.any fun y=>x.cps.toList==y.cps.toList)&&ndB r
theorem si: ∀ {l:List Str},ndB l=true->l.Nodup
 | [],_=>List.nodup_nil
 | x::r,h=>by
  unfold ndB at h
  rw [Bool.and_eq_true]at h
  refine List.nodup_cons.mpr ⟨fun m=>?_,si h.2⟩
  have h1:=h.1
  rw [Bool.not_eq_true',List.any_eq_false]at h1
  exact h1 x m (by simp)
theorem ql:((List.range 3).all fun way=>(List.range 26).all fun tu=>ndB ((List.range 13).map (fY way tu))&&((List.range 13).map (fY way tu)).all a5)=true:=by
 decide +kernel
theorem sB:((List.range 3).all fun way=>(List.range 26).all fun tu=>((List.range 13).map (fY way tu)).all fun x=> !(x.cps.toList==("lone":Str).cps.toList)&& !(x.cps.toList==("lonely":Str).cps.toList)&& !(x.cps.toList==("loneall":Str).cps.toList))=true:=by
 decide +kernel
theorem NamesAre.lone {m:Nat} {ws:List Str} (h:NamesAre m ws) (hm:m<=13): ∀ x∈ws,x≠"lone"/\x≠"lonely"/\x≠"loneall":=by
 obtain ⟨way,tu,back,h1,h2,e⟩:=h
 have a:=sB
 rw [List.all_eq_true]at a
 have a:=a way (List.mem_range.mpr h1)
 rw [List.all_eq_true]at a
 have a:=List.all_eq_true.mp (a tu (List.mem_range.mpr h2))
 have sub:((List.range m).map (fY way tu)).Sublist ((List.range 13).map (fY way tu)):=List.Sublist.map _ (List.range_sublist.mpr hm)
 have wd: ∀ x∈(List.range m).map (fY way tu),x≠"lone"/\x≠"lonely"/\x≠"loneall":=fun x hx=>by
  have b:=a x (sub.subset hx)
  refine ⟨fun z=>?_,fun z=>?_,fun z=>?_⟩ <;> (rw [z]at b;revert b;decide +kernel)
 cases back with
 | false=>
  rw [if_neg (by decide)]at e
  subst e
  exact wd
 | true=>
  rw [if_pos rfl]at e
  subst e
  exact fun x hx=>wd x (List.mem_reverse.mp hx)
theorem NamesAre.ok {m:Nat} {ws:List Str} (h:NamesAre m ws) (hm:m<=13):ws.length=m/\ws.Nodup/\ ∀ x∈ws,a5 x=true:=by
 obtain ⟨way,tu,back,h1,h2,e⟩:=h
 have a:=ql
 rw [List.all_eq_true]at a
 have a:=a way (List.mem_range.mpr h1)
 rw [List.all_eq_true]at a
 have a:=a tu (List.mem_range.mpr h2)
 rw [Bool.and_eq_true]at a
 have n13:=si a.1
 have w13:=List.all_eq_true.mp a.2
 have sub:((List.range m).map (fY way tu)).Sublist ((List.range 13).map (fY way tu)):=List.Sublist.map _ (List.range_sublist.mpr hm)
 have nd:=n13.sublist sub
 have wd: ∀ x∈(List.range m).map (fY way tu),a5 x=true:=fun x hx=>w13 x (sub.subset hx)
 have ln:((List.range m).map (fY way tu)).length=m:=by rw [List.length_map,List.length_range]
 cases back with
 | false=>
  rw [if_neg (by decide)]at e
  subst e
  exact ⟨ln,nd,wd⟩
 | true=>
  rw [if_pos rfl]at e
  subst e
  exact ⟨by rw [List.length_reverse];exact ln,(List.reverse_perm _).nodup_iff.mpr nd,fun x hx=>wd x (List.mem_reverse.mp hx)⟩
structure Srt where
 name:Str
 downs:List Str
 ups:List Str
noncomputable def RepS (H:Hp) (s:Srt) (v:V):Prop:= ∃ a b c,v=.ref a/\H a=some (.tup [.str s.name,.ref b,.ref c])/\H b=some (.tup (s.downs.map V.str))/\H c=some (.tup (s.ups.map V.str))
theorem RepS.mono {H H':Hp} (t:TK H H') {s:Srt} {v:V}:RepS H s v->RepS H' s v:=fun ⟨a,b,c,e,h1,h2,h3⟩=>⟨a,b,c,e,t _ _ h1,t _ _ h2,t _ _ h3⟩
noncomputable def Srt.ok (s:Srt):Prop:=(s.downs++s.ups).Nodup/\(∀ x∈s.downs++s.ups,a5 x=true)/\s.downs.length<=3/\s.ups.length<=3/\1<=s.downs.length+s.ups.length
noncomputable def RepSs (H:Hp) (ss:List Srt) (vs:List V):Prop:=Paired (RepS H) ss vs
theorem RepSs.mono {H H':Hp} (t:TK H H') {ss:List Srt} {vs:List V} (h:RepSs H ss vs):RepSs H' ss vs:=Paired.mapP h fun _ _ r=>r.mono t
theorem RepSs.len {H:Hp} {ss:List Srt} {vs:List V} (h:RepSs H ss vs):ss.length=vs.length:=Paired.length h
theorem aL {α β:Type} {F:α->β->Prop}: ∀ {l:List α} {r:List β} {i:Nat} {b:β},Paired F l r->r[i]? =some b-> ∃ a,l[i]? =some a/\F a b
 | _,_,i,b,.nil,e=>by cases i <;> cases e
 | _,_,0,b,.cons h _,e=>⟨_,rfl,by cases e;exact h⟩
 | _,_,i+1,b,.cons _ t,e=>aL (i:=i) t e
noncomputable def gn (ss:List Srt):Prop:=1<=ss.length/\ss.length<=4/\(ss.map Srt.name).Nodup/\(∀ s∈ss,a5 s.name=true/\s.name≠"lone")/\ ∀ s∈ss,s.ok
theorem pp {ws:List Str} (n:ws.Nodup) (w: ∀ x∈ws,a5 x=true) (hl:ws.length=6) (k d u:Nat) (hd:d<=3) (hu:u<=3) (h1:1<=d+u) (nm:Str):
  (Srt.mk nm ((ws.drop k++ws.take k).take d) (((ws.drop k++ws.take k).drop d).take u)).ok:=by
 have nt:(ws.drop k++ws.take k).Nodup:=by
  have:(ws.drop k++ws.take k).Perm (ws.take k++ws.drop k):=List.perm_append_comm
  rw [List.take_append_drop]at this
  exact this.nodup_iff.mpr n
 have mt: ∀ x∈ws.drop k++ws.take k,a5 x=true:=fun x hx=>by
  rw [List.mem_append]at hx
  rcases hx with h | h
  ·exact w x (List.mem_of_mem_drop h)
  ·exact w x (List.mem_of_mem_take h)
 have lt:(ws.drop k++ws.take k).length=6:=by rw [List.length_append,List.length_drop,List.length_take];omega
 generalize ws.drop k++ws.take k=ts at nt mt lt
 have sub:(ts.take d++(ts.drop d).take u).Sublist ts:=by
  have:=List.take_append_drop d ts
  conv=>rhs;rw [<- this]
  exact List.Sublist.append (List.Sublist.refl _) (List.take_sublist _ _)
 refine ⟨nt.sublist sub,fun x hx=>mt x (sub.subset hx),?_,?_,?_⟩
 ·show (ts.take d).length<=3
  rw [List.length_take];omega
 ·show ((ts.drop d).take u).length<=3
  rw [List.length_take];omega
 ·show 1<=(ts.take d).length+ ((ts.drop d).take u).length
  rw [List.length_take,List.length_take,List.length_drop];omega
theorem fk {H:Hp} {tp p:Addr} (t:Tp H tp) (hp:H p=none):p≠tp:=fun e=>by
 obtain ⟨t0,e0⟩:=t
 subst e
 rw [e0]at hp
 cases hp
noncomputable def uL (H:Hp) (ys:List V) (z:V):Prop:= ∃ a,z=.ref a/\H a=some (.tup ys)
noncomputable def Tups (H:Hp) (yss:List (List V)) (zs:List V):Prop:=Paired (uL H) yss zs
theorem Tups.mono {H H':Hp} (t:TK H H') {yss:List (List V)} {zs:List V} (h:Tups H yss zs):Tups H' yss zs:=Paired.mapP h fun _ _ ⟨a,e,g⟩=>⟨a,e,t _ _ g⟩
theorem Tups.len {H:Hp} {yss:List (List V)} {zs:List V} (h:Tups H yss zs):yss.length=zs.length:=Paired.length h
theorem Tups.append {H:Hp}: ∀ {a c:List (List V)} {b d:List V},Tups H a b->Tups H c d->Tups H (a++c) (b++d)
 | _,_,_,_,.nil,h=>h
 | _,_,_,_,.cons x t,h=>.cons x (Tups.append t h)
theorem aC {H H':Hp} (s:Same H H'):TK H H':=fun a xs h=>s _ _ h
theorem jB {K:PySem.W.Frag} {a:Addr} {xs:List V} {fr:List Nat} {te:TE} {σ:St} {H1:Hp} {Q:VK} (hn:xs.length<=1000) (ha:H1 a=some (.tup xs)) (g:V->List V)
  (hte: ∀ v H k,v∈xs->(∀ p,H p=none->k (.ref p) (upd H p (.tup (g v))))->te (some v::cn fr σ) H k)
  (hd: ∀ p zs H',H1 p=none->Same H1 H'->H' p=some (.lst zs)->Tups H' (xs.map g) zs->Q (.ref p) H'):eF fr te σ (Itt K a) H1 Q:=by
 intro p hp
 refine ⟨fun i m zs H=>i<=xs.length/\m=xs.length-i/\Same H1 H/\H p=some (.lst zs)/\zs.length=i/\Tups H ((xs.take i).map g) zs,⟨_,Nat.zero_le _,rfl,ai hp _,ac,rfl,.nil⟩,?_⟩
 rintro i m zs H ⟨hi,hm,sm,gp,hz,hT⟩
 refine ⟨gp,?_⟩
 by_cases e:i=xs.length
 ·subst e
  rw [List.take_length]at hT
  exact .inl ⟨⟨xs,SqT.of (sm _ _ ha),Nat.le_refl _⟩,hd p zs H hp sm gp hT⟩
 ·have hlt:i<xs.length:=by omega
  refine .inr ⟨⟨xs,xs[i],SqT.of (sm _ _ ha),List.getElem?_eq_getElem hlt⟩,aF (by omega),fun v H' hv=>?_⟩
  obtain ⟨rfl,hv⟩:=hv
  have hv:=hv xs (SqT.of (sm _ _ ha))
  refine hte v _ _ (List.mem_of_getElem? hv) fun q hq=>?_
  have s2:=ai hq (.tup (g v))
  have gq:(upd H' q (.tup (g v))) q=some (.tup (g v)):=ac
  generalize upd H' q (.tup (g v))=H2 at s2 gq ⊢
  have gp2:=s2 _ _ gp
  have tk:TK H2 (upd H2 p (.lst (zs++[.ref q]))):=TK.lst gp2
  refine ⟨gp2,xs.length- (i+1),by omega,by omega,rfl,?_,ac,by rw [List.length_append,hz];rfl,?_⟩
  ·intro b o hb
   rw [am (aj hb hp)]
   exact s2 _ _ (sm _ _ hb)
  ·rw [List.take_add_one,hv,List.map_append]
   exact Paired.snoc (hT.mono ((aC s2).trans tk)) ⟨q,rfl,tk _ _ gq⟩
noncomputable def bV (k:Int):List Srt->List (Int×Str)
 | []=>[]
 | q::r=>q.downs.map (fun x=>(k,x))++bV (k+1) r
noncomputable def dy (o:Srt) (qs:List Srt):List (Int×Str):=o.ups.map (fun x=>(-1,x))++bV 0 qs
theorem la (k:Int): ∀ (qs:List Srt) (q:Srt),bV k (qs++[q])=bV k qs++q.downs.map (fun x=>(k+qs.length,x)):=by
 intro qs
 induction qs generalizing k with
 | nil=>intro q;show q.downs.map (fun x=>(k,x))++[]=_;rw [List.append_nil];show _=q.downs.map (fun x=>(k+ ((0:Nat):Int),x));rw [show k+ ((0:Nat):Int)=k by omega]
 | cons r rs ih=>
  intro q
  show r.downs.map _++bV (k+1) (rs++[q])=(r.downs.map _++bV (k+1) rs)++_
  rw [ih,List.append_assoc]
  have:k+1+ (rs.length:Int)=k+ ((r::rs).length:Int):=by rw [List.length_cons];omega
  rw [this]
noncomputable def SrtsAt (H:Hp) (a:Addr) (ss:List Srt):Prop:= ∃ xs,H a=some (.tup xs)/\RepSs H ss xs
theorem SrtsAt.mono {H H':Hp} (t:TK H H') {a:Addr} {ss:List Srt}:SrtsAt H a ss->SrtsAt H' a ss:=fun ⟨xs,h,r⟩=>⟨xs,t _ _ h,r.mono t⟩
noncomputable def bE (k:Int):List Srt->List Fm
 | []=>[]
 | q::r=>q.ups.map (fun x=>Fm.part k x)++bE (k+1) r
noncomputable def fmV:Fm->List V
 | .own x=>[.str "own",.str x]
 | .part k x=>[.str "part",.int k,.str x]
 | _=>[]
theorem iJ (k:Int): ∀ (qs:List Srt),(∀ s∈qs,s.ok)->(bE k qs).length<=3*qs.length:=by
 intro qs
 induction qs generalizing k with
 | nil=>intro _;exact Nat.le_refl _
 | cons q r ih=>
  intro h
  have h1:=ih (k+1) fun s hs=>h s (List.mem_cons_of_mem _ hs)
  have h2:=(h q List.mem_cons_self).2.2.2.1
  unfold bE
  rw [List.length_append,List.length_map,List.length_cons]
  omega
theorem lC (k:Int): ∀ (qs:List Srt) (q:Srt),bE k (qs++[q])=bE k qs++q.ups.map (fun x=>Fm.part (k+qs.length) x):=by
 intro qs
 induction qs generalizing k with
 | nil=>intro q;show q.ups.map (fun x=>Fm.part k x)++[]=_;rw [List.append_nil];show _=q.ups.map (fun x=>Fm.part (k+ ((0:Nat):Int)) x);rw [show k+ ((0:Nat):Int)=k by omega]
 | cons r rs ih=>
  intro q
  show r.ups.map _++bE (k+1) (rs++[q])=(r.ups.map _++bE (k+1) rs)++_
  rw [ih,List.append_assoc]
  have:k+1+ (rs.length:Int)=k+ ((r::rs).length:Int):=by rw [List.length_cons];omega
  rw [this]
structure Rul where
 pl:Int
 word:Str
 fm:Fm
structure Frm where
 name:Str
 own:Srt
 parts:List Srt
 rules:List Rul
noncomputable def RepR (H:Hp) (r:Rul) (v:V):Prop:= ∃ a u,v=.ref a/\H a=some (.tup [.int r.pl,.str r.word,u])/\Rep H r.fm u
theorem RepR.mono {H H':Hp} (t:TK H H') {r:Rul} {v:V}:RepR H r v->RepR H' r v:=fun ⟨a,u,e,h,p⟩=>⟨a,u,e,t _ _ h,p.mono t⟩
noncomputable def RepRs (H:Hp) (rs:List Rul) (vs:List V):Prop:=Paired (RepR H) rs vs
theorem RepRs.mono {H H':Hp} (t:TK H H') {rs:List Rul} {vs:List V} (h:RepRs H rs vs):RepRs H' rs vs:=Paired.mapP h fun _ _ r=>r.mono t
theorem RepRs.len {H:Hp} {rs:List Rul} {vs:List V} (h:RepRs H rs vs):rs.length=vs.length:=Paired.length h
noncomputable def bJ (qs:List Srt):List V:=qs.map fun q=>V.str (Srt.name q)
noncomputable def RepF (H:Hp) (fr:Frm) (v:V):Prop:= ∃ a pa ra rv,v=.ref a/\H a=some (.tup [.str fr.name,.str fr.own.name,.ref pa,.ref ra])/\H pa=some (.tup (bJ fr.parts))/\H ra=some (.tup rv)/\RepRs H fr.rules rv
theorem RepF.mono {H H':Hp} (t:TK H H') {fr:Frm} {v:V}:RepF H fr v->RepF H' fr v:=fun ⟨a,pa,ra,rv,e,h1,h2,h3,h4⟩=>⟨a,pa,ra,rv,e,t _ _ h1,t _ _ h2,t _ _ h3,h4.mono t⟩
noncomputable def nV:Fm->Prop
 | .own x=>a5 x=true
 | .part k x=>(0<=k/\k<=2)/\a5 x=true
 | _=>False
theorem mG {k:Int}: ∀ {qs:List Srt} {t:Int×Str},t∈bV k qs->k<=t.1/\t.1<k+qs.length/\ ∃ q∈qs,t.2∈q.downs:=by
 intro qs
 induction qs generalizing k with
 | nil=>intro t h;cases h
 | cons q r ih=>
  intro t h
  unfold bV at h
  rw [List.mem_append]at h
  rcases h with h | h
  ·obtain ⟨x,hx,rfl⟩:=List.mem_map.mp h
   exact ⟨Int.le_refl _,by rw [List.length_cons];show k<_;omega,q,List.mem_cons_self,hx⟩
  ·obtain ⟨h1,h2,q',h3,h4⟩:=ih h
   exact ⟨by omega,by rw [List.length_cons];omega,q',List.mem_cons_of_mem _ h3,h4⟩
theorem nw {k:Int}: ∀ {qs:List Srt} {f:Fm},f∈bE k qs-> ∃ j x,f=.part j x/\k<=j/\j<k+qs.length/\ ∃ q∈qs,x∈q.ups:=by
 intro qs
 induction qs generalizing k with
 | nil=>intro t h;cases h
 | cons q r ih=>
  intro t h
  unfold bE at h
  rw [List.mem_append]at h
  rcases h with h | h
  ·obtain ⟨x,hx,rfl⟩:=List.mem_map.mp h
   exact ⟨k,x,rfl,Int.le_refl _,by rw [List.length_cons];omega,q,List.mem_cons_self,hx⟩
  ·obtain ⟨j,x,e,h1,h2,q',h3,h4⟩:=ih h
   exact ⟨j,x,e,by omega,by rw [List.length_cons];omega,q',List.mem_cons_of_mem _ h3,h4⟩
theorem iQ {α β:Type} {F:α->β->Prop}: ∀ {l:List α} {r:List β} {b:β},Paired F l r->b∈r-> ∃ a∈l,F a b:=fun {l r b} h m=>by
 obtain ⟨i,hi⟩:=List.getElem?_of_mem m
 obtain ⟨a,ha,f⟩:=aL h hi
 exact ⟨a,List.mem_of_getElem? ha,f⟩
theorem sD {H:Hp} {f:Fm} {v:V} (hl:nV f) (h:uL H (fmV f) v):Rep H f v/\f.size=1:=by
 obtain ⟨a,rfl,ha⟩:=h
 cases f with
 | own x=>exact ⟨⟨a,rfl,ha⟩,rfl⟩
 | part k x=>exact ⟨⟨a,rfl,ha⟩,rfl⟩
 | num n=>exact hl.elim
 | bin op x y=>exact hl.elim
 | whn x y z=>exact hl.elim
theorem sC {ρ:Fm->Prop} {f:Fm} (hl:nV f) (h:ρ f):f.wfp ρ:=by
 cases f with
 | own x=>exact ⟨hl,h⟩
 | part k x=>exact ⟨hl,h⟩
 | num n=>exact hl.elim
 | bin op x y=>exact hl.elim
 | whn x y z=>exact hl.elim
structure Bk where
 wheel:Int
 sorts:List Srt
 forms:List Frm
noncomputable def RepFs (H:Hp) (fs:List Frm) (vs:List V):Prop:=Paired (RepF H) fs vs
theorem RepFs.mono {H H':Hp} (t:TK H H') {fs:List Frm} {vs:List V} (h:RepFs H fs vs):RepFs H' fs vs:=Paired.mapP h fun _ _ r=>r.mono t
theorem RepFs.len {H:Hp} {fs:List Frm} {vs:List V} (h:RepFs H fs vs):fs.length=vs.length:=Paired.length h
noncomputable def RepB (H:Hp) (b:Bk) (v:V):Prop:= ∃ a sa fa fv,v=.ref a/\H a=some (.tup [.int b.wheel,.ref sa,.ref fa])/\SrtsAt H sa b.sorts/\H fa=some (.tup fv)/\RepFs H b.forms fv
theorem RepB.mono {H H':Hp} (t:TK H H') {b:Bk} {v:V}:RepB H b v->RepB H' b v:=fun ⟨a,sa,fa,fv,e,h1,h2,h3,h4⟩=>⟨a,sa,fa,fv,e,t _ _ h1,h2.mono t,t _ _ h3,h4.mono t⟩
theorem SqL.keep {K:PySem.W.Frag} {H H':Hp} {a:Addr} {xs:List V} (h:SqL K H a xs) (k: ∀ o,H a=some o->H' a=some o):SqL K H' a xs:=by
 rcases h with (h | ⟨o,h⟩) | h
 ·exact .inl (.inl (k _ h))
 ·exact .inl (.inr ⟨o,k _ h⟩)
 ·exact .inr h
noncomputable def w6 (K:PySem.W.Frag):List V->Hp->VK->Prop:=fun xs H Q=> ∃ p ys,xs=[.ref p]/\(SqL K H p ys\/SqT K H p ys)/\Q (.int ys.length) H
noncomputable def ux (s:Stmt):List Stmt:=match s with
 | .For _ _ b _ _=>b
 | _=>[]
theorem uk {d:Int} (h0:0<=d) (h1:d<5): ∃ m:Int,atI [V.int 2,.int 1,.int 3,.int 2,.int 0] d=some (.int m)/\0<=m/\m<=3:=by
 have h5:d=0\/d=1\/d=2\/d=3\/d=4:=by omega
 rcases h5 with h | h | h | h | h <;> subst h <;> exact ⟨_,rfl,by decide,by decide⟩
theorem vn {K:PySem.W.Frag} {a:Addr} {xs:List V} {H1:Hp} (ha:H1 a=some (.tup xs)): ∀ i H,Same H1 H->i<xs.length->(Itt K a).go i H:=fun i H s h=>⟨xs,xs[i],SqT.of (s _ _ ha),List.getElem?_eq_getElem h⟩
theorem vm {K:PySem.W.Frag} {a:Addr} {xs:List V} {H1:Hp} (ha:H1 a=some (.tup xs)): ∀ H,Same H1 H->(Itt K a).stop xs.length H:=fun H s=>⟨xs,SqT.of (s _ _ ha),Nat.le_refl _⟩
theorem wk {K:PySem.W.Frag} {a:Addr} {xs:List V} {H1:Hp} (ha:H1 a=some (.tup xs)): ∀ i H v H',Same H1 H->(Itt K a).yld i H v H'->H'=H/\xs[i]? =some v:=fun i H v H' s hv=>⟨hv.1,by obtain ⟨rfl,hv⟩:=hv;exact hv xs (SqT.of (s _ _ ha))⟩
theorem sZ {α:Type} {J:It} {as:List α} {xs:List V} {A:α->V->Prop} {fr:List Nat} {tc:TT} {te:TE} {σ:St} {H1:Hp} {Q:VK} (hn:xs.length<=1000) (hP:Paired A as xs)
  (hgo: ∀ i H,Same H1 H->i<xs.length->J.go i H) (hst: ∀ H,Same H1 H->J.stop xs.length H) (hy: ∀ i H v H',Same H1 H->J.yld i H v H'->H'=H/\xs[i]? =some v)
  (c:α->Bool) (R:Hp->α->V->Prop) (mono: ∀ {H H':Hp} {a:α} {v:V},TK H H'->R H a v->R H' a v)
  (htc: ∀ a v H (k:Bool->Hp->Prop),a∈as->A a v->Same H1 H->k (c a) H->tc (some v::cn fr σ) H k)
  (hte: ∀ a v H (k:VK),a∈as->A a v->c a=true->Same H1 H->(∀ u H',Same H H'->R H' a u->k u H')->te (some v::cn fr σ) H k)
  (hd: ∀ p zs H',H1 p=none->Same H1 H'->H' p=some (.lst zs)->Paired (R H') (as.filter c) zs->Q (.ref p) H'):jJ fr tc te σ J H1 Q:=by
 intro p hp
 refine ⟨fun i m zs H=>i<=xs.length/\m=xs.length-i/\Same H1 H/\H p=some (.lst zs)/\zs.length<=i/\Paired (R H) ((as.take i).filter c) zs,⟨_,Nat.zero_le _,rfl,ai hp _,ac,Nat.le_refl _,.nil⟩,?_⟩
 rintro i m zs H ⟨hi,hm,sm,gp,hz,hT⟩
 refine ⟨gp,?_⟩
 by_cases e:i=xs.length
 ·subst e
  rw [<- Paired.length hP,List.take_length]at hT
  exact .inl ⟨hst H sm,hd p zs H hp sm gp hT⟩
 ·have hlt:i<xs.length:=by omega
  refine .inr ⟨hgo i H sm hlt,aF (by omega),fun v H' hv=>?_⟩
  obtain ⟨rfl,hv2⟩:=hy i H v H' sm hv
  obtain ⟨a,ha,hA⟩:=aL hP hv2
  have etk:(as.take (i+1)).filter c=(as.take i).filter c++(if c a then [a]else []):=take_succ_filter c as i a ha
  refine htc a v _ _ (List.mem_of_getElem? ha) hA sm ?_
  by_cases hc:c a=true
  ·rw [if_pos hc]at etk
   show if c a=true then _ else _
   rw [if_pos hc]
   refine hte a v _ _ (List.mem_of_getElem? ha) hA hc sm fun u H2 s2 r=>?_
   have gp2:=s2 _ _ gp
   have tk:TK H2 (upd H2 p (.lst (zs++[u]))):=TK.lst gp2
   refine ⟨gp2,xs.length- (i+1),by omega,by omega,rfl,?_,ac,by rw [List.length_append];show zs.length+1<=i+1;omega,?_⟩
   ·intro b o hb
    rw [am (aj hb hp)]
    exact s2 _ _ (sm _ _ hb)
   ·rw [etk]
    exact Paired.snoc (Paired.mapP hT fun _ _ r=>mono ((aC s2).trans tk) r) (mono tk r)
  ·rw [if_neg hc,List.append_nil]at etk
   show if c a=true then _ else _
   rw [if_neg hc]
   exact ⟨xs.length- (i+1),by omega,by omega,rfl,sm,gp,by omega,by rw [etk];exact hT⟩
theorem ou {ss:List Srt} (nd:(ss.map Srt.name).Nodup) {a b:Srt} (ha:a∈ss) (hb:b∈ss) (e:a.name=b.name):a=b:=by
 obtain ⟨i,hi⟩:=List.getElem?_of_mem ha
 obtain ⟨j,hj⟩:=List.getElem?_of_mem hb
 have q1:(ss.map Srt.name)[i]? =some a.name:=by rw [List.getElem?_map,hi];rfl
 have q2:(ss.map Srt.name)[j]? =some a.name:=by rw [List.getElem?_map,hj,e];rfl
 have:=iV nd q1 q2
 subst this
 rw [hi]at hj
 exact Option.some.inj hj
structure BkS (bk:Bk):Prop where
 few:bk.forms.length<=10
 nd:(bk.forms.map Frm.name).Nodup
 s4:bk.sorts.length<=4
 sd:(bk.sorts.map Srt.name).Nodup
 ws: ∀ s∈bk.sorts,s.downs.length<=3/\s.ups.length<=3/\(s.downs++s.ups).Nodup/\ ∀ x∈s.downs++s.ups,x.length<=1000
 fo: ∀ fr∈bk.forms,fr.own∈bk.sorts/\(∀ q∈fr.parts,q∈bk.sorts)/\fr.parts.length<=3/\fr.rules.map (fun r=>(r.pl,r.word))=dy fr.own fr.parts/\ ∀ r∈fr.rules,r.fm.wf/\r.fm.size<=15
theorem gu {k:Int}: ∀ {qs:List Srt},(∀ q∈qs,q.downs.length<=3)->(bV k qs).length<=3*qs.length
 | [],_=>Nat.le_refl _
 | q::r,h=>by
  have h1:=gu (k:=k+1) (qs:=r) fun x hx=>h x (List.mem_cons_of_mem _ hx)
  have h2:=h q List.mem_cons_self
  show (q.downs.map (fun x=>(k,x))++bV (k+1) r).length<=_
  rw [List.length_append,List.length_map,List.length_cons]
  omega
theorem BkS.rules12 {bk:Bk} (h:BkS bk) {fr:Frm} (m:fr∈bk.forms):fr.rules.length<=12:=by
 obtain ⟨h1,h2,h3,h4,_⟩:=h.fo fr m
 have e:=congrArg List.length h4
 rw [List.length_map]at e
 have h5:=gu (k:=0) (qs:=fr.parts) fun q hq=>(h.ws q (h2 q hq)).1
 have h6:=(h.ws _ h1).2.1
 have h7:(dy fr.own fr.parts).length=fr.own.ups.length+ (bV 0 fr.parts).length:=by
  unfold dy
  rw [List.length_append,List.length_map]
 omega
noncomputable def dN:Sp:=fun vs H Q _=> ∃ bv bk,vs=[bv]/\RepB H bk bv/\ ∀ fa fv,H fa=some (.tup fv)->RepFs H bk.forms fv->Q (.ref fa) H
noncomputable def cH:Sp:=fun vs H Q _=> ∃ v fr,vs=[v]/\RepF H fr v/\Q (.str fr.own.name) H
noncomputable def da:Sp:=fun vs H Q _=> ∃ v fr,vs=[v]/\RepF H fr v/\ ∀ pa,H pa=some (.tup (bJ fr.parts))->Q (.ref pa) H
theorem pL:ay ["book"] ["book"] (ag iI):=fsc
theorem nQ (F:Fun K "forms_of" "forms_of" iI f fd):FnOk P w K mg base CX0 1 f fd ["book"] dN:=by
 refine F.ok pL (fun vs H Q E h=>?_) (fun cdv A outer s H vs Q E hr h=>?_)
 ·obtain ⟨bv,bk,rfl,_⟩:=h
  rfl
 obtain ⟨bv,bk,rfl,⟨a,sa,fa,fv,rfl,ha,_,hfa,hF⟩,q⟩:=h
 refine ⟨_,ah (au (av aq (pv 0) ae (fun _ _=>rfl))),?_⟩
 exact ⟨_,rfl,a,_,2,_,rfl,rfl,SqT.of ha,aB (j:=2) rfl,q fa fv hfa hF⟩
theorem jQ:ay ["form"] ["form"] (ag eJ):=fsc
theorem jl (F:Fun K "sort_of_form" "sort_of_form" eJ f fd):FnOk P w K mg base CX0 1 f fd ["form"] cH:=by
 refine F.ok jQ (fun vs H Q E h=>?_) (fun cdv A outer s H vs Q E hr h=>?_)
 ·obtain ⟨v,fr,rfl,_⟩:=h
  rfl
 obtain ⟨v,fr,rfl,⟨a,pa,ra,rv,rfl,ha,_⟩,q⟩:=h
 refine ⟨_,ah (au (av aq (pv 0) ae (fun _ _=>rfl))),?_⟩
 exact ⟨_,rfl,a,_,1,_,rfl,rfl,SqT.of ha,aB (j:=1) rfl,q⟩
theorem pH:ay ["form"] ["form"] (ag iF):=fsc
theorem nJ (F:Fun K "parts_of" "parts_of" iF f fd):FnOk P w K mg base CX0 1 f fd ["form"] da:=by
 refine F.ok pH (fun vs H Q E h=>?_) (fun cdv A outer s H vs Q E hr h=>?_)
 ·obtain ⟨v,fr,rfl,_⟩:=h
  rfl
 obtain ⟨v,fr,rfl,⟨a,pa,ra,rv,rfl,ha,hpa,_⟩,q⟩:=h
 refine ⟨_,ah (au (av aq (pv 0) ae (fun _ _=>rfl))),?_⟩
 exact ⟨_,rfl,a,_,2,_,rfl,rfl,SqT.of ha,aB (j:=2) rfl,q pa hpa⟩
noncomputable def dL:Sp:=fun vs H Q _=> ∃ bv bk,vs=[bv]/\RepB H bk bv/\ ∀ sa sv,H sa=some (.tup sv)->RepSs H bk.sorts sv->Q (.ref sa) H
noncomputable def eI:Sp:=fun vs H Q _=> ∃ bv bk nm s,vs=[bv,.str nm]/\RepB H bk bv/\BkS bk/\s∈bk.sorts/\Srt.name s=nm/\ ∀ v H',Same H H'->RepS H' s v->Q v H'
noncomputable def jN:Sp:=fun vs H Q _=> ∃ bv bk nm s,vs=[bv,.str nm]/\RepB H bk bv/\BkS bk/\s∈bk.sorts/\Srt.name s=nm/\ ∀ b H',Same H H'->H' b=some (.tup (List.map V.str (Srt.downs s)))->Q (.ref b) H'
noncomputable def qP:Sp:=fun vs H Q _=> ∃ bv bk nm s,vs=[bv,.str nm]/\RepB H bk bv/\BkS bk/\s∈bk.sorts/\Srt.name s=nm/\ ∀ b H',Same H H'->H' b=some (.tup (List.map V.str (Srt.ups s)))->Q (.ref b) H'
noncomputable def dM:Sp:=fun vs H Q _=> ∃ v fr,vs=[v]/\RepF H fr v/\ ∀ ra rv,H ra=some (.tup rv)->RepRs H fr.rules rv->Q (.ref ra) H
noncomputable def fU (r:Rul):List Key:=[.inl r.pl,.inr r.word]
noncomputable def oB:Sp:=fun vs H Q _=> ∃ v fr,vs=[v]/\RepF H fr v/\fr.rules.length<=12/\ ∀ d kvs H',H d=none->Same H H'->H' d=some (.dT kvs)->kvs.length<=12->(∀ r∈fr.rules,∃ x,cT kvs (fU r)=some x)->(∀ kv∈kvs,∃ r∈fr.rules,Rep H' r.fm kv.2)->Q (.ref d) H'
theorem tQ {κ:Type} [DecidableEq κ] {kvs:List (κ×V)} {k:κ} {v:V} {kv:κ×V} (h:kv∈c7 kvs k v):kv∈kvs\/kv.2=v:=by
 unfold c7 at h
 split at h
 ·obtain ⟨p,hp,e⟩:=List.mem_map.mp h
  by_cases c:p.1=k
  ·rw [if_pos c]at e
   exact .inr (by rw [<- e])
  ·rw [if_neg c]at e
   exact .inl (by rw [<- e];exact hp)
 ·rcases List.mem_append.mp h with h | h
  ·exact .inl h
  ·have:kv=(k,v):=by simpa using h
   exact .inr (by rw [this])
theorem pF:ay ["book"] ["book"] (ag iD):=fsc
theorem nH (F:Fun K "sorts_of" "sorts_of" iD f fd):FnOk P w K mg base CX0 1 f fd ["book"] dL:=by
 refine F.ok pF (fun vs H Q E h=>?_) (fun cdv A outer s H vs Q E hr h=>?_)
 ·obtain ⟨bv,bk,rfl,_⟩:=h
  rfl
 obtain ⟨bv,bk,rfl,⟨a,sa,fa,fv,rfl,ha,⟨sx,hsa,hS⟩,_⟩,q⟩:=h
 refine ⟨_,ah (au (av aq (pv 0) ae (fun _ _=>rfl))),?_⟩
 exact ⟨_,rfl,a,_,1,_,rfl,rfl,SqT.of ha,aB (j:=1) rfl,q sa sx hsa hS⟩
theorem lr:ay ["book","name"] ["book","name"] (ag ef):=fsc
theorem kn (F:Fun K "sort_named" "sort_named" ef f fd)
  (GF:FnOk P w K mg base CX0 1 f2 fd2 ["book"] dL) (bF:Binds K fd2 ["book"] []) (kF:PySem.W.keepIn K (.ref f2)=true) (mF:mg "sorts_of"=some (.ref f2)):FnOk P w K mg base CX0 2 f fd ["book","name"] eI:=by
 refine F.ok lr (fun vs H Q E h=>?_) (fun cdv A outer s H vs Q E hr h=>?_)
 ·obtain ⟨bv,bk,nm,fr,rfl,_⟩:=h
  rfl
 obtain ⟨bv,bk,nm,fr,rfl,hB,hok,hf,hn,q⟩:=h
 refine ⟨_,ah (au (av bn (iN (sc0:=ag ef) (N0:=["book","name"]) (ys:=["name"]) (fr:=[1]) rfl
   (a8 (af GF hr rfl mF kF bF .nil al (aa (pv 0) ab))) rfl rfl
   cok
   (fun C s H ex=>az aZ (av (r:=gJ K) aq (pv 0) ae (fun _ _=>rfl)) (pv 1) (aE _))
   (fun C s H ex=>pv 0)) ae (fun _ _=>rfl))),?_⟩
 refine ⟨_,rfl,bv,bk,rfl,hB,fun fa fv hfa hF=>?_⟩
 have h4:=hok.s4
 have lF:=hF.len
 refine ⟨fa,rfl,⟨fv,SqT.of hfa⟩,?_⟩
 refine sZ (by omega) hF (vn hfa) (vm hfa) (wk hfa) (fun fr=>decide (Srt.name fr=nm)) (fun H fr v=>RepS H fr v) (fun t h=>h.mono t) ?_ ?_ ?_
 ·rintro sr v H' k _ ⟨a1,b1,c1,rfl,g1,_⟩ s' hk
  refine ⟨_,rfl,a1,_,0,.str sr.name,rfl,rfl,SqT.of (s' _ _ g1),aT,_,rfl,rfl,_,rfl,?_⟩
  rw [show decide (V.str sr.name=V.str nm)=decide (sr.name=nm)from decide_eq_decide.mpr ⟨fun e=>V.str.inj e,fun e=>by rw [e]⟩]
  exact hk
 ·rintro sr v H' k _ hR _ s' hk
  exact ⟨_,rfl,hk _ _ (fun _ _ h=>h) (hR.mono (aC s'))⟩
 ·intro p zs H' hp s' gp hz
  have hm:fr∈bk.sorts.filter fun fr=>decide (Srt.name fr=nm):=List.mem_filter.mpr ⟨hf,decide_eq_true hn⟩
  cases hfl:bk.sorts.filter fun fr=>decide (Srt.name fr=nm)with
  | nil=>rw [hfl]at hm;cases hm
  | cons x r=>
   rw [hfl]at hz
   cases hz with
   | @cons _ z _ zr hx _=>
    have hxm:x∈bk.sorts.filter fun fr=>decide (Srt.name fr=nm):=by rw [hfl];exact List.mem_cons_self
    have e:x=fr:=ou hok.sd (List.mem_filter.mp hxm).1 hf (by rw [of_decide_eq_true (List.mem_filter.mp hxm).2,hn])
    subst e
    exact ⟨p,_,0,z,rfl,rfl,SqL.of gp,aT,q z H' s' hx⟩
theorem tJ:ay ["book","sort"] ["book","sort"] (ag nu):=fsc
theorem rY (F:Fun K "downs_of" "downs_of" nu f fd)
  (GN:FnOk P w K mg base CX0 2 f2 fd2 ["book","name"] eI) (bN:Binds K fd2 ["book","name"] []) (kN:PySem.W.keepIn K (.ref f2)=true) (mN:mg "sort_named"=some (.ref f2)):FnOk P w K mg base CX0 3 f fd ["book","sort"] jN:=by
 refine F.ok tJ (fun vs H Q E h=>?_) (fun cdv A outer s H vs Q E hr h=>?_)
 ·obtain ⟨bv,bk,nm,sr,rfl,_⟩:=h
  rfl
 obtain ⟨bv,bk,nm,sr,rfl,hB,hok,hs,hn,q⟩:=h
 refine ⟨_,ah (au (av aq (af GN hr rfl mN kN bN .nil al (aa (pv 0) (aa (pv 1) ab))) ae (fun _ _=>rfl))),?_⟩
 refine ⟨_,rfl,_,rfl,bv,bk,nm,sr,rfl,hB,hok,hs,hn,fun v H' s' hR=>?_⟩
 obtain ⟨a,b,c,rfl,ha,hb,_⟩:=hR
 exact ⟨a,_,1,.ref b,rfl,rfl,SqT.of ha,aB (j:=1) rfl,q b H' s' hb⟩
theorem vS:ay ["book","sort"] ["book","sort"] (ag uV):=fsc
theorem vb (F:Fun K "ups_of" "ups_of" uV f fd)
  (GN:FnOk P w K mg base CX0 2 f2 fd2 ["book","name"] eI) (bN:Binds K fd2 ["book","name"] []) (kN:PySem.W.keepIn K (.ref f2)=true) (mN:mg "sort_named"=some (.ref f2)):FnOk P w K mg base CX0 3 f fd ["book","sort"] qP:=by
 refine F.ok vS (fun vs H Q E h=>?_) (fun cdv A outer s H vs Q E hr h=>?_)
 ·obtain ⟨bv,bk,nm,sr,rfl,_⟩:=h
  rfl
 obtain ⟨bv,bk,nm,sr,rfl,hB,hok,hs,hn,q⟩:=h
 refine ⟨_,ah (au (av aq (af GN hr rfl mN kN bN .nil al (aa (pv 0) (aa (pv 1) ab))) ae (fun _ _=>rfl))),?_⟩
 refine ⟨_,rfl,_,rfl,bv,bk,nm,sr,rfl,hB,hok,hs,hn,fun v H' s' hR=>?_⟩
 obtain ⟨a,b,c,rfl,ha,hb,hc⟩:=hR
 exact ⟨a,_,2,.ref c,rfl,rfl,SqT.of ha,aB (j:=2) rfl,q c H' s' hc⟩
theorem pG:ay ["form"] ["form"] (ag iE):=fsc
theorem nI (F:Fun K "rules_of" "rules_of" iE f fd):FnOk P w K mg base CX0 1 f fd ["form"] dM:=by
 refine F.ok pG (fun vs H Q E h=>?_) (fun cdv A outer s H vs Q E hr h=>?_)
 ·obtain ⟨v,fr,rfl,_⟩:=h
  rfl
 obtain ⟨v,fr,rfl,⟨a,pa,ra,rv,rfl,ha,hpa,hra,hR⟩,q⟩:=h
 refine ⟨_,ah (au (av aq (pv 0) ae (fun _ _=>rfl))),?_⟩
 exact ⟨_,rfl,a,_,3,_,rfl,rfl,SqT.of ha,aB (j:=3) rfl,q ra rv hra hR⟩
noncomputable abbrev vE:List Str:=["form","found","at","word","formula"]
theorem scByKey:ay vE ["form"] (ag j9):=fsc
theorem se (F:Fun K "formulas_by_key" "formulas_by_key" j9 f fd)
  (GR:FnOk P w K mg base CX0 1 f2 fd2 ["form"] dM) (bR:Binds K fd2 ["form"] []) (kR:PySem.W.keepIn K (.ref f2)=true) (mR:mg "rules_of"=some (.ref f2)):FnOk P w K mg base CX0 2 f fd ["form"] oB:=by
 refine F.ok scByKey (fun vs H Q E h=>?_) (fun cdv A outer s H vs Q E hr h=>?_)
 ·obtain ⟨v,fr,rfl,_⟩:=h
  rfl
 obtain ⟨v,fr,rfl,hF,h12,q⟩:=h
 have hu:=ma hr
 refine ⟨_,ad (aw (i:=1) scByKey.nd rfl (Or.inl rfl) iM)
  (ad (cf PassesOwn.never rfl (a8 (af GR hr rfl mR kR bR .nil al (aa (pv 0) ab)))
    (gK rfl (bc (aO (i:=2) scByKey.nd rfl (Or.inl rfl)) (bc (aO (i:=3) scByKey.nd rfl (Or.inl rfl)) (bc (aO (i:=4) scByKey.nd rfl (Or.inl rfl)) fh))))
   (ah (kg hu (pv 1) (aS (aa (pv 2) (aa (pv 3) ab))) (pv 4) rfl)))
  (ah (au (pv 1)))),?_⟩
 refine fun d hd=>?_
 have s0:=ai hd (.dT [])
 have g0:(upd H d (.dT [])) d=some (.dT []):=ac
 generalize upd H d (.dT [])=H0 at s0 g0 ⊢
 refine ⟨_,rfl,v,fr,rfl,hF.mono (aC s0),fun ra rv hra hR=>?_⟩
 refine ⟨ra,rfl,⟨rv,SqT.of hra⟩,?_⟩
 have lR:=hR.len
 have hra':=hra
 refine c8 (xs:=rv) (fun i σ H'=>i<=rv.length/\ ∃ o2 o3 o4 kvs,σ=[some v,some (.ref d),o2,o3,o4]/\Same H H'/\H' ra=some (.tup rv)/\RepRs H' fr.rules rv/\H' d=some (.dT kvs)/\kvs.length<=i/\(∀ r∈fr.rules.take i,∃ x,cT kvs (fU r)=some x)/\ ∀ kv∈kvs,∃ r∈fr.rules,Rep H' r.fm kv.2)
  ⟨Nat.zero_le _,none,none,none,[],rfl,s0,hra,hR,g0,Nat.le_refl _,fun r h=>(by cases h),fun kv h=>(by cases h)⟩ (fun i σ H' _ h=>by obtain ⟨_,_,_,_,_,_,_,g,_⟩:=h;exact SqT.of g) ?_ ?_
 ·rintro i x σ H1 hx ⟨_,o2,o3,o4,kvs,rfl,S1,gra,hR1,gd,hl,hv,hall⟩
  have hil:i<rv.length:=(List.getElem?_eq_some_iff.mp hx).1
  obtain ⟨r,hr',a,u,rfl,ha,hu'⟩:=aL hR1 hx
  refine ⟨a,_,rfl,SqT.of ha,rfl,_,_,rfl,_,_,rfl,_,_,rfl,rfl,?_⟩
  refine ⟨_,rfl,_,rfl,_,rfl,_,rfl,(by show 2<=sizeLine;decide),fun t ht=>?_⟩
  have s2:=ai ht (.tup [.int r.pl,.str r.word])
  have g2:(upd H1 t (.tup [.int r.pl,.str r.word])) t=some (.tup ((fU r).map kV)):=ac
  generalize upd H1 t (.tup [.int r.pl,.str r.word])=H2 at s2 g2 ⊢
  refine ⟨d,_,rfl,DPut.t (s2 _ _ gd) g2 (aF (by omega)),?_⟩
  have tk:TK H1 (upd H2 d (.dT (c7 kvs (fU r) u))):=fun b xs e=>by
   rw [am (fun z=>by rw [z,gd]at e;cases e)]
   exact s2 _ _ e
  refine ⟨hil,_,_,_,_,rfl,?_,tk _ _ gra,hR1.mono tk,ac,?_,?_,?_⟩
  ·intro y o h
   rw [am (aj h hd)]
   exact s2 _ _ (S1 _ _ h)
  ·have:=dD kvs (fU r) u
   omega
  ·intro r' hm
   rw [qG]
   by_cases c:fU r'=fU r
   ·rw [if_pos c];exact ⟨_,rfl⟩
   ·rw [if_neg c]
    rw [List.take_add_one,hr']at hm
    rcases List.mem_append.mp hm with h | h
    ·exact hv r' h
    ·have:r'=r:=by simpa using h
     exact absurd (by rw [this]) c
  ·intro kv hkv
   rcases tQ hkv with h | h
   ·obtain ⟨r0,h1,h2⟩:=hall kv h
    exact ⟨r0,h1,h2.mono tk⟩
   ·exact ⟨r,List.mem_of_getElem? hr',by rw [h];exact hu'.mono tk⟩
 ·rintro σ H1 ⟨_,o2,o3,o4,kvs,rfl,S1,gra,hR1,gd,hl,hv,hall⟩
  rw [<- lR,List.take_length]at hv
  exact ⟨_,rfl,q d kvs H1 hd S1 gd (by omega) hv hall⟩
theorem qX:ay ["found"] ["found"] (ag jY):=fsc
theorem qd (F:Fun K "_law_whole" "_law_whole" jY f fd) (G:Gb mg):FnOk P w K mg base CX0 1 f fd ["found"] eY:=by
 refine F.ok qX (fun vs H Q E h=>?_) (fun cdv A outer s H vs Q E hr h=>?_)
 ·obtain ⟨v,rfl,_⟩:=h
  rfl
 obtain ⟨v,rfl,hS,q⟩:=h
 refine ⟨_,ah (au (ck (ao bq rfl G.isi (by decide +kernel) (aa (pv 0) (aa (bw (v:=.ty "int") rfl G.int (by decide +kernel) rfl) ab)))
  (cB (rF (ao bq rfl G.isi (by decide +kernel) (aa (pv 0) (aa (bw (v:=.ty "bool") rfl G.bool (by decide +kernel) rfl) ab))))))),?_⟩
 have e:=oT hS
 refine ⟨_,rfl,v,"int",rfl,hS,by simp,_,rfl,?_⟩
 refine bo (fun c=>?_) (fun c=>?_)
 ·rw [if_pos c]at e
  refine ⟨_,rfl,v,"bool",rfl,hS,by simp,_,rfl,?_⟩
  exact qb q e.symm
 ·rw [if_neg c]at e
  exact qb q e.symm
theorem uT:ay ["found","due"] ["found","due"] (ag rc):=fsc
theorem bQ {J:It} {α:Type} {as:List α} {A:α->V->Prop} {xs:List V} {fr:List Nat} {te:TE} {σ:St} {H1:Hp} {Q:VK} (hn:xs.length<=1000) (hP:Paired A as xs)
  (hgo: ∀ i H,Same H1 H->i<xs.length->J.go i H) (hst: ∀ H,Same H1 H->J.stop xs.length H) (hy: ∀ i H v H',Same H1 H->J.yld i H v H'->H'=H/\xs[i]? =some v)
  (R:Hp->α->V->Prop) (mono: ∀ {H H':Hp} {a:α} {v:V},TK H H'->R H a v->R H' a v)
  (hte: ∀ a v H (k:VK),a∈as->A a v->Same H1 H->(∀ u H',Same H H'->R H' a u->k u H')->te (some v::cn fr σ) H k)
  (hd: ∀ p zs H',H1 p=none->Same H1 H'->H' p=some (.lst zs)->Paired (R H') as zs->Q (.ref p) H'):eF fr te σ J H1 Q:=by
 intro p hp
 have hl:as.length=xs.length:=Paired.length hP
 refine ⟨fun i m zs H=>i<=xs.length/\m=xs.length-i/\Same H1 H/\H p=some (.lst zs)/\zs.length=i/\Paired (R H) (as.take i) zs,⟨_,Nat.zero_le _,rfl,ai hp _,ac,rfl,.nil⟩,?_⟩
 rintro i m zs H ⟨hi,hm,sm,gp,hz,hT⟩
 refine ⟨gp,?_⟩
 by_cases e:i=xs.length
 ·subst e
  rw [<- hl,List.take_length]at hT
  exact .inl ⟨hst H sm,hd p zs H hp sm gp hT⟩
 ·have hlt:i<xs.length:=by omega
  refine .inr ⟨hgo i H sm hlt,aF (by omega),fun v H' hv=>?_⟩
  obtain ⟨rfl,hv2⟩:=hy i H v H' sm hv
  obtain ⟨a,ha,hA⟩:=aL hP hv2
  refine hte a v _ _ (List.mem_of_getElem? ha) hA sm fun u H2 s2 r=>?_
  have gp2:=s2 _ _ gp
  have tk:TK H2 (upd H2 p (.lst (zs++[u]))):=TK.lst gp2
  refine ⟨gp2,xs.length- (i+1),by omega,by omega,rfl,?_,ac,by rw [List.length_append,hz];rfl,?_⟩
  ·intro b o hb
   rw [am (aj hb hp)]
   exact s2 _ _ (sm _ _ hb)
  ·rw [List.take_add_one,ha]
   exact Paired.snoc (Paired.mapP hT fun _ _ r=>mono ((aC s2).trans tk) r) (mono tk r)
theorem ik {α:Type} {J:It} {as:List α} {xs:List V} {A:α->V->Prop} {fr:List Nat} {tc:TT} {te:TE} {σ:St} {H1:Hp} {Q:VK} (hn:xs.length<=1000) (hP:Paired A as xs)
  (hgo: ∀ i H,Same H1 H->i<xs.length->J.go i H) (hst: ∀ H,Same H1 H->J.stop xs.length H) (hy: ∀ i H v H',Same H1 H->J.yld i H v H'->H'=H/\xs[i]? =some v)
  (c:α->Bool) (R:Hp->α->V->Prop) (mono: ∀ {H H':Hp} {a:α} {v:V},TK H H'->R H a v->R H' a v)
  (htc: ∀ a v H (k:Bool->Hp->Prop),a∈as->A a v->Same H1 H->(∀ H',Same H H'->k (c a) H')->tc (some v::cn fr σ) H k)
  (hte: ∀ a v H (k:VK),a∈as->A a v->c a=true->Same H1 H->(∀ u H',Same H H'->R H' a u->k u H')->te (some v::cn fr σ) H k)
  (hd: ∀ p zs H',H1 p=none->Same H1 H'->H' p=some (.lst zs)->Paired (R H') (as.filter c) zs->Q (.ref p) H'):jJ fr tc te σ J H1 Q:=by
 intro p hp
 refine ⟨fun i m zs H=>i<=xs.length/\m=xs.length-i/\Same H1 H/\H p=some (.lst zs)/\zs.length<=i/\Paired (R H) ((as.take i).filter c) zs,⟨_,Nat.zero_le _,rfl,ai hp _,ac,Nat.le_refl _,.nil⟩,?_⟩
 rintro i m zs H ⟨hi,hm,sm,gp,hz,hT⟩
 refine ⟨gp,?_⟩
 by_cases e:i=xs.length
 ·subst e
  rw [<- Paired.length hP,List.take_length]at hT
  exact .inl ⟨hst H sm,hd p zs H hp sm gp hT⟩
 ·have hlt:i<xs.length:=by omega
  refine .inr ⟨hgo i H sm hlt,aF (by omega),fun v H' hv=>?_⟩
  obtain ⟨rfl,hv2⟩:=hy i H v H' sm hv
  obtain ⟨a,ha,hA⟩:=aL hP hv2
  have etk:(as.take (i+1)).filter c=(as.take i).filter c++(if c a then [a]else []):=by
   rw [List.take_add_one,ha,List.filter_append]
   congr 1
   show List.filter c [a]=_
   by_cases hc:c a=true
   ·rw [if_pos hc,List.filter_cons_of_pos hc];rfl
   ·rw [if_neg hc,List.filter_cons_of_neg hc];rfl
  refine htc a v _ _ (List.mem_of_getElem? ha) hA sm fun H0 s0=>?_
  have sm0:=sm.trans s0
  have gp0:=s0 _ _ gp
  by_cases hc:c a=true
  ·rw [if_pos hc]at etk
   rw [if_pos hc]
   refine hte a v _ _ (List.mem_of_getElem? ha) hA hc sm0 fun u H2 s2 r=>?_
   have gp2:=s2 _ _ gp0
   have tk:TK H2 (upd H2 p (.lst (zs++[u]))):=TK.lst gp2
   refine ⟨gp2,xs.length- (i+1),by omega,by omega,rfl,?_,ac,by rw [List.length_append];show zs.length+1<=i+1;omega,?_⟩
   ·intro b o hb
    rw [am (aj hb hp)]
    exact s2 _ _ (sm0 _ _ hb)
   ·rw [etk]
    exact Paired.snoc (Paired.mapP hT fun _ _ r=>mono ((aC (s0.trans s2)).trans tk) r) (mono tk r)
  ·rw [if_neg hc,List.append_nil]at etk
   rw [if_neg hc]
   exact ⟨xs.length- (i+1),by omega,by omega,rfl,sm0,gp0,by omega,by rw [etk];exact Paired.mapP hT fun _ _ r=>mono (aC s0) r⟩
theorem dG {K:PySem.W.Frag} {a:Addr} {xs:List V} {H1:Hp} (ha:H1 a=some (.lst xs)): ∀ i H,Same H1 H->i<xs.length->(Itl K a).go i H:=fun i H s h=>⟨xs,xs[i],SqL.of (s _ _ ha),List.getElem?_eq_getElem h⟩
theorem dE {K:PySem.W.Frag} {a:Addr} {xs:List V} {H1:Hp} (ha:H1 a=some (.lst xs)): ∀ H,Same H1 H->(Itl K a).stop xs.length H:=fun H s=>⟨xs,SqL.of (s _ _ ha),Nat.le_refl _⟩
theorem eW {K:PySem.W.Frag} {a:Addr} {xs:List V} {H1:Hp} (ha:H1 a=some (.lst xs)): ∀ i H v H',Same H1 H->(Itl K a).yld i H v H'->H'=H/\xs[i]? =some v:=fun i H v H' s hv=>⟨hv.1,by obtain ⟨rfl,hv⟩:=hv;exact hv xs (SqL.of (s _ _ ha))⟩
theorem bz {K:PySem.W.Frag} {a:Addr} {xs:List V} {H1:Hp} (ha:H1 a=some (.tup xs)): ∀ i H,Same H1 H->i<xs.length->(Itt K a).go i H:=fun i H s h=>⟨xs,xs[i],SqT.of (s _ _ ha),List.getElem?_eq_getElem h⟩
theorem bx {K:PySem.W.Frag} {a:Addr} {xs:List V} {H1:Hp} (ha:H1 a=some (.tup xs)): ∀ H,Same H1 H->(Itt K a).stop xs.length H:=fun H s=>⟨xs,SqT.of (s _ _ ha),Nat.le_refl _⟩
theorem cv {K:PySem.W.Frag} {a:Addr} {xs:List V} {H1:Hp} (ha:H1 a=some (.tup xs)): ∀ i H v H',Same H1 H->(Itt K a).yld i H v H'->H'=H/\xs[i]? =some v:=fun i H v H' s hv=>⟨hv.1,by obtain ⟨rfl,hv⟩:=hv;exact hv xs (SqT.of (s _ _ ha))⟩
theorem fq: ∀ ps:List Srt,Paired (fun (p:Srt) (v:V)=>v=.str p.name) ps (bJ ps)
 | []=>.nil
 | _::r=>.cons rfl (fq r)
theorem bf {α:Type} {g:α->V}: ∀ {l:List α} {zs:List V},Paired (fun a v=>v=g a) l zs->zs=l.map g
 | _,_,.nil=>rfl
 | _,_,.cons h t=>by rw [h,bf t];rfl
theorem cJ {J:It} {α:Type} {as:List α} {A:α->V->Prop} {xs:List V} {fr:List Nat} {te:TE} {σ:St} {H1:Hp} {Q:VK} (hn:xs.length<=1000) (hP:Paired A as xs)
  (hgo: ∀ i H,Same H1 H->i<xs.length->J.go i H) (hst: ∀ H,Same H1 H->J.stop xs.length H) (hy: ∀ i H v H',Same H1 H->J.yld i H v H'->H'=H/\xs[i]? =some v)
  (hte: ∀ a v H (k:VK),a∈as->A a v->Same H1 H->(∀ H',Same H H'->k (.bl true) H')->te (some v::cn fr σ) H k)
  (hd: ∀ p (bs:List Bool) H',bs.all id=true->H1 p=none->Same H1 H'->H' p=some (.lst (bs.map V.bl))->Q (.ref p) H'):eF fr te σ J H1 Q:=by
 refine bQ hn hP hgo hst hy (fun _ _ v=>v=.bl true) (fun _ h=>h) (fun a v H k ha hA s' hk=>hte a v H k ha hA s' fun H' s2=>hk _ H' s2 rfl) fun p zs H' hp s' g hz=>?_
 have e:=bf (g:=fun _=>V.bl true) hz
 refine hd p (as.map fun _=>true) H' ?_ hp s' ?_
 ·rw [List.all_map]
  exact List.all_eq_true.mpr fun _ _=>rfl
 ·rw [List.map_map,g,e]
  rfl
noncomputable def cx (fr:Frm):Fm->Prop
 | .own x=>x∈fr.own.downs++fr.own.ups
 | .part k x=> ∃ (j:Nat) (q:Srt),k=(j:Int)/\fr.parts[j]? =some q/\x∈q.downs++q.ups
 | _=>True
noncomputable def Fm.prt:Fm->List Int
 | .num _=>[]
 | .own _=>[]
 | .part k _=>[k]
 | .bin _ a b=>a.prt++b.prt
 | .whn a b c=>a.prt++(b.prt++c.prt)
noncomputable def Fm.lvl:Fm->Prop
 | .num _=>True
 | .own _=>False
 | .part _ _=>True
 | .bin op a b=>a.lvl/\b.lvl/\(op="times"-> ∀ k∈a.prt,k∉b.prt)
 | .whn a b c=>a.lvl/\b.lvl/\c.lvl
structure BkV (bk:Bk):Prop where
 s:BkS bk
 wh:bk.wheel=0\/(2<=bk.wheel/\bk.wheel<=10^30)
 s1:1<=bk.sorts.length
 f1:1<=bk.forms.length
 sw: ∀ s∈bk.sorts,a5 s.name=true/\ ∀ x∈s.downs++s.ups,a5 x=true
 fw: ∀ fr∈bk.forms,a5 fr.name=true
 rd: ∀ fr∈bk.forms,∀ r∈fr.rules,r.fm.wfp (cx fr)
noncomputable def eZ:Sp:=fun vs H Q _=> ∃ (a:Addr) (xs:List V) (lo hi:Int),vs=[.ref a,.int lo,.int hi]/\H a=some (.tup xs)/\lo<=(xs.length:Int)/\(xs.length:Int)<=hi/\Q (.bl true) H
noncomputable def fB:Sp:=fun vs H Q _=> ∃ (a:Addr) (ws:List Str) (hi:Int),vs=[.ref a,.int hi]/\H a=some (.tup (ws.map V.str))/\(ws.length:Int)<=hi/\ws.length<=1000/\(∀ x∈ws,a5 x=true)/\ ∀ H',Same H H'->Q (.bl true) H'
noncomputable def js:Sp:=fun vs H Q _=> ∃ n:Int,vs=[.int n]/\0<=n/\n<=10^30/\n≠1/\Q (.bl true) H
noncomputable def gY:Sp:=fun vs H Q _=> ∃ v r,vs=[v]/\RepR H r v/\a5 r.word=true/\ ∀ H',Same H H'->Q (.bl true) H'
noncomputable def gW:Sp:=fun vs H Q _=> ∃ v s,vs=[v]/\RepS H s v/\a5 s.name=true/\(∀ x∈s.downs++s.ups,a5 x=true)/\s.downs.length<=3/\s.ups.length<=3/\ ∀ H',Same H H'->Q (.bl true) H'
noncomputable def hJ:Sp:=fun vs H Q _=> ∃ v fr,vs=[v]/\RepF H fr v/\a5 fr.name=true/\a5 fr.own.name=true/\(∀ q∈fr.parts,a5 q.name=true)/\fr.parts.length<=3/\(∀ r∈fr.rules,a5 r.word=true)/\fr.rules.length<=12/\ ∀ H',Same H H'->Q (.bl true) H'
noncomputable def iy:Sp:=fun vs H Q _=> ∃ bv bk,vs=[bv]/\RepB H bk bv/\BkV bk/\ ∀ H',Same H H'->Q (.bl true) H'
noncomputable def gC:Sp:=fun vs H Q _=> ∃ bv bk,vs=[bv]/\RepB H bk bv/\Q (.int bk.wheel) H
theorem iY {H:Hp} {a:Addr} {xs:List V} (h:H a=some (.tup xs)):isV "tuple" H (.ref a)=true:=by simp only [isV,h];rfl
theorem dB: ∀ ws:List Str,Paired (fun (x:Str) (v:V)=>v=.str x) ws (ws.map V.str)
 | []=>.nil
 | _::r=>.cons rfl (dB r)
theorem tH:ay ["thing","fewest","most"] ["thing","fewest","most"] (ag nq):=fsc
theorem rW (F:Fun K "is_row" "is_row" nq f fd) (G:Gb mg):FnOk P w K mg base CX0 1 f fd ["thing","fewest","most"] eZ:=by
 refine F.ok tH (fun vs H Q E h=>?_) (fun cdv A outer s H vs Q E hr h=>?_)
 ·obtain ⟨a,xs,lo,hi,rfl,_⟩:=h
  rfl
 obtain ⟨a,xs,lo,hi,rfl,ha,h1,h2,q⟩:=h
 refine ⟨_,ah (au (ck (ao bq rfl G.isi (by decide +kernel) (aa (pv 0) (aa (bw (v:=.ty "tuple") rfl G.tuple (by decide +kernel) rfl) ab)))
  (cB (iO ft ft (pv 1) (ao aA rfl G.len PySem.boot_len (aa (pv 0) ab)) (pv 2))))),?_⟩
 refine ⟨_,rfl,.ref a,"tuple",rfl,.inr (.inl ⟨xs,ha⟩),by simp,_,rfl,?_⟩
 rw [iY ha]
 refine aY ⟨_,rfl,_,rfl,a,xs,rfl,.inr (SqT.of ha),lo,(xs.length:Int),rfl,rfl,_,rfl,?_⟩
 rw [decide_eq_true h1]
 refine aY ⟨_,rfl,(xs.length:Int),hi,rfl,rfl,?_⟩
 exact qb q (decide_eq_true h2).symm
theorem nh:ay ["thing","most"] ["thing","most"] (ag fe):=fsc
theorem lO (F:Fun K "is_row_of_words" "is_row_of_words" fe f fd) (G:Gb mg)
  (GR:FnOk P w K mg base CX0 1 f2 fd2 ["thing","fewest","most"] eZ) (bR:Binds K fd2 ["thing","fewest","most"] []) (kR:PySem.W.keepIn K (.ref f2)=true) (mR:mg "is_row"=some (.ref f2))
  (GW:FnOk P w K mg base CX0 1 f3 fd3 ["thing"] gB) (bW:Binds K fd3 ["thing"] []) (kW:PySem.W.keepIn K (.ref f3)=true) (mW:mg "is_word"=some (.ref f3)):
  FnOk P w K mg base CX0 2 f fd ["thing","most"] fB:=by
 refine F.ok nh (fun vs H Q E h=>?_) (fun cdv A outer s H vs Q E hr h=>?_)
 ·obtain ⟨a,ws,hi,rfl,_⟩:=h
  rfl
 obtain ⟨a,ws,hi,rfl,ha,h1,h2,hw,q⟩:=h
 refine ⟨_,ah (au (ck (af GR hr rfl mR kR bR .nil al (aa (pv 0) (aa ae (aa (pv 1) ab))))
  (cB (ao (cp rfl) rfl G.all (by decide +kernel) (aa (a9 (sc0:=ag fe) (N0:=["thing","most"]) (ys:=[]) (fr:=[]) rfl (a8 (pv 0)) rfl rfl
   cok (fun C s H ex=>af GW hr rfl mW kW bW .nil al (aa (pv 0) ab))) ab))))),?_⟩
 have hl:(ws.map V.str).length=ws.length:=List.length_map _
 refine ⟨_,rfl,_,rfl,a,_,0,hi,rfl,ha,by omega,by omega,true,rfl,aY ?_⟩
 refine ⟨_,rfl,a,rfl,⟨_,SqT.of ha⟩,?_⟩
 refine cJ (by omega) (dB ws) (bz ha) (bx ha) (cv ha) ?_ ?_
 ·rintro x v H1 k hx rfl s1 hk
  exact ⟨_,rfl,_,rfl,a7 (hw x hx),fun H2 s2=>by rw [show cX (.str x)=true from hw x hx];exact hk H2 s2⟩
 ·intro p bs H1 hbs hp s1 g1
  exact ⟨p,bs,rfl,SqL.of g1,by rw [hbs];exact q H1 s1⟩
theorem pE:ay ["book"] ["book"] (ag iC):=fsc
theorem nG (F:Fun K "wheel_of" "wheel_of" iC f fd):FnOk P w K mg base CX0 1 f fd ["book"] gC:=by
 refine F.ok pE (fun vs H Q E h=>?_) (fun cdv A outer s H vs Q E hr h=>?_)
 ·obtain ⟨bv,bk,rfl,_⟩:=h
  rfl
 obtain ⟨bv,bk,rfl,⟨a,sa,fa,fv,rfl,ha,_⟩,q⟩:=h
 refine ⟨_,ah (au (av aq (pv 0) ae (fun _ _=>rfl))),?_⟩
 exact ⟨_,rfl,a,_,0,_,rfl,rfl,SqT.of ha,aT,q⟩
theorem pK:ay ["thing"] ["thing"] (ag iH):=fsc
theorem nN (F:Fun K "is_wheel" "is_wheel" iH f fd)
  (GI:FnOk P w K mg base CX0 2 f2 fd2 ["thing","lowest","highest"] iq) (bI:Binds K fd2 ["thing","lowest","highest"] []) (kI:PySem.W.keepIn K (.ref f2)=true) (mI:mg "is_whole_within"=some (.ref f2)):
  FnOk P w K mg base CX0 3 f fd ["thing"] js:=by
 refine F.ok pK (fun vs H Q E h=>?_) (fun cdv A outer s H vs Q E hr h=>?_)
 ·obtain ⟨n,rfl,_⟩:=h
  rfl
 obtain ⟨n,rfl,h1,h2,h3,q⟩:=h
 refine ⟨_,ah (au (ck (af GI hr rfl mI kI bI .nil al (aa (pv 0) (aa ae (aa (aJ u8 ae ae) ab)))) (cB (bm iS (pv 0) ae (aE _))))),?_⟩
 refine ⟨_,rfl,10,30,rfl,rfl,⟨by decide,by decide,by decide⟩,.int n,0,_,rfl,trivial,true,?_,?_⟩
 ·show V.bl (decide (0<=n)&&decide (n<=10^30))=V.bl true
  rw [decide_eq_true h1,decide_eq_true h2]
  rfl
 refine aY ⟨_,rfl,rfl,?_⟩
 exact qb q (by rw [decide_eq_false fun z=>h3 (V.int.inj z)];rfl)
theorem lx:ay ["thing"] ["thing"] (ag fD):=fsc
theorem ko (F:Fun K "has_rule_shape" "has_rule_shape" fD f fd)
  (GR:FnOk P w K mg base CX0 1 f2 fd2 ["thing","fewest","most"] eZ) (bR:Binds K fd2 ["thing","fewest","most"] []) (kR:PySem.W.keepIn K (.ref f2)=true) (mR:mg "is_row"=some (.ref f2))
  (GW:FnOk P w K mg base CX0 1 f3 fd3 ["thing"] gB) (bW:Binds K fd3 ["thing"] []) (kW:PySem.W.keepIn K (.ref f3)=true) (mW:mg "is_word"=some (.ref f3))
  (GH:FnOk P w K mg base CX0 1 f4 fd4 ["thing"] eY) (bH:Binds K fd4 ["thing"] []) (kH:PySem.W.keepIn K (.ref f4)=true) (mH:mg "is_whole"=some (.ref f4)):
  FnOk P w K mg base CX0 2 f fd ["thing"] gY:=by
 refine F.ok lx (fun vs H Q E h=>?_) (fun cdv A outer s H vs Q E hr h=>?_)
 ·obtain ⟨v,r,rfl,_⟩:=h
  rfl
 obtain ⟨v,r,rfl,⟨a,u,rfl,ha,_⟩,hw,q⟩:=h
 refine ⟨_,ah (au (ck (af GR hr rfl mR kR bR .nil al (aa (pv 0) (aa ae (aa ae ab))))
  (ck (af GH hr rfl mH kH bH .nil al (aa (av aq (pv 0) ae (fun _ _=>rfl)) ab))
  (cB (af GW hr rfl mW kW bW .nil al (aa (av aq (pv 0) ae (fun _ _=>rfl)) ab)))))),?_⟩
 refine ⟨_,rfl,a,_,3,3,rfl,ha,(by show (3:Int)<=3;decide),(by show (3:Int)<=3;decide),true,rfl,aY ?_⟩
 refine ⟨_,rfl,a,_,0,_,rfl,rfl,SqT.of ha,aT,_,rfl,trivial,true,rfl,aY ?_⟩
 exact ⟨_,rfl,a,_,1,.str r.word,rfl,rfl,SqT.of ha,aB (j:=1) rfl,_,rfl,a7 hw,fun H' s'=>qb (q H' s') (show true=cX (.str r.word)from hw.symm)⟩
theorem lp:ay ["thing"] ["thing"] (ag fC):=fsc
theorem km (F:Fun K "has_sort_shape" "has_sort_shape" fC f fd) {t3:Tok} (m3:mg "MOST_WORTHS"=some (.int 3 t3))
  (GR:FnOk P w K mg base CX0 1 f2 fd2 ["thing","fewest","most"] eZ) (bR:Binds K fd2 ["thing","fewest","most"] []) (kR:PySem.W.keepIn K (.ref f2)=true) (mR:mg "is_row"=some (.ref f2))
  (GW:FnOk P w K mg base CX0 1 f3 fd3 ["thing"] gB) (bW:Binds K fd3 ["thing"] []) (kW:PySem.W.keepIn K (.ref f3)=true) (mW:mg "is_word"=some (.ref f3))
  (GS:FnOk P w K mg base CX0 2 f4 fd4 ["thing","most"] fB) (bS:Binds K fd4 ["thing","most"] []) (kS:PySem.W.keepIn K (.ref f4)=true) (mS:mg "is_row_of_words"=some (.ref f4)):
  FnOk P w K mg base CX0 3 f fd ["thing"] gW:=by
 refine F.ok lp (fun vs H Q E h=>?_) (fun cdv A outer s H vs Q E hr h=>?_)
 ·obtain ⟨v,r,rfl,_⟩:=h
  rfl
 obtain ⟨v,sr,rfl,⟨a,b,c,rfl,ha,hb,hc⟩,hn,hw,h1,h2,q⟩:=h
 have hr1:=hr.mono (show 1<=2 by decide)
 refine ⟨_,ad (aK (PW.pt (cY (aV (aN (af GR hr1 rfl mR kR bR .nil al (aa (pv 0) (aa ae (aa ae ab))))))
   (cA (aV (aN (af GW hr1 rfl mW kW bW .nil al (aa (av aq (pv 0) ae (fun _ _=>rfl)) ab))))))) aM ax)
  (ah (au (ck (af GS hr rfl mS kS bS .nil al (aa (av aq (pv 0) ae (fun _ _=>rfl)) (aa (cg (v:=.int 3) rfl m3 ⟨_,rfl⟩) ab)))
   (cB (af GS hr rfl mS kS bS .nil al (aa (av aq (pv 0) ae (fun _ _=>rfl)) (aa (cg (v:=.int 3) rfl m3 ⟨_,rfl⟩) ab))))))),?_⟩
 refine ⟨_,rfl,a,_,3,3,rfl,ha,(by show (3:Int)<=3;decide),(by show (3:Int)<=3;decide),true,rfl,aH ?_⟩
 refine ⟨_,rfl,a,_,0,.str sr.name,rfl,rfl,SqT.of ha,aT,_,rfl,a7 hn,fun H1 s1=>⟨true,(show V.bl (a5 sr.name)=V.bl true by rw [hn]),aH ?_⟩⟩
 refine ⟨_,rfl,a,_,1,.ref b,rfl,rfl,SqT.of (s1 _ _ ha),aB (j:=1) rfl,b,sr.downs,3,rfl,s1 _ _ hb,by omega,by omega,fun x hx=>hw x (List.mem_append_left _ hx),fun H2 s2=>⟨true,rfl,aY ?_⟩⟩
 have S2:=s1.trans s2
 exact ⟨_,rfl,a,_,2,.ref c,rfl,rfl,SqT.of (S2 _ _ ha),aB (j:=2) rfl,c,sr.ups,3,rfl,S2 _ _ hc,by omega,by omega,fun x hx=>hw x (List.mem_append_right _ hx),fun H3 s3=>q H3 (S2.trans s3)⟩
theorem lB:ay ["thing"] ["thing"] (ag eh):=fsc
theorem kr (F:Fun K "has_form_shape" "has_form_shape" eh f fd) (G:Gb mg) {t3:Tok} (m3:mg "MOST_PARTS"=some (.int 3 t3))
  (GR:FnOk P w K mg base CX0 1 f2 fd2 ["thing","fewest","most"] eZ) (bR:Binds K fd2 ["thing","fewest","most"] []) (kR:PySem.W.keepIn K (.ref f2)=true) (mR:mg "is_row"=some (.ref f2))
  (GW:FnOk P w K mg base CX0 1 f3 fd3 ["thing"] gB) (bW:Binds K fd3 ["thing"] []) (kW:PySem.W.keepIn K (.ref f3)=true) (mW:mg "is_word"=some (.ref f3))
  (GS:FnOk P w K mg base CX0 2 f4 fd4 ["thing","most"] fB) (bS:Binds K fd4 ["thing","most"] []) (kS:PySem.W.keepIn K (.ref f4)=true) (mS:mg "is_row_of_words"=some (.ref f4))
  (GO:FnOk P w K mg base CX0 1 f5 fd5 ["form"] cH) (bO:Binds K fd5 ["form"] []) (kO:PySem.W.keepIn K (.ref f5)=true) (mO:mg "sort_of_form"=some (.ref f5))
  (GP:FnOk P w K mg base CX0 1 f6 fd6 ["form"] da) (bP:Binds K fd6 ["form"] []) (kP:PySem.W.keepIn K (.ref f6)=true) (mP:mg "parts_of"=some (.ref f6))
  (GU:FnOk P w K mg base CX0 1 f7 fd7 ["form"] dM) (bU:Binds K fd7 ["form"] []) (kU:PySem.W.keepIn K (.ref f7)=true) (mU:mg "rules_of"=some (.ref f7))
  (GT:FnOk P w K mg base CX0 2 f8 fd8 ["thing"] gY) (bT:Binds K fd8 ["thing"] []) (kT:PySem.W.keepIn K (.ref f8)=true) (mT:mg "has_rule_shape"=some (.ref f8)):
  FnOk P w K mg base CX0 3 f fd ["thing"] hJ:=by
 refine F.ok lB (fun vs H Q E h=>?_) (fun cdv A outer s H vs Q E hr h=>?_)
 ·obtain ⟨v,r,rfl,_⟩:=h
  rfl
 obtain ⟨v,fr,rfl,hF,hn,ho,hp,h3,hu,h12,q⟩:=h
 obtain ⟨a,pa,ra,rv,rfl,ha,hpa,hra,hR⟩:=id hF
 have hr1:=hr.mono (show 1<=2 by decide)
 refine ⟨_,ad (aK (PW.pt (cY (aV (aN (af GR hr1 rfl mR kR bR .nil al (aa (pv 0) (aa ae (aa ae ab))))))
   (cY (aV (aN (af GW hr1 rfl mW kW bW .nil al (aa (av aq (pv 0) ae (fun _ _=>rfl)) ab))))
   (cA (aV (aN (af GW hr1 rfl mW kW bW .nil al (aa (af GO hr1 rfl mO kO bO .nil al (aa (pv 0) ab)) ab)))))))) aM ax)
  (ad (aK (PW.pt (cY (aV (aN (af GS hr rfl mS kS bS .nil al (aa (af GP hr1 rfl mP kP bP .nil al (aa (pv 0) ab)) (aa (cg (v:=.int 3) rfl m3 ⟨_,rfl⟩) ab)))))
   (cA (aV (aN (ao bq rfl G.isi (by decide +kernel) (aa (af GU hr1 rfl mU kU bU .nil al (aa (pv 0) ab)) (aa (bw (v:=.ty "tuple") rfl G.tuple (by decide +kernel) rfl) ab)))))))) aM ax)
  (ah (au (ao (cp rfl) rfl G.all (by decide +kernel) (aa (a9 (sc0:=ag eh) (N0:=["thing"]) (ys:=[]) (fr:=[]) rfl (a8 (af GU hr1 rfl mU kU bU .nil al (aa (pv 0) ab))) rfl rfl
   cok (fun C s H ex=>af GT hr rfl mT kT bT .nil al (aa (pv 0) ab))) ab))))),?_⟩
 refine ⟨_,rfl,a,_,4,4,rfl,ha,(by show (4:Int)<=4;decide),(by show (4:Int)<=4;decide),true,rfl,aH ?_⟩
 refine ⟨_,rfl,a,_,0,.str fr.name,rfl,rfl,SqT.of ha,aT,_,rfl,a7 hn,fun H1 s1=>⟨true,(show V.bl (a5 fr.name)=V.bl true by rw [hn]),aH ?_⟩⟩
 refine ⟨_,rfl,_,fr,rfl,hF.mono (aC s1),_,rfl,a7 ho,fun H2 s2=>⟨true,(show V.bl (a5 fr.own.name)=V.bl true by rw [ho]),aH ?_⟩⟩
 have S2:=s1.trans s2
 refine ⟨_,rfl,_,fr,rfl,hF.mono (aC S2),fun pb hpb=>?_⟩
 refine ⟨pb,fr.parts.map Srt.name,3,rfl,(by rw [hpb];unfold bJ;rw [List.map_map];rfl),by rw [List.length_map];omega,by rw [List.length_map];omega,fun x hx=>?_,fun H3 s3=>⟨true,rfl,aH ?_⟩⟩
 ·obtain ⟨qq,hq,rfl⟩:=List.mem_map.mp hx
  exact hp qq hq
 have S3:=S2.trans s3
 refine ⟨_,rfl,_,fr,rfl,hF.mono (aC S3),fun rb rw' hrb hRb=>?_⟩
 refine ⟨_,"tuple",rfl,.inr (.inl ⟨_,hrb⟩),by simp,true,(by rw [iY hrb]),aH ?_⟩
 refine ⟨_,rfl,_,fr,rfl,hF.mono (aC S3),fun rb rw' hrb hRb=>?_⟩
 have lR:=hRb.len
 refine ⟨rb,rfl,⟨_,SqT.of hrb⟩,?_⟩
 refine cJ (by omega) hRb (bz hrb) (bx hrb) (cv hrb) ?_ ?_
 ·rintro r v H4 k hr' hRr s4 hk
  exact ⟨_,rfl,v,r,rfl,hRr.mono (aC s4),hu r hr',hk⟩
 ·intro p bs H4 hbs hp4 s4 g4
  exact ⟨p,bs,rfl,SqL.of g4,by rw [hbs];exact q H4 (S3.trans s4)⟩
noncomputable def te3 (te:TE):TE:=fun σ H k=>match σ with
 | some x::r=> ∃ T v1 v2 v3,x=.ref T/\H T=some (.tup [v1,v2,v3])/\te (some v1::some v2::some v3::r) H k
 | _=>False
theorem uK {fr:List Nat} {te:TE} {σ:St} {J:It} {H1:Hp} {Q:VK} (h:eF fr (te3 te) σ J H1 Q):ot fr te σ J H1 Q:=h
theorem BkV.ruleWord {bk:Bk} (hok:BkV bk) {fr:Frm} (hfr:fr∈bk.forms) {r:Rul} (hr:r∈fr.rules):a5 r.word=true:=by
 obtain ⟨o1,o2,o3,o4,_⟩:=hok.s.fo fr hfr
 have hm:(r.pl,r.word)∈dy fr.own fr.parts:=by rw [<- o4];exact List.mem_map.mpr ⟨r,hr,rfl⟩
 unfold dy at hm
 rcases List.mem_append.mp hm with h | h
 ·obtain ⟨x,hx,e⟩:=List.mem_map.mp h
  rw [<- (Prod.mk.inj e).2]
  exact (hok.sw _ o1).2 x (List.mem_append_right _ hx)
 ·obtain ⟨_,_,q,hq,hd⟩:=mG h
  exact (hok.sw _ (o2 q hq)).2 _ (List.mem_append_left _ hd)
noncomputable def lb (K:PySem.W.Frag):Sp:=fun vs H Q _=> ∃ (a:Addr) (ws:List Str),vs=[.ref a]/\(H a=some (.lst (ws.map V.str))\/H a=some (.tup (ws.map V.str)))/\ws.Nodup/\ws.length<=1000/\Q (.bl true) H
theorem scHasShape:ay ["thing","sorts_are_made"] ["thing"] (ag dQ):=fsc
theorem lQ (F:Fun K "has_shape" "has_shape" dQ f fd) (G:Gb mg) {t4 t10:Tok} (m4:mg "MOST_SORTS"=some (.int 4 t4)) (m10:mg "MOST_FORMS"=some (.int 10 t10))
  (GR:FnOk P w K mg base CX0 1 f2 fd2 ["thing","fewest","most"] eZ) (bR:Binds K fd2 ["thing","fewest","most"] []) (kR:PySem.W.keepIn K (.ref f2)=true) (mR:mg "is_row"=some (.ref f2))
  (GW:FnOk P w K mg base CX0 3 f3 fd3 ["thing"] js) (bW:Binds K fd3 ["thing"] []) (kW:PySem.W.keepIn K (.ref f3)=true) (mW:mg "is_wheel"=some (.ref f3))
  (GO:FnOk P w K mg base CX0 1 f4 fd4 ["book"] gC) (bO:Binds K fd4 ["book"] []) (kO:PySem.W.keepIn K (.ref f4)=true) (mO:mg "wheel_of"=some (.ref f4))
  (GS:FnOk P w K mg base CX0 1 f5 fd5 ["book"] dL) (bS:Binds K fd5 ["book"] []) (kS:PySem.W.keepIn K (.ref f5)=true) (mS:mg "sorts_of"=some (.ref f5))
  (GF:FnOk P w K mg base CX0 1 f6 fd6 ["book"] dN) (bF:Binds K fd6 ["book"] []) (kF:PySem.W.keepIn K (.ref f6)=true) (mF:mg "forms_of"=some (.ref f6))
  (GH:FnOk P w K mg base CX0 3 f7 fd7 ["thing"] gW) (bH:Binds K fd7 ["thing"] []) (kH:PySem.W.keepIn K (.ref f7)=true) (mH:mg "has_sort_shape"=some (.ref f7))
  (GM:FnOk P w K mg base CX0 3 f8 fd8 ["thing"] hJ) (bM:Binds K fd8 ["thing"] []) (kM:PySem.W.keepIn K (.ref f8)=true) (mM:mg "has_form_shape"=some (.ref f8)):
  FnOk P w K mg base CX0 4 f fd ["thing"] iy:=by
 refine F.ok scHasShape (fun vs H Q E h=>?_) (fun cdv A outer s H vs Q E hr h=>?_)
 ·obtain ⟨v,r,rfl,_⟩:=h
  rfl
 obtain ⟨bv,bk,rfl,hB,hok,q⟩:=h
 obtain ⟨a,sa,fa,fv,rfl,ha,_⟩:=id hB
 have hr1:=hr.mono (show 1<=3 by decide)
 refine ⟨_,ad (aK (PW.pt (cY (aV (aN (af GR hr1 rfl mR kR bR .nil al (aa (pv 0) (aa ae (aa ae ab))))))
   (cA (aV (aN (af GW hr rfl mW kW bW .nil al (aa (af GO hr1 rfl mO kO bO .nil al (aa (pv 0) ab)) ab))))))) aM ax)
  (ad (aK (PW.pt (cY (aV (aN (af GR hr1 rfl mR kR bR .nil al (aa (af GS hr1 rfl mS kS bS .nil al (aa (pv 0) ab)) (aa ae (aa (cg (v:=.int 4) rfl m4 ⟨_,rfl⟩) ab))))))
   (cA (aV (aN (af GR hr1 rfl mR kR bR .nil al (aa (af GF hr1 rfl mF kF bF .nil al (aa (pv 0) ab)) (aa ae (aa (cg (v:=.int 10) rfl m10 ⟨_,rfl⟩) ab))))))))) aM ax)
  (ad (aw (i:=1) scHasShape.nd rfl (Or.inl rfl) (ao (cp rfl) rfl G.all (by decide +kernel) (aa (a9 (sc0:=ag dQ) (N0:=["thing","sorts_are_made"]) (ys:=[]) (fr:=[]) rfl (a8 (af GS hr1 rfl mS kS bS .nil al (aa (pv 0) ab))) rfl rfl
   cok (fun C s H ex=>af GH hr rfl mH kH bH .nil al (aa (pv 0) ab))) ab)))
  (ah (au (ck (pv 1) (cB (ao (cp rfl) rfl G.all (by decide +kernel) (aa (a9 (sc0:=ag dQ) (N0:=["thing","sorts_are_made"]) (ys:=[]) (fr:=[]) rfl (a8 (af GF hr1 rfl mF kF bF .nil al (aa (pv 0) ab))) rfl rfl
   cok (fun C s H ex=>af GM hr rfl mM kM bM .nil al (aa (pv 0) ab))) ab)))))))),?_⟩
 have h4:=hok.s.s4
 have h10:=hok.s.few
 have hs1:=hok.s1
 have hf1:=hok.f1
 have hwh:0<=bk.wheel/\bk.wheel<=10^30/\bk.wheel≠1:=by
  rcases hok.wh with e | ⟨e1,e2⟩
  ·rw [e];exact ⟨by decide,by decide,by decide⟩
  ·exact ⟨by omega,e2,by omega⟩
 refine ⟨_,rfl,a,_,3,3,rfl,ha,(by show (3:Int)<=3;decide),(by show (3:Int)<=3;decide),true,rfl,aH ?_⟩
 refine ⟨_,rfl,_,bk,rfl,hB,bk.wheel,rfl,hwh.1,hwh.2.1,hwh.2.2,true,rfl,aH ?_⟩
 refine ⟨_,rfl,_,bk,rfl,hB,fun sb sx hsb hS=>?_⟩
 have lS:=hS.len
 refine ⟨sb,sx,1,4,rfl,hsb,by omega,by omega,true,rfl,aH ?_⟩
 refine ⟨_,rfl,_,bk,rfl,hB,fun fb fx hfb hF=>?_⟩
 have lF:=hF.len
 refine ⟨fb,fx,1,10,rfl,hfb,by omega,by omega,true,rfl,aH ?_⟩
 refine ⟨_,rfl,_,bk,rfl,hB,fun sb sx hsb hS=>?_⟩
 have lS:=hS.len
 refine ⟨sb,rfl,⟨_,SqT.of hsb⟩,?_⟩
 refine cJ (by omega) hS (bz hsb) (bx hsb) (cv hsb) ?_ ?_
 ·rintro sr v H1 k hsr hRs s1 hk
  obtain ⟨w1,w2⟩:=hok.sw sr hsr
  obtain ⟨d1,d2,_⟩:=hok.s.ws sr hsr
  exact ⟨_,rfl,v,sr,rfl,hRs.mono (aC s1),w1,w2,d1,d2,hk⟩
 intro p bs H1 hbs hp s1 g1
 refine ⟨p,bs,rfl,SqL.of g1,?_⟩
 rw [hbs]
 refine ⟨_,rfl,true,rfl,aY ?_⟩
 have hB1:=hB.mono (aC s1)
 refine ⟨_,rfl,_,bk,rfl,hB1,fun fb fx hfb hF=>?_⟩
 have lF:=hF.len
 refine ⟨fb,rfl,⟨_,SqT.of hfb⟩,?_⟩
 refine cJ (by omega) hF (bz hfb) (bx hfb) (cv hfb) ?_ ?_
 ·rintro fr v H2 k hfr hRf s2 hk
  obtain ⟨o1,o2,o3,o4,_⟩:=hok.s.fo fr hfr
  refine ⟨_,rfl,v,fr,rfl,hRf.mono (aC s2),hok.fw fr hfr,(hok.sw _ o1).1,fun qq hq=>(hok.sw _ (o2 qq hq)).1,o3,fun r hr'=>?_,hok.s.rules12 hfr,hk⟩
  exact hok.ruleWord hfr hr'
 intro p2 bs2 H2 hbs2 hp2 s2 g2
 exact ⟨p2,bs2,rfl,SqL.of g2,by rw [hbs2];exact q H2 (s1.trans s2)⟩
theorem qV:ay ["words"] ["words"] (ag jS):=fsc
theorem pW (F:Fun K "are_unlike" "are_unlike" jS f fd) (G:Gb mg) (hset:mg "set"=none):FnOk P w K mg base CX0 1 f fd ["words"] (lb K):=by
 refine F.ok qV (fun vs H Q E h=>?_) (fun cdv A outer s H vs Q E hr h=>?_)
 ·obtain ⟨v,r,rfl,_⟩:=h
  rfl
 obtain ⟨a,ws,rfl,ha,nd,hl,q⟩:=h
 refine ⟨_,ah (au (bm aZ (pS rfl rfl G.len rfl hset (pv 0)) (ao aA rfl G.len PySem.boot_len (aa (pv 0) ab)) (aE _))),?_⟩
 have hsq:SqL K H a (ws.map V.str)\/SqT K H a (ws.map V.str):=ha.imp SqL.of SqT.of
 refine ⟨_,rfl,a,ws,rfl,hsq,hl,_,rfl,a,_,rfl,hsq,rfl,?_⟩
 refine qb q (decide_eq_true ?_).symm
 rw [jA (by rw [List.nil_append];exact nd),List.nil_append,List.length_map]
noncomputable def iz:Sp:=fun vs H Q _=> ∃ bv bk,vs=[bv]/\RepB H bk bv/\BkV bk/\ ∀ H',Same H H'->Q (.bl true) H'
theorem gS (ws:List Str):(ws.map V.str).all eB=true:=by
 induction ws with
 | nil=>rfl
 | cons b r ih=>rw [List.map_cons,List.all_cons,ih];rfl
theorem i9 {x:Str} {ws:List Str} (h:x∈ws):inV (.str x) (ws.map V.str)=true:=by
 induction ws with
 | nil=>cases h
 | cons b r ih=>
  have e:inV (.str x) ((b::r).map V.str)=(eqV (.str b) (.str x)||inV (.str x) (r.map V.str)):=rfl
  rw [e]
  rcases List.mem_cons.mp h with z | z
  ·subst z
   rw [show eqV (.str x) (.str x)=true by simp [eqV],Bool.true_or]
  ·rw [ih z,Bool.or_true]
noncomputable abbrev NHn:List Str:=["book","names","form"]
theorem scHasNames:ay NHn ["book"] (ag cM):=fsc
theorem lT (F:Fun K "has_names" "has_names" cM f fd) (G:Gb mg)
  (GU:FnOk P w K mg base CX0 1 f2 fd2 ["words"] (lb K)) (bU:Binds K fd2 ["words"] []) (kU:PySem.W.keepIn K (.ref f2)=true) (mU:mg "are_unlike"=some (.ref f2))
  (GS:FnOk P w K mg base CX0 1 f3 fd3 ["book"] dL) (bS:Binds K fd3 ["book"] []) (kS:PySem.W.keepIn K (.ref f3)=true) (mS:mg "sorts_of"=some (.ref f3))
  (GF:FnOk P w K mg base CX0 1 f4 fd4 ["book"] dN) (bF:Binds K fd4 ["book"] []) (kF:PySem.W.keepIn K (.ref f4)=true) (mF:mg "forms_of"=some (.ref f4))
  (GO:FnOk P w K mg base CX0 1 f5 fd5 ["form"] cH) (bO:Binds K fd5 ["form"] []) (kO:PySem.W.keepIn K (.ref f5)=true) (mO:mg "sort_of_form"=some (.ref f5))
  (GP:FnOk P w K mg base CX0 1 f6 fd6 ["form"] da) (bP:Binds K fd6 ["form"] []) (kP:PySem.W.keepIn K (.ref f6)=true) (mP:mg "parts_of"=some (.ref f6)):
  FnOk P w K mg base CX0 2 f fd ["book"] iz:=by
 refine F.ok scHasNames (fun vs H Q E h=>?_) (fun cdv A outer s H vs Q E hr h=>?_)
 ·obtain ⟨v,r,rfl,_⟩:=h
  rfl
 obtain ⟨bv,bk,rfl,hB,hok,q⟩:=h
 refine ⟨_,ad (aw (i:=1) scHasNames.nd rfl (Or.inr rfl) (a9 (sc0:=ag cM) (N0:=NHn) (ys:=[]) (fr:=[]) rfl (a8 (af GS hr rfl mS kS bS .nil al (aa (pv 0) ab))) rfl rfl
    cok (fun C s H ex=>av (r:=gJ K) aq (pv 0) ae (fun _ _=>rfl))))
  (ad (aK (PW.pt (cY (aV (aN (af GU hr rfl mU kU bU .nil al (aa (pv 1) ab))))
   (cA (aV (aN (af GU hr rfl mU kU bU .nil al (aa (a9 (sc0:=ag cM) (N0:=NHn) (ys:=[]) (fr:=[]) rfl (a8 (af GF hr rfl mF kF bF .nil al (aa (pv 0) ab))) rfl rfl
    cok (fun C s H ex=>av (r:=gJ K) aq (pv 0) ae (fun _ _=>rfl))) ab))))))) aM ax)
  (ad (aK (aV (aN (ao (cp rfl) rfl G.all (by decide +kernel) (aa (lL (sc0:=ag cM) (N0:=NHn) (ys:=[]) (fr:=[]) rfl (a8 (af GS hr rfl mS kS bS .nil al (aa (pv 0) ab))) rfl rfl
    ⟨rfl,by decide +kernel,by decide +kernel,by decide +kernel,by decide +kernel,by decide +kernel,by decide +kernel,by decide +kernel,rfl,by decide +kernel⟩
    (fun C s H ex=>af GU hr rfl mU kU bU .nil al (aa (aJ (r:=rB K) iT (pv 1) (pv 2)) ab))) ab)))) aM ax)
  (ad (cf PassesOwn.never rfl (a8 (af GF hr rfl mF kF bF .nil al (aa (pv 0) ab))) (aO (i:=2) scHasNames.nd rfl (Or.inl rfl))
   (ah (aK (PW.pt (cY (az (r:=rIn K true) fX (af GO hr rfl mO kO bO .nil al (aa (pv 2) ab)) (pv 1) (by with_unfolding_all rfl))
    (cA (aV (aN (ao (cp rfl) rfl G.all (by decide +kernel) (aa (a9 (sc0:=ag cM) (N0:=NHn) (ys:=["names"]) (fr:=[1]) rfl (a8 (af GP hr rfl mP kP bP .nil al (aa (pv 2) ab))) rfl rfl
     cok (fun C s H ex=>bm (r:=rIn K false) cN (pv 0) (pv 1) (by with_unfolding_all rfl))) ab)))))))
    aM ax)))
  (ah (au cj))))),?_⟩
 have h4:=hok.s.s4
 have h10:=hok.s.few
 refine ⟨_,rfl,_,bk,rfl,hB,fun sb sx hsb hS=>?_⟩
 have lS:=hS.len
 refine ⟨sb,rfl,⟨_,SqT.of hsb⟩,?_⟩
 refine bQ (by omega) hS (bz hsb) (bx hsb) (cv hsb) (fun _ s v=>v=.str (Srt.name s)) (fun _ h=>h) ?_ ?_
 ·rintro sr v Ha k hsr ⟨b,dc,uc,rfl,hb,_⟩ sa' hk
  exact ⟨_,rfl,b,_,0,.str sr.name,rfl,rfl,SqT.of (sa' _ _ hb),aT,hk _ Ha (Same.refl Ha) rfl⟩
 intro nl zs H1 hnl s1 g1 hz
 have ez:zs=(bk.sorts.map Srt.name).map V.str:=by rw [bf hz,List.map_map];rfl
 subst ez
 have hB1:=hB.mono (aC s1)
 refine ⟨_,rfl,nl,bk.sorts.map Srt.name,rfl,.inl g1,hok.s.sd,by rw [List.length_map];omega,true,rfl,aH ?_⟩
 refine ⟨_,rfl,_,bk,rfl,hB1,fun fb fx hfb hF=>?_⟩
 have lF:=hF.len
 refine ⟨fb,rfl,⟨_,SqT.of hfb⟩,?_⟩
 refine bQ (by omega) hF (bz hfb) (bx hfb) (cv hfb) (fun _ s v=>v=.str (Frm.name s)) (fun _ h=>h) ?_ ?_
 ·rintro fr v Ha k hfr ⟨b,pa,ra,rv,rfl,hb,_⟩ sa' hk
  exact ⟨_,rfl,b,_,0,.str fr.name,rfl,rfl,SqT.of (sa' _ _ hb),aT,hk _ Ha (Same.refl Ha) rfl⟩
 intro fl zs H2 hfl s2 g2 hz
 have ez:zs=(bk.forms.map Frm.name).map V.str:=by rw [bf hz,List.map_map];rfl
 subst ez
 refine ⟨fl,bk.forms.map Frm.name,rfl,.inl g2,hok.s.nd,by rw [List.length_map];omega,true,rfl,aH ?_⟩
 have S2:=s1.trans s2
 refine ⟨_,rfl,_,bk,rfl,hB.mono (aC S2),fun sb sx hsb hS=>?_⟩
 have lS:=hS.len
 refine ⟨sb,rfl,⟨_,SqT.of hsb⟩,?_⟩
 refine uK (cJ (by omega) hS (bz hsb) (bx hsb) (cv hsb) ?_ ?_)
 ·rintro sr v Ha k hsr ⟨a,b,c,rfl,ha,hb,hc⟩ sa' hk
  obtain ⟨d1,d2,d3,_⟩:=hok.s.ws sr hsr
  have hw: ∀ H' (x:Addr),Same Ha H'->H' x=some (.tup ((sr.downs++sr.ups).map V.str))->(∃ (a:Addr) (ws:List Str),[V.ref x]=[.ref a]/\(H' a=some (.lst (ws.map V.str))\/H' a=some (.tup (ws.map V.str)))/\ws.Nodup/\ws.length<=1000/\k (.bl true) H'):=fun H' x s' hx=>
   ⟨x,_,rfl,.inr hx,d3,by rw [List.length_append];omega,hk H' s'⟩
  refine ⟨a,_,_,_,rfl,sa' _ _ ha,_,rfl,_,rfl,b,c,_,_,rfl,rfl,SqT.of (sa' _ _ hb),SqT.of (sa' _ _ hc),Nat.le_trans (m:=1000) (by rw [List.length_map,List.length_map];omega) (by decide),fun e=>?_,fun e1 e2=>?_,fun _ _ p hp=>?_⟩
  ·refine hw Ha c (Same.refl Ha) ?_
   rw [List.map_append,e,List.nil_append]
   exact sa' _ _ hc
  ·refine hw Ha b (Same.refl Ha) ?_
   rw [List.map_append,e2,List.append_nil]
   exact sa' _ _ hb
  ·refine hw _ p (ai hp _) ?_
   rw [List.map_append]
   exact ac
 intro p bs H3 hbs hp s3 g3
 refine ⟨p,bs,rfl,SqL.of g3,true,(by rw [hbs]),aH ?_⟩
 have S3:=S2.trans s3
 have gn3:=s3 _ _ (s2 _ _ g1)
 refine ⟨_,rfl,_,bk,rfl,hB.mono (aC S3),fun fb fx hfb hF=>?_⟩
 have lF:=hF.len
 refine ⟨fb,rfl,⟨_,SqT.of hfb⟩,?_⟩
 refine c8 (xs:=fx) (fun i σ H'=> ∃ o2,σ=[some bv,some (.ref nl),o2]/\Same H3 H') ⟨none,rfl,Same.refl _⟩ (fun i σ H' _ ⟨_,_,s'⟩=>SqT.of (s' _ _ hfb)) ?_ ?_
 ·rintro i x σ H4 hx ⟨o2,rfl,s4⟩
  obtain ⟨fr,hfr,hRf⟩:=aL hF hx
  have hfm:=List.mem_of_getElem? hfr
  obtain ⟨o1,o2',o3,_⟩:=hok.s.fo fr hfm
  have hRf4:=hRf.mono (aC s4)
  refine ⟨_,rfl,_,fr,rfl,hRf4,_,rfl,nl,_,rfl,.inl (SqL.of (s4 _ _ gn3)),rfl,gS _,false,?_,aH ?_⟩
  ·show V.bl (!inV (.str fr.own.name) ((bk.sorts.map Srt.name).map V.str))=V.bl false
   rw [i9 (List.mem_map.mpr ⟨_,o1,rfl⟩)]
   rfl
  refine ⟨_,rfl,_,fr,rfl,hRf4,fun pb hpb=>?_⟩
  have hpl:(bJ fr.parts).length=fr.parts.length:=List.length_map _
  refine ⟨pb,rfl,⟨_,SqT.of hpb⟩,?_⟩
  refine cJ (by omega) (fq fr.parts) (bz hpb) (bx hpb) (cv hpb) ?_ ?_
  ·rintro pr v H5 k hpr rfl s5 hk
   refine ⟨_,rfl,_,rfl,nl,_,rfl,.inl (SqL.of (s5 _ _ (s4 _ _ gn3))),rfl,gS _,?_⟩
   refine (show k (.bl (inV (.str pr.name) ((bk.sorts.map Srt.name).map V.str))) H5 from ?_)
   rw [i9 (List.mem_map.mpr ⟨_,o2' pr hpr,rfl⟩)]
   exact hk H5 (Same.refl H5)
  ·intro p5 bs5 H5 hbs5 hp5 s5 g5
   exact ⟨p5,bs5,rfl,SqL.of g5,true,(by rw [hbs5]),aH ⟨_,rfl,s4.trans s5⟩⟩
 ·rintro σ H4 ⟨o2,rfl,s4⟩
  exact q H4 (S3.trans s4)
noncomputable def ia (t:Int×Str):List Key:=[.inl t.1,.inr t.2]
theorem nS (x y z:V): ¬ (HT.sIx [x,y,z].length 0 none=0/\HT.sIx [x,y,z].length [x,y,z].length (some 2)=[x,y,z].length):=by
 rintro ⟨_,h⟩
 have h2:HT.sIx 3 3 (some 2)=3:=h
 exact absurd h2 (by decide)
theorem xq (x y z:V):dW [x,y,z] none (some 2)=[x,y]:=rfl
noncomputable def li:Sp:=fun vs H Q _=> ∃ v fr,vs=[v]/\RepF H fr v/\fr.rules.length<=12/\ ∀ p zs H',H p=none->Same H H'->H' p=some (.lst zs)->KsOf H' zs ((fr.rules.map fun r=>(r.pl,r.word)).map ia)->Q (.ref p) H'
noncomputable def oA:Sp:=fun vs H Q _=> ∃ a ks,vs=[.ref a]/\H a=some (.tup (List.map kV ks))/\RK ks/\ ∀ p (i:Int) (x:Str),((ks=[.inr "own",.inr x]/\i= -1)\/ks=[.inr "part",.inl i,.inr x])->H p=none->Q (.ref p) (upd H p (.tup [.int i,.str x]))
noncomputable def lc:Sp:=fun vs H Q _=> ∃ (v:V) (fr:Frm) (i:Int) (q:Srt),vs=[v,.int i]/\RepF H fr v/\((i= -1/\q=fr.own)\/(0<=i/\fr.parts[i.toNat]? =some q))/\Q (.str (Srt.name q)) H
noncomputable def ip:Sp:=fun vs H Q _=> ∃ bv bk nm s,vs=[bv,.str nm]/\RepB H bk bv/\BkS bk/\s∈bk.sorts/\Srt.name s=nm/\ ∀ b H',Same H H'->H' b=some (.tup (List.map V.str (s.downs++s.ups)))->Q (.ref b) H'
theorem ng:ay ["book","sort"] ["book","sort"] (ag gI):=fsc
theorem lN (F:Fun K "worths_of_sort" "worths_of_sort" gI f fd)
  (GD:FnOk P w K mg base CX0 3 f2 fd2 ["book","sort"] jN) (bD:Binds K fd2 ["book","sort"] []) (kD:PySem.W.keepIn K (.ref f2)=true) (mD:mg "downs_of"=some (.ref f2))
  (GU:FnOk P w K mg base CX0 3 f3 fd3 ["book","sort"] qP) (bU:Binds K fd3 ["book","sort"] []) (kU:PySem.W.keepIn K (.ref f3)=true) (mU:mg "ups_of"=some (.ref f3)):
  FnOk P w K mg base CX0 4 f fd ["book","sort"] ip:=by
 refine F.ok ng (fun vs H Q E h=>?_) (fun cdv A outer s H vs Q E hr h=>?_)
 ·obtain ⟨bv,bk,nm,sr,rfl,_⟩:=h
  rfl
 obtain ⟨bv,bk,nm,sr,rfl,hB,hok,hs,hn,q⟩:=h
 refine ⟨_,ah (au (aJ iT (af GD hr rfl mD kD bD .nil al (aa (pv 0) (aa (pv 1) ab))) (af GU hr rfl mU kU bU .nil al (aa (pv 0) (aa (pv 1) ab))))),?_⟩
 refine ⟨_,rfl,_,rfl,bv,bk,nm,sr,rfl,hB,hok,hs,hn,fun b H1 s1 hb=>?_⟩
 refine ⟨_,rfl,_,rfl,bv,bk,nm,sr,rfl,hB.mono (aC s1),hok,hs,hn,fun c H2 s2 hc=>?_⟩
 obtain ⟨d1,d2,_⟩:=hok.ws sr hs
 have hb2:=s2 _ _ hb
 have S2:=s1.trans s2
 refine ⟨b,c,_,_,rfl,rfl,SqT.of hb2,SqT.of hc,Nat.le_trans (m:=1000) (by rw [List.length_map,List.length_map];omega) (by decide),fun e=>?_,fun e1 e2=>?_,fun _ _ p hp=>?_⟩
 ·exact q c H2 S2 (by rw [List.map_append,e,List.nil_append];exact hc)
 ·exact q b H2 S2 (by rw [List.map_append,e2,List.append_nil];exact hb2)
 ·exact q p _ (S2.trans (ai hp _)) (by rw [List.map_append];exact ac)
theorem qY:ay ["form"] ["form"] (ag ig):=fsc
theorem qh (F:Fun K "keys_of" "keys_of" ig f fd)
  (GU:FnOk P w K mg base CX0 1 f2 fd2 ["form"] dM) (bU:Binds K fd2 ["form"] []) (kU:PySem.W.keepIn K (.ref f2)=true) (mU:mg "rules_of"=some (.ref f2)):
  FnOk P w K mg base CX0 2 f fd ["form"] li:=by
 refine F.ok qY (fun vs H Q E h=>?_) (fun cdv A outer s H vs Q E hr h=>?_)
 ·obtain ⟨bv,bk,rfl,_⟩:=h
  rfl
 obtain ⟨v,fr,rfl,hF,h12,q⟩:=h
 refine ⟨_,ah (au (a9 (sc0:=ag ig) (N0:=["form"]) (ys:=[]) (fr:=[]) rfl (a8 (af GU hr rfl mU kU bU .nil al (aa (pv 0) ab))) rfl rfl
   cok (fun C s H ex=>bh (r:=vW K) gE (pv 0) ca (bZ ae)))),?_⟩
 refine ⟨_,rfl,_,fr,rfl,hF,fun rb rv hrb hR=>?_⟩
 have lR:=hR.len
 refine ⟨rb,rfl,⟨_,SqT.of hrb⟩,?_⟩
 refine bQ (by omega) hR (bz hrb) (bx hrb) (cv hrb) (fun H r v=> ∃ b,v=.ref b/\H b=some (.tup ((ia (r.pl,r.word)).map kV))) (fun t ⟨b,e,h⟩=>⟨b,e,t _ _ h⟩) ?_ ?_
 ·rintro r v H1 k hr' ⟨a,u,rfl,ha,_⟩ s1 hk
  refine ⟨_,rfl,2,rfl,a,_,rfl,SqT.of (s1 _ _ ha),nS _ _ _,fun p hp=>?_⟩
  rw [xq]
  exact hk _ _ (ai hp _) ⟨p,rfl,ac⟩
 intro p zs H1 hp s1 g1 hz
 refine q p zs H1 hp s1 g1 ?_
 have: ∀ {l:List Rul} {zs:List V},Paired (fun (r:Rul) v=> ∃ b,v=.ref b/\H1 b=some (.tup ((ia (r.pl,r.word)).map kV))) l zs->KsOf H1 zs ((l.map fun r=>(r.pl,r.word)).map ia):=by
  intro l zs h
  induction h with
  | nil=>exact .nil
  | cons a _ ih=>exact .cons a ih
 exact this hz
theorem tG:ay ["reading"] ["reading"] (ag nn):=fsc
theorem rV (F:Fun K "key_of" "key_of" nn f fd):FnOk P w K mg base CX0 1 f fd ["reading"] oA:=by
 refine F.ok tG (fun vs H Q E h=>?_) (fun cdv A outer s H vs Q E hr h=>?_)
 ·obtain ⟨a,ks,rfl,_⟩:=h
  rfl
 obtain ⟨a,ks,rfl,ha,hk,q⟩:=h
 refine ⟨_,ah (au (dl (az aZ (av aq (pv 0) ae (fun _ _=>rfl)) aG (aE _))
  (aS (aa (iL fA ae) (aa (av aq (pv 0) ae (fun _ _=>rfl)) ab)))
  (aS (aa (av aq (pv 0) ae (fun _ _=>rfl)) (aa (av aq (pv 0) ae (fun _ _=>rfl)) ab))))),?_⟩
 rcases hk with ⟨x,rfl,_⟩ | ⟨i,x,rfl,_⟩
 ·refine ⟨_,rfl,a,_,0,.str "own",rfl,rfl,SqT.of ha,aT,rfl,true,(by rw [decide_eq_true rfl]),aY ?_⟩
  refine ⟨1,rfl,_,rfl,a,_,1,.str x,rfl,rfl,SqT.of ha,aB (j:=1) rfl,(by show 2<=sizeLine;decide),fun p hp=>q p (-1) x (.inl ⟨rfl,rfl⟩) hp⟩
 ·refine ⟨_,rfl,a,_,0,.str "part",rfl,rfl,SqT.of ha,aT,rfl,false,(by rw [decide_eq_false (by decide +kernel)]),aH ?_⟩
  refine ⟨_,rfl,a,_,1,.int i,rfl,rfl,SqT.of ha,aB (j:=1) rfl,_,rfl,a,_,2,.str x,rfl,rfl,SqT.of ha,aB (j:=2) rfl,(by show 2<=sizeLine;decide),fun p hp=>q p i x (.inr rfl) hp⟩
theorem qW:ay ["form","at"] ["form","at"] (ag jU):=fsc
theorem pY (F:Fun K "sort_at" "sort_at" jU f fd)
  (GO:FnOk P w K mg base CX0 1 f5 fd5 ["form"] cH) (bO:Binds K fd5 ["form"] []) (kO:PySem.W.keepIn K (.ref f5)=true) (mO:mg "sort_of_form"=some (.ref f5))
  (GP:FnOk P w K mg base CX0 1 f6 fd6 ["form"] da) (bP:Binds K fd6 ["form"] []) (kP:PySem.W.keepIn K (.ref f6)=true) (mP:mg "parts_of"=some (.ref f6)):
  FnOk P w K mg base CX0 2 f fd ["form","at"] lc:=by
 refine F.ok qW (fun vs H Q E h=>?_) (fun cdv A outer s H vs Q E hr h=>?_)
 ·obtain ⟨v,fr,i,qq,rfl,_⟩:=h
  rfl
 obtain ⟨v,fr,i,qq,rfl,hF,hc,q⟩:=h
 refine ⟨_,ah (au (dl (az aZ (pv 1) (iL fA ae) (aE _)) (af GO hr rfl mO kO bO .nil al (aa (pv 0) ab))
  (av aq (af GP hr rfl mP kP bP .nil al (aa (pv 0) ab)) (pv 1) (fun _ _=>rfl)))),?_⟩
 rcases hc with ⟨rfl,rfl⟩ | ⟨h0,hq⟩
 ·exact ⟨_,rfl,1,rfl,rfl,true,(by rw [decide_eq_true rfl]),aY ⟨_,rfl,v,fr,rfl,hF,q⟩⟩
 ·refine ⟨_,rfl,1,rfl,rfl,false,(by rw [decide_eq_false fun z=>by have:=V.int.inj z;omega]),aH ⟨_,rfl,v,fr,rfl,hF,fun pa hpa=>?_⟩⟩
  have e:(bJ fr.parts)[i.toNat]? =some (.str qq.name):=by unfold bJ;rw [List.getElem?_map,hq];rfl
  have e2:i=((i.toNat:Nat):Int):=by omega
  refine ⟨_,rfl,pa,_,i,.str qq.name,rfl,rfl,SqT.of hpa,?_,q⟩
  rw [e2]
  exact aB e
noncomputable def jt:Sp:=fun vs H Q _=> ∃ bv bk v fr,vs=[bv,v]/\RepB H bk bv/\BkS bk/\RepF H fr v/\fr∈bk.forms/\ ∀ p zs H',H p=none->Same H H'->H' p=some (.lst zs)->KsOf H' zs ((dy fr.own fr.parts).map ia)->Q (.ref p) H'
noncomputable def ii (fr:Frm) (ks:List Key):Prop:=(∃ x:Str,ks=[.inr "own",.inr x]/\x∈fr.own.downs++fr.own.ups)\/ ∃ (j:Nat) (q:Srt) (x:Str),ks=[.inr "part",.inl (j:Int),.inr x]/\fr.parts[j]? =some q/\x∈q.downs++q.ups
noncomputable def lj:Sp:=fun vs H Q _=> ∃ bv bk v fr a ks,vs=[bv,v,.ref a]/\RepB H bk bv/\BkS bk/\RepF H fr v/\fr∈bk.forms/\H a=some (.tup (List.map kV ks))/\RK ks/\ii fr ks/\ ∀ H',Same H H'->Q (.bl true) H'
noncomputable def iA:Sp:=fun vs H Q _=> ∃ bv bk v fr,vs=[bv,v]/\RepB H bk bv/\BkV bk/\RepF H fr v/\fr∈bk.forms/\ ∀ H',Same H H'->Q (.bl true) H'
theorem wj {H:Hp} {xs ys:List V} {a b:List (List Key)} (h:KsOf H xs a) (g:KsOf H ys b):KsOf H (xs++ys) (a++b):=by
 induction h with
 | nil=>exact g
 | cons x _ ih=>exact .cons x ih
theorem l5 {H:Hp} {xs:List V} {a:List (List Key)} (h:KsOf H xs a):xs.length=a.length:=Paired.length h
theorem fI {H:Hp} {α:Type} {g:α->List Key}: ∀ {l:List α} {zs:List V},Paired (fun (x:α) v=> ∃ b,v=.ref b/\H b=some (.tup ((g x).map kV))) l zs->KsOf H zs (l.map g)
 | _,_,.nil=>.nil
 | _,_,.cons a t=>.cons a (fI t)
theorem Tw.told {H:Hp} {fr:Frm}: ∀ {fm:Fm} {v:V} {vs out:List V} {rs:List (List Key)},Rep H fm v->fm.wfp (cx fr)->Tw H vs out rs->(∀ ks∈rs,ii fr ks)-> ∃ out' rs',Tw H (v::vs) out' rs'/\out'.length=fm.size+out.length/\ ∀ ks∈rs',ii fr ks
 | .num n,_,vs,out,rs,⟨a,rfl,ha⟩,_,t,h=>⟨_,_,.num ha (by simp) t,by show out.length+1=1+out.length;omega,h⟩
 | .own x,_,vs,out,rs,⟨a,rfl,ha⟩,hw,t,h=>⟨_,_,.rd (ks:=[.inr "own",.inr x]) ha (.inl ⟨x,rfl,a7 hw.1⟩) t,by show out.length+1=1+out.length;omega,fun ks hk=>by
   rcases List.mem_cons.mp hk with e | e
   ·rw [e];exact .inl ⟨x,rfl,hw.2⟩
   ·exact h ks e⟩
 | .part k x,_,vs,out,rs,⟨a,rfl,ha⟩,hw,t,h=>⟨_,_,.rd (ks:=[.inr "part",.inl k,.inr x]) ha (.inr ⟨k,x,rfl,a7 hw.1.2⟩) t,by show out.length+1=1+out.length;omega,fun ks hk=>by
   rcases List.mem_cons.mp hk with e | e
   ·obtain ⟨j,q,ej,hq,hx⟩:=hw.2
    rw [e,ej]
    exact .inr ⟨j,q,x,rfl,hq,hx⟩
   ·exact h ks e⟩
 | .bin op A B,_,vs,out,rs,⟨a,u,w,rfl,ha,r1,r2⟩,hw,t,h=>by
  obtain ⟨o1,s1,t1,l1,h1⟩:=Tw.told r2 hw.2.2 t h
  obtain ⟨o2,s2,t2,l2,h2⟩:=Tw.told r1 hw.2.1 t1 h1
  exact ⟨_,_,.inn ha (by rw [dR hw.1];rfl) (fi hw.1) (by simp) t2,by rw [List.length_cons,l2,l1];show _=A.size+B.size+1+out.length;omega,h2⟩
 | .whn A B C,_,vs,out,rs,⟨a,u,w,z,rfl,ha,r1,r2,r3⟩,hw,t,h=>by
  obtain ⟨o0,s0,t0,l0,h0⟩:=Tw.told r3 hw.2.2 t h
  obtain ⟨o1,s1,t1,l1,h1⟩:=Tw.told r2 hw.2.1 t0 h0
  obtain ⟨o2,s2,t2,l2,h2⟩:=Tw.told r1 hw.1 t1 h1
  exact ⟨_,_,.inn ha (by rw [dr];rfl) (by decide +kernel) (by simp) t2,by rw [List.length_cons,l2,l1,l0];show _=A.size+B.size+C.size+1+out.length;omega,h2⟩
noncomputable abbrev vD:List Str:=["book","form","due","k","part"]
theorem scDueKeys:ay vD ["book","form"] (ag eN):=fsc
theorem nR (F:Fun K "due_keys" "due_keys" eN f fd) (hen:mg "enumerate"=none)
  (GD:FnOk P w K mg base CX0 3 f2 fd2 ["book","sort"] jN) (bD:Binds K fd2 ["book","sort"] []) (kD:PySem.W.keepIn K (.ref f2)=true) (mD:mg "downs_of"=some (.ref f2))
  (GU:FnOk P w K mg base CX0 3 f3 fd3 ["book","sort"] qP) (bU:Binds K fd3 ["book","sort"] []) (kU:PySem.W.keepIn K (.ref f3)=true) (mU:mg "ups_of"=some (.ref f3))
  (GO:FnOk P w K mg base CX0 1 f5 fd5 ["form"] cH) (bO:Binds K fd5 ["form"] []) (kO:PySem.W.keepIn K (.ref f5)=true) (mO:mg "sort_of_form"=some (.ref f5))
  (GP:FnOk P w K mg base CX0 1 f6 fd6 ["form"] da) (bP:Binds K fd6 ["form"] []) (kP:PySem.W.keepIn K (.ref f6)=true) (mP:mg "parts_of"=some (.ref f6)):
  FnOk P w K mg base CX0 4 f fd ["book","form"] jt:=by
 refine F.ok scDueKeys (fun vs H Q E h=>?_) (fun cdv A outer s H vs Q E hr h=>?_)
 ·obtain ⟨bv,bk,v,fr,rfl,_⟩:=h
  rfl
 obtain ⟨bv,bk,v,fr,rfl,hB,hok,hF,hfr,q⟩:=h
 have hr1:=hr.mono (show 1<=3 by decide)
 refine ⟨_,ad (fW (i:=2) (sc0:=ag eN) (N0:=vD) (ys:=[]) (fr:=[]) rfl scDueKeys.nd rfl (Or.inl rfl) (a8 (af GU hr rfl mU kU bU .nil al (aa (pv 0) (aa (af GO hr1 rfl mO kO bO .nil al (aa (pv 1) ab)) ab)))) rfl rfl
    cok (fun C s H ex=>aS (aa (iL fA ae) (aa (pv 0) ab))))
  (ad (cf PassesOwn.never rfl (tS rfl hen (aa (af GP hr1 rfl mP kP bP .nil al (aa (pv 1) ab)) ab))
    (gK rfl (bc (aO (i:=3) scDueKeys.nd rfl (Or.inr rfl)) (bc (aO (i:=4) scDueKeys.nd rfl (Or.inl rfl)) fh)))
   (ah (cy (eA PySem.F.plainAttrs_list PySem.F.slot_list_extend PySem.F.type_list_extend gM (pv 2) (aa
    (a9 (sc0:=ag eN) (N0:=vD) (ys:=["k"]) (fr:=[3]) rfl (a8 (af GD hr rfl mD kD bD .nil al (aa (pv 0) (aa (pv 4) ab)))) rfl rfl
     cok (fun C s H ex=>aS (aa (pv 1) (aa (pv 0) ab)))) ab)))))
  (ah (au (pv 2)))),?_⟩
 obtain ⟨o1,o2,o3,_⟩:=hok.fo fr hfr
 refine ⟨_,rfl,_,rfl,v,fr,rfl,hF,bv,bk,_,fr.own,rfl,hB,hok,o1,rfl,fun ub H1 s1 hub=>?_⟩
 have hl1:(fr.own.ups.map V.str).length=fr.own.ups.length:=List.length_map _
 obtain ⟨d1,d2,_⟩:=hok.ws _ o1
 refine ⟨ub,rfl,⟨_,SqT.of hub⟩,?_⟩
 refine bQ (by omega) (dB fr.own.ups) (bz hub) (bx hub) (cv hub) (fun H x v=> ∃ b,v=.ref b/\H b=some (.tup ((ia (-1,x)).map kV))) (fun t ⟨b,e,h⟩=>⟨b,e,t _ _ h⟩) ?_ ?_
 ·rintro x v' H2 k hx rfl s2 hk
  exact ⟨1,rfl,_,rfl,(by show 2<=sizeLine;decide),fun p hp=>hk _ _ (ai hp _) ⟨p,rfl,ac⟩⟩
 intro d zs H2 hd s2 g2 hz
 have hdH:H d=none:=s1.free hd
 have S2:=s1.trans s2
 have hk2:KsOf H2 zs ((dy fr.own []).map ia):=by
  have:=fI (g:=fun x=>ia (-1,x)) hz
  unfold dy bV
  rw [List.append_nil,List.map_map]
  exact this
 refine ⟨_,rfl,v,fr,rfl,hF.mono (aC S2),fun pb hpb=>?_⟩
 refine ⟨pb,_,rfl,hpb,?_⟩
 have hpl:(bJ fr.parts).length=fr.parts.length:=List.length_map _
 refine sS (xs:=bJ fr.parts) (fun i σ H'=> ∃ o3 o4 zs,σ=[some bv,some v,some (.ref d),o3,o4]/\Same H H'/\H' pb=some (.tup (bJ fr.parts))/\H' d=some (.lst zs)/\KsOf H' zs ((dy fr.own (fr.parts.take i)).map ia))
  ⟨none,none,zs,rfl,S2,hpb,g2,hk2⟩ (fun i σ H' _ ⟨_,_,_,_,_,h,_⟩=>h) ?_ ?_
 ·rintro i x T σ H3 hx hT ⟨o3',o4',zs,rfl,S3,gp3,gd3,hk3⟩
  unfold bJ at hx
  rw [List.getElem?_map]at hx
  obtain ⟨qq,hqq,rfl⟩:=Option.map_eq_some_iff.mp hx
  have hqm:=o2 qq (List.mem_of_getElem? hqq)
  have s4:=ai hT (.tup [.int (i:Int),.str qq.name])
  have g4:(upd H3 T (.tup [.int (i:Int),.str qq.name])) T=some (.tup [.int (i:Int),.str qq.name]):=ac
  generalize upd H3 T (.tup [.int (i:Int),.str qq.name])=H4 at s4 g4 ⊢
  have S4:=S3.trans s4
  refine ⟨T,_,rfl,SqT.of g4,rfl,_,_,rfl,_,_,rfl,rfl,?_⟩
  refine ⟨_,rfl,.inl ⟨rfl,_,SqL.of (s4 _ _ gd3)⟩,_,rfl,_,rfl,bv,bk,_,qq,rfl,hB.mono (aC S4),hok,hqm,rfl,fun db H5 s5 hdb=>?_⟩
  obtain ⟨e1,e2,_⟩:=hok.ws _ hqm
  have hl5:(qq.downs.map V.str).length=qq.downs.length:=List.length_map _
  refine ⟨db,rfl,⟨_,SqT.of hdb⟩,?_⟩
  refine bQ (by omega) (dB qq.downs) (bz hdb) (bx hdb) (cv hdb) (fun H x v=> ∃ b,v=.ref b/\H b=some (.tup ((ia ((i:Int),x)).map kV))) (fun t ⟨b,e,h⟩=>⟨b,e,t _ _ h⟩) ?_ ?_
  ·rintro x v' H6 k hx6 rfl s6 hk
   exact ⟨_,rfl,_,rfl,(by show 2<=sizeLine;decide),fun p hp=>hk _ _ (ai hp _) ⟨p,rfl,ac⟩⟩
  intro e ws H6 he s6 g6 hw
  have s36:=s4.trans (s5.trans s6)
  have gd6:=s36 _ _ gd3
  have hkw:KsOf H6 ws ((qq.downs.map fun x=>((i:Int),x)).map ia):=by
   have:=fI (g:=fun x=>ia ((i:Int),x)) hw
   rw [List.map_map]
   exact this
  have hk6:=L2.KsOf.mono hk3 fun b xs h=>s36 _ _ h
  have lz:=l5 hk3
  have lw:=l5 hkw
  have ltg:=gu (k:=0) (qs:=fr.parts.take i) fun s hs=>(hok.ws s (o2 s (List.mem_of_mem_take hs))).1
  have ltk:(fr.parts.take i).length<=fr.parts.length:=by rw [List.length_take];omega
  rw [List.length_map,List.length_map]at lw
  have ltt:(dy fr.own (fr.parts.take i)).length<=12:=by
   unfold dy
   rw [List.length_append,List.length_map]
   omega
  rw [List.length_map]at lz
  refine ⟨d,e,zs,ws,rfl,rfl,gd6,g6,Nat.le_trans (m:=1000) (by omega) (by decide),?_⟩
  have tk:TK H6 (upd H6 d (.lst (zs++ws))):=fun b xs h=>by rw [am (fun z=>by rw [z,gd6]at h;cases h)];exact h
  refine ⟨_,_,zs++ws,rfl,fun b o h=>?_,tk _ _ (s36 _ _ gp3),ac,?_⟩
  ·rw [am (aj h hdH)]
   exact s36 _ _ (S3 _ _ h)
  ·have et:dy fr.own (fr.parts.take (i+1))=dy fr.own (fr.parts.take i)++qq.downs.map (fun x=>((i:Int),x)):=by
    rw [List.take_add_one,hqq]
    unfold dy
    show _++bV 0 (fr.parts.take i++[qq])=_
    have hil:i<fr.parts.length:=(List.getElem?_eq_some_iff.mp hqq).1
    rw [la,<- List.append_assoc,List.length_take,Nat.min_eq_left (Nat.le_of_lt hil),Int.zero_add]
   rw [et,List.map_append]
   exact L2.KsOf.mono (wj hk6 hkw) tk
 ·rintro σ H3 ⟨o3',o4',zs,rfl,S3,gp3,gd3,hk3⟩
  rw [hpl,List.take_length]at hk3
  exact ⟨_,rfl,q d zs H3 hdH S3 gd3 hk3⟩
theorem dC {α β:Type} {F:α->β->Prop}: ∀ {l:List α} {r:List β},Paired F l r->Paired (fun b a=>F a b) r l
 | _,_,.nil=>.nil
 | _,_,.cons a t=>.cons a (dC t)
theorem pf: ∀ (rs acc:List (List Key)),(dd acc rs).length<=acc.length+rs.length
 | [],_=>Nat.le_refl _
 | k::r,acc=>by
  have:=pf r (if k∈acc then acc else acc++[k])
  show (dd (if k∈acc then acc else acc++[k]) r).length<=acc.length+ (r.length+1)
  split at this
  ·rename_i c
   rw [if_pos c];omega
  ·rename_i c
   rw [if_neg c]
   rw [List.length_append]at this
   have e:[k].length=1:=rfl
   omega
theorem mx {H:Hp} {ws out:List V} {rs:List (List Key)} (h:Tw H ws out rs):rs.length<=out.length:=by
 induction h with
 | nil=>exact Nat.le_refl _
 | rd _ _ _ ih=>exact Nat.succ_le_succ ih
 | num _ _ _ ih=>exact Nat.le_succ_of_le ih
 | inn _ _ _ _ _ ih=>exact Nat.le_succ_of_le ih
noncomputable abbrev wK:List Str:=["book","form","reading","key"]
theorem scIsTold:ay wK ["book","form","reading"] (ag j0):=fsc
theorem qi (F:Fun K "is_told" "is_told" j0 f fd) (G:Gb mg)
  (GK:FnOk P w K mg base CX0 1 f2 fd2 ["reading"] oA) (bK:Binds K fd2 ["reading"] []) (kK:PySem.W.keepIn K (.ref f2)=true) (mK:mg "key_of"=some (.ref f2))
  (GP:FnOk P w K mg base CX0 1 f6 fd6 ["form"] da) (bP:Binds K fd6 ["form"] []) (kP:PySem.W.keepIn K (.ref f6)=true) (mP:mg "parts_of"=some (.ref f6))
  (GA:FnOk P w K mg base CX0 2 f3 fd3 ["form","at"] lc) (bA:Binds K fd3 ["form","at"] []) (kA:PySem.W.keepIn K (.ref f3)=true) (mA:mg "sort_at"=some (.ref f3))
  (GW:FnOk P w K mg base CX0 4 f4 fd4 ["book","sort"] ip) (bW:Binds K fd4 ["book","sort"] []) (kW:PySem.W.keepIn K (.ref f4)=true) (mW:mg "worths_of_sort"=some (.ref f4)):
  FnOk P w K mg base CX0 5 f fd ["book","form","reading"] lj:=by
 refine F.ok scIsTold (fun vs H Q E h=>?_) (fun cdv A outer s H vs Q E hr h=>?_)
 ·obtain ⟨bv,bk,v,fr,a,ks,rfl,_⟩:=h
  rfl
 obtain ⟨bv,bk,v,fr,a,ks,rfl,hB,hok,hF,hfr,ha,hrk,htd,q⟩:=h
 have hr1:=hr.mono (show 1<=4 by decide)
 have hr2:=hr.mono (show 2<=4 by decide)
 refine ⟨_,ad (aw (i:=3) scIsTold.nd rfl (Or.inl rfl) (af GK hr1 rfl mK kK bK .nil al (aa (pv 2) ab)))
  (ah (au (ck (bm hV (av aq (pv 3) ae (fun _ _=>rfl)) (ao aA rfl G.len PySem.boot_len (aa (af GP hr1 rfl mP kP bP .nil al (aa (pv 1) ab)) ab)) (aE _))
   (cB (bm (r:=rIn K false) cN (av aq (pv 3) ae (fun _ _=>rfl)) (af GW hr rfl mW kW bW .nil al (aa (pv 0) (aa (af GA hr2 rfl mA kA bA .nil al (aa (pv 1) (aa (av aq (pv 3) ae (fun _ _=>rfl)) ab))) ab))) (by with_unfolding_all rfl)))))),?_⟩
 obtain ⟨o1,o2,o3,_⟩:=hok.fo fr hfr
 refine ⟨_,rfl,a,ks,rfl,ha,hrk,fun p i x hix hp=>?_⟩
 obtain ⟨qq,hq,hqm,hx,hlt⟩: ∃ qq,((i= -1/\qq=fr.own)\/(0<=i/\fr.parts[i.toNat]? =some qq))/\qq∈bk.sorts/\x∈qq.downs++qq.ups/\i< (fr.parts.length:Int):=by
  rcases htd with ⟨y,rfl,hy⟩ | ⟨j,q',y,rfl,hq',hy⟩
  ·rcases hix with ⟨e,rfl⟩ | e
   ·cases e
    exact ⟨fr.own,.inl ⟨rfl,rfl⟩,o1,hy,by omega⟩
   ·cases e
  ·rcases hix with ⟨e,rfl⟩ | e
   ·cases e
   ·cases e
    have hj:j<fr.parts.length:=(List.getElem?_eq_some_iff.mp hq').1
    exact ⟨q',.inr ⟨by omega,hq'⟩,o2 _ (List.mem_of_getElem? hq'),hy,by omega⟩
 have s1:=ai hp (.tup [.int i,.str x])
 have g1:(upd H p (.tup [.int i,.str x])) p=some (.tup [.int i,.str x]):=ac
 generalize upd H p (.tup [.int i,.str x])=H1 at s1 g1 ⊢
 have hF1:=hF.mono (aC s1)
 refine ⟨_,rfl,p,_,0,.int i,rfl,rfl,SqT.of g1,aT,_,rfl,v,fr,rfl,hF1,fun pb hpb=>?_⟩
 have hpl:(bJ fr.parts).length=fr.parts.length:=List.length_map _
 refine ⟨pb,_,rfl,.inr (SqT.of hpb),i,_,rfl,rfl,true,?_,aY ?_⟩
 ·rw [hpl]
  exact congrArg V.bl (decide_eq_true hlt)
 refine ⟨_,rfl,p,_,1,.str x,rfl,rfl,SqT.of g1,aB (j:=1) rfl,?_⟩
 refine ⟨_,rfl,_,rfl,_,rfl,p,_,0,.int i,rfl,rfl,SqT.of g1,aT,v,fr,i,qq,rfl,hF1,hq,?_⟩
 refine ⟨bv,bk,_,qq,rfl,hB.mono (aC s1),hok,hqm,rfl,fun b H2 s2 hb=>?_⟩
 refine ⟨b,_,rfl,.inr (SqT.of hb),rfl,gS _,?_⟩
 refine qb (b:=true) (q H2 (s1.trans s2)) ?_
 show true=inV (.str x) ((qq.downs++qq.ups).map V.str)
 rw [i9 hx]
noncomputable abbrev NHf:List Str:=["book","form","formula"]
theorem scHasForms:ay NHf ["book","form"] (ag ff):=fsc
theorem lU (F:Fun K "has_formulas" "has_formulas" ff f fd) (G:Gb mg)
  (GB:FnOk P w K mg base CX0 2 f2 fd2 ["form"] oB) (bB:Binds K fd2 ["form"] []) (kB:PySem.W.keepIn K (.ref f2)=true) (mB:mg "formulas_by_key"=some (.ref f2))
  (GI:FnOk P w K mg base CX0 4 f3 fd3 ["thing"] qS) (bI:Binds K fd3 ["thing"] []) (kI:PySem.W.keepIn K (.ref f3)=true) (mI:mg "is_formula"=some (.ref f3))
  (GR:FnOk P w K mg base CX0 3 f4 fd4 ["formula"] fP) (bR:Binds K fd4 ["formula"] []) (kR:PySem.W.keepIn K (.ref f4)=true) (mR:mg "readings_of"=some (.ref f4))
  (GT:FnOk P w K mg base CX0 5 f5 fd5 ["book","form","reading"] lj) (bT:Binds K fd5 ["book","form","reading"] []) (kT:PySem.W.keepIn K (.ref f5)=true) (mT:mg "is_told"=some (.ref f5)):
  FnOk P w K mg base CX0 6 f fd ["book","form"] iA:=by
 refine F.ok scHasForms (fun vs H Q E h=>?_) (fun cdv A outer s H vs Q E hr h=>?_)
 ·obtain ⟨bv,bk,v,fr,rfl,_⟩:=h
  rfl
 obtain ⟨bv,bk,v,fr,rfl,hB,hok,hF,hfr,q⟩:=h
 have hr2:=hr.mono (show 2<=5 by decide)
 have hr3:=hr.mono (show 3<=5 by decide)
 have hr4:=hr.mono (show 4<=5 by decide)
 refine ⟨_,ad (cf PassesOwn.never rfl (oF (af GB hr2 rfl mB kB bB .nil al (aa (pv 1) ab))) (aO (i:=2) scHasForms.nd rfl (Or.inl rfl))
   (ad (aK (aV (aN (af GI hr4 rfl mI kI bI .nil al (aa (pv 2) ab)))) aM ax)
   (ah (aK (aV (aN (ao (cp rfl) rfl G.all (by decide +kernel) (aa (a9 (sc0:=ag ff) (N0:=NHf) (ys:=["book","form"]) (fr:=[0,1]) rfl (cS (af GR hr3 rfl mR kR bR .nil al (aa (pv 2) ab))) rfl rfl
    cok (fun C s H ex=>af GT hr rfl mT kT bT .nil al (aa (pv 1) (aa (pv 2) (aa (pv 0) ab))))) ab)))) aM ax))))
  (ah (au cj)),?_⟩
 refine ⟨_,rfl,v,fr,rfl,hF,hok.s.rules12 hfr,fun d kvs H1 hd s1 g1 hl12 hv hall=>?_⟩
 refine ⟨d,kvs,rfl,.inl ⟨g1,fun o=>?_⟩⟩
 have gF:(upd H1 d (.frz o (.dT kvs))) d=some (.frz o (.dT kvs)):=ac
 have sF:Same H (upd H1 d (.frz o (.dT kvs))):=fun b u h=>by rw [am (aj h hd)];exact s1 _ _ h
 have tF:TK H1 (upd H1 d (.frz o (.dT kvs))):=fun b xs h=>by rw [am (fun z=>by rw [z,g1]at h;cases h)];exact h
 generalize upd H1 d (.frz o (.dT kvs))=HF at gF sF tF ⊢
 have hallF: ∀ kv∈kvs,∃ r∈fr.rules,Rep HF r.fm kv.2:=fun kv hkv=>by
  obtain ⟨r,hr',hR⟩:=hall kv hkv
  exact ⟨r,hr',hR.mono tF⟩
 refine sR (fun i σ H'=> ∃ o2,σ=[some bv,some v,o2]/\Same HF H') ⟨none,rfl,Same.refl _⟩ (fun i σ H' _ ⟨_,_,s'⟩=>s' _ _ gF) ?_ ?_
 ·rintro i kv σ H2 hkv ⟨o2,rfl,s2⟩
  obtain ⟨r,hr',hR⟩:=hallF kv (List.mem_of_getElem? hkv)
  obtain ⟨_,_,_,_,hwz⟩:=hok.s.fo fr hfr
  obtain ⟨hwf,h15⟩:=hwz r hr'
  refine ⟨_,rfl,kv.2,true,rfl,⟨_,.cons (hR.mono (aC s2)) hwf .nil,by omega⟩,fun H3 s3=>⟨true,rfl,aH ?_⟩⟩
  have S3:=s2.trans s3
  obtain ⟨out,rs,hTw,hol,htd⟩:=Tw.told (fr:=fr) (hR.mono (aC S3)) (hok.rd fr hfr r hr') Tw.nil (fun ks h=>by cases h)
  have hol:out.length=r.fm.size:=hol
  refine ⟨_,rfl,kv.2,out,rs,rfl,hTw,by omega,fun p ys H4 hp s4 g4 hks=>?_⟩
  have hl:=l5 hks
  have h1:=pf rs []
  have h2:=mx hTw
  have e0:([]:List (List Key)).length=0:=rfl
  have S4:=S3.trans s4
  refine ⟨p,rfl,⟨_,SqL.of g4⟩,?_⟩
  refine cJ (by omega) (dC hks) (dG g4) (dE g4) (eW g4) ?_ ?_
  ·rintro ks v' H5 k hk ⟨b,rfl,hb⟩ s5 hk5
   have S5:=sF.trans (S4.trans s5)
   exact ⟨_,rfl,_,rfl,_,rfl,bv,bk,v,fr,b,ks,rfl,hB.mono (aC S5),hok.s,hF.mono (aC S5),hfr,s5 _ _ hb,fL (P:=RK) (fun k h=>by cases h) hTw.rk ks hk,fL (P:=ii fr) (fun k h=>by cases h) htd ks hk,hk5⟩
  ·intro p5 bs H5 hbs hp5 s5 g5
   exact ⟨p5,bs,rfl,SqL.of g5,true,(by rw [hbs]),aH ⟨_,rfl,S4.trans s5⟩⟩
 ·rintro σ H2 ⟨o2,rfl,s2⟩
  exact q H2 (sF.trans s2)
noncomputable def Fm.rdk:Fm->List (List Key)
 | .num _=>[]
 | .own x=>[[.inr "own",.inr x]]
 | .part k x=>[[.inr "part",.inl k,.inr x]]
 | .bin _ a b=>a.rdk++b.rdk
 | .whn a b c=>a.rdk++(b.rdk++c.rdk)
noncomputable def fsz:List Fm->Nat
 | []=>0
 | f::r=>f.size+fsz r
noncomputable def kf:List Fm->List (List Key)
 | []=>[]
 | f::r=>f.rdk++kf r
theorem Tw.of {H:Hp}: ∀ (n:Nat) {fs:List Fm} {ws:List V},fsz fs=n->Paired (fun f v=>Rep H f v/\f.wf) fs ws-> ∃ out,Tw H ws out (kf fs)/\out.length=n:=by
 intro n
 induction n using Nat.strongRecOn with
 | _ n ih=>
  intro fs ws hn h
  cases h with
  | nil=>exact ⟨[],.nil,hn⟩
  | @cons f v fs ws hf t=>
   obtain ⟨rp,wf⟩:=hf
   have hn:f.size+fsz fs=n:=hn
   cases f with
   | num i=>
    obtain ⟨a,rfl,ha⟩:=rp
    have hn:1+fsz fs=n:=hn
    obtain ⟨out,h1,h2⟩:=ih (fsz fs) (by omega) rfl t
    exact ⟨_,.num ha (by simp) h1,by rw [List.length_cons,h2];omega⟩
   | own x=>
    obtain ⟨a,rfl,ha⟩:=rp
    have hn:1+fsz fs=n:=hn
    obtain ⟨out,h1,h2⟩:=ih (fsz fs) (by omega) rfl t
    exact ⟨_,.rd (ks:=[.inr "own",.inr x]) ha (.inl ⟨x,rfl,a7 wf⟩) h1,by rw [List.length_cons,h2];omega⟩
   | part k x=>
    obtain ⟨a,rfl,ha⟩:=rp
    obtain ⟨w0,w1⟩:(0<=k/\k<=2)/\a5 x=true:=wf
    have hn:1+fsz fs=n:=hn
    obtain ⟨out,h1,h2⟩:=ih (fsz fs) (by omega) rfl t
    exact ⟨_,.rd (ks:=[.inr "part",.inl k,.inr x]) ha (.inr ⟨k,x,rfl,a7 w1⟩) h1,by rw [List.length_cons,h2];omega⟩
   | bin op A B=>
    obtain ⟨a,u,w,rfl,ha,r1,r2⟩:=rp
    obtain ⟨ho,w1,w2⟩:op∈ops/\A.wf/\B.wf:=wf
    have hn:A.size+B.size+1+fsz fs=n:=hn
    obtain ⟨out,h1,h2⟩:=ih (A.size+ (B.size+fsz fs)) (by omega) (fs:=A::B::fs) rfl (.cons ⟨r1,w1⟩ (.cons ⟨r2,w2⟩ t))
    refine ⟨.ref a::out,?_,by rw [List.length_cons,h2];omega⟩
    rw [show kf (Fm.bin op A B::fs)=kf (A::B::fs)from List.append_assoc _ _ _]
    exact .inn ha (by rw [dR ho];rfl) (fi ho) (by simp) h1
   | whn A B C=>
    obtain ⟨a,u,w,z,rfl,ha,r1,r2,r3⟩:=rp
    obtain ⟨w1,w2,w3⟩:A.wf/\B.wf/\C.wf:=wf
    have hn:A.size+B.size+C.size+1+fsz fs=n:=hn
    obtain ⟨out,h1,h2⟩:=ih (A.size+ (B.size+ (C.size+fsz fs))) (by omega) (fs:=A::B::C::fs) rfl (.cons ⟨r1,w1⟩ (.cons ⟨r2,w2⟩ (.cons ⟨r3,w3⟩ t)))
    refine ⟨.ref a::out,?_,by rw [List.length_cons,h2];omega⟩
    rw [show kf (Fm.whn A B C::fs)=kf (A::B::C::fs)from by show (A.rdk++(B.rdk++C.rdk))++kf fs=A.rdk++(B.rdk++(C.rdk++kf fs));rw [List.append_assoc,List.append_assoc]]
    exact .inn ha (by rw [dr];rfl) (by decide +kernel) (by simp) h1
theorem Tw.of1 {H:Hp} {f:Fm} {v:V} (r:Rep H f v) (wf:f.wf): ∃ out,Tw H [v] out f.rdk/\out.length=f.size:=by
 obtain ⟨out,h1,h2⟩:=Tw.of (H:=H) f.size (fs:=[f]) (ws:=[v]) rfl (.cons ⟨r,wf⟩ .nil)
 rw [show kf [f]=f.rdk from List.append_nil _]at h1
 exact ⟨out,h1,h2⟩
noncomputable def nA:List Key->Int
 | [_,.inl k,_]=>k
 | _=>0
noncomputable def cO (ks:List Key):Bool:=decide (ks.head?=some (.inr "part"))
theorem dq (x:Str):cO [.inr "own",.inr x]=false:=decide_eq_false (by intro z;exact absurd (Sum.inr.inj (Option.some.inj z)) (by decide +kernel))
theorem eX (i:Int) (x:Str):cO [.inr "part",.inl i,.inr x]=true:=decide_eq_true (show ([.inr "part",.inl i,.inr x]:List Key).head?=some (.inr "part")from rfl)
theorem dd_iff {ks:List Key}: ∀ {rs acc:List (List Key)},ks∈dd acc rs↔ks∈acc\/ks∈rs
 | [],acc=>by
  show ks∈acc↔_
  exact ⟨.inl,fun h=>h.elim id fun z=>by cases z⟩
 | x::r,acc=>by
  show ks∈dd (if x∈acc then acc else acc++[x]) r↔_
  rw [dd_iff (rs:=r),List.mem_cons]
  by_cases h:x∈acc
  ·rw [if_pos h]
   exact ⟨fun z=>z.elim .inl fun z=>.inr (.inr z),fun z=>z.elim .inl fun z=>z.elim (fun e=>.inl (by rw [e];exact h)) .inr⟩
  ·rw [if_neg h,List.mem_append,List.mem_singleton]
   exact ⟨fun z=>z.elim (fun z=>z.elim .inl fun z=>.inr (.inl z)) fun z=>.inr (.inr z),fun z=>z.elim (fun z=>.inl (.inl z)) fun z=>z.elim (fun z=>.inl (.inr z)) .inr⟩
theorem fg {k:Int}: ∀ {fm:Fm},k∈fm.prt↔ ∃ x:Str,([.inr "part",.inl k,.inr x]:List Key)∈fm.rdk
 | .num _=>⟨fun h=>(by cases h),fun ⟨x,h⟩=>(by cases h)⟩
 | .own y=>⟨fun h=>(by cases h),fun ⟨x,h⟩=>by
   have:=List.mem_singleton.mp h
   cases this⟩
 | .part i y=>⟨fun h=>⟨y,by rw [List.mem_singleton.mp h];exact List.mem_cons_self⟩,fun ⟨x,h⟩=>by
   have:=List.mem_singleton.mp h
   cases this
   exact List.mem_cons_self⟩
 | .bin _ a b=>by
  show k∈a.prt++b.prt↔ ∃ x:Str,([.inr "part",.inl k,.inr x]:List Key)∈a.rdk++b.rdk
  rw [List.mem_append,fg (fm:=a),fg (fm:=b)]
  exact ⟨fun h=>h.elim (fun ⟨x,z⟩=>⟨x,List.mem_append_left _ z⟩) fun ⟨x,z⟩=>⟨x,List.mem_append_right _ z⟩,fun ⟨x,h⟩=>(List.mem_append.mp h).elim (fun z=>.inl ⟨x,z⟩) fun z=>.inr ⟨x,z⟩⟩
 | .whn a b c=>by
  show k∈a.prt++(b.prt++c.prt)↔ ∃ x:Str,([.inr "part",.inl k,.inr x]:List Key)∈a.rdk++(b.rdk++c.rdk)
  rw [List.mem_append,List.mem_append,fg (fm:=a),fg (fm:=b),fg (fm:=c)]
  exact ⟨fun h=>h.elim (fun ⟨x,z⟩=>⟨x,List.mem_append_left _ z⟩) fun h=>h.elim (fun ⟨x,z⟩=>⟨x,List.mem_append_right _ (List.mem_append_left _ z)⟩) fun ⟨x,z⟩=>⟨x,List.mem_append_right _ (List.mem_append_right _ z)⟩,
   fun ⟨x,h⟩=>(List.mem_append.mp h).elim (fun z=>.inl ⟨x,z⟩) fun z=>(List.mem_append.mp z).elim (fun z=>.inr (.inl ⟨x,z⟩)) fun z=>.inr (.inr ⟨x,z⟩)⟩
theorem lJ {fm:Fm} (hrk: ∀ ks∈fm.rdk,RK ks) (n:Int):n∈((dd [] fm.rdk).filter cO).map nA↔n∈fm.prt:=by
 rw [fg,List.mem_map]
 constructor
 ·rintro ⟨ks,h,rfl⟩
  obtain ⟨h1,h2⟩:=List.mem_filter.mp h
  have hm:=(dd_iff.mp h1).elim (fun z=>by cases z) id
  rcases hrk ks hm with ⟨x,rfl,_⟩ | ⟨i,x,rfl,_⟩
  ·rw [dq]at h2
   cases h2
  ·exact ⟨x,hm⟩
 ·rintro ⟨x,h⟩
  exact ⟨_,List.mem_filter.mpr ⟨dd_iff.mpr (.inr h),eX n x⟩,rfl⟩
noncomputable def dA:Sp:=fun vs H Q _=> ∃ v fm,vs=[v]/\Rep H fm v/\Fm.wf fm/\fm.size<=15/\ ∀ p (ns:List Int) H',H p=none->Same H H'->H' p=some (.lst (ns.map V.int))->ns.length<=15->(∀ n,n∈ns↔n∈Fm.prt fm)->Q (.ref p) H'
theorem lA:ay ["formula"] ["formula"] (ag eg):=fsc
theorem kq (F:Fun K "parts_read" "parts_read" eg f fd)
  (GR:FnOk P w K mg base CX0 3 f4 fd4 ["formula"] fP) (bR:Binds K fd4 ["formula"] []) (kR:PySem.W.keepIn K (.ref f4)=true) (mR:mg "readings_of"=some (.ref f4)):
  FnOk P w K mg base CX0 4 f fd ["formula"] dA:=by
 refine F.ok lA (fun vs H Q E h=>?_) (fun cdv A outer s H vs Q E hr h=>?_)
 ·obtain ⟨v,fm,rfl,_⟩:=h
  rfl
 obtain ⟨v,fm,rfl,hR,hwf,h15,q⟩:=h
 refine ⟨_,ah (au (iN (sc0:=ag eg) (N0:=["formula"]) (ys:=[]) (fr:=[]) rfl (cS (af GR hr rfl mR kR bR .nil al (aa (pv 0) ab))) rfl rfl
   cok
   (fun C s H ex=>az aZ (av (r:=gJ K) aq (pv 0) ae (fun _ _=>rfl)) aG (aE _))
   (fun C s H ex=>av (r:=gJ K) aq (pv 0) ae (fun _ _=>rfl)))),?_⟩
 obtain ⟨out,hTw,hol⟩:=Tw.of1 hR hwf
 refine ⟨_,rfl,v,out,fm.rdk,rfl,hTw,by omega,fun p ys H1 hp s1 g1 hks=>?_⟩
 have hl:=l5 hks
 have h1:=pf fm.rdk []
 have h2:=mx hTw
 have e0:([]:List (List Key)).length=0:=rfl
 refine ⟨p,rfl,⟨_,SqL.of g1⟩,?_⟩
 refine ik (by omega) (dC hks) (dG g1) (dE g1) (eW g1) cO (fun _ ks v=>v=.int (nA ks)) (fun _ h=>h) ?_ ?_ ?_
 ·rintro ks v' H2 k hk ⟨b,rfl,hb⟩ s2 hk2
  rcases fL (P:=RK) (fun k h=>by cases h) hTw.rk ks hk with ⟨x,rfl,_⟩ | ⟨i,x,rfl,_⟩
  ·refine ⟨_,rfl,b,_,0,.str "own",rfl,rfl,SqT.of (s2 _ _ hb),aT,rfl,_,rfl,?_⟩
   rw [show decide (V.str "own"=V.str "part")=cO [.inr "own",.inr x] by rw [dq,decide_eq_false (by decide +kernel)]]
   exact hk2 H2 (Same.refl H2)
  ·refine ⟨_,rfl,b,_,0,.str "part",rfl,rfl,SqT.of (s2 _ _ hb),aT,rfl,_,rfl,?_⟩
   rw [show decide (V.str "part"=V.str "part")=cO [.inr "part",.inl i,.inr x] by rw [eX,decide_eq_true rfl]]
   exact hk2 H2 (Same.refl H2)
 ·rintro ks v' H2 k hk ⟨b,rfl,hb⟩ hc s2 hk2
  rcases fL (P:=RK) (fun k h=>by cases h) hTw.rk ks hk with ⟨x,rfl,_⟩ | ⟨i,x,rfl,_⟩
  ·rw [dq]at hc
   cases hc
  ·exact ⟨_,rfl,b,_,1,.int i,rfl,rfl,SqT.of (s2 _ _ hb),aB (j:=1) rfl,hk2 _ H2 (Same.refl H2) rfl⟩
 intro p2 zs H2 hp2 s2 g2 hz
 have e:=bf (g:=fun ks=>V.int (nA ks)) hz
 have e2:zs=(((dd [] fm.rdk).filter cO).map nA).map V.int:=by rw [e,List.map_map];rfl
 have hfl:=List.length_filter_le cO (dd [] fm.rdk)
 rw [e2]at g2
 exact q p2 _ H2 (s1.free hp2) (s1.trans s2) g2 (by rw [List.length_map];omega) (lJ hTw.rk)
theorem pI:ay ["formula"] ["formula"] (ag fR):=fsc
theorem nK (F:Fun K "_law_parts_in" "_law_parts_in" fR f fd)
  (GR:FnOk P w K mg base CX0 1 f4 fd4 ["formula"] fP) (bR:Binds K fd4 ["formula"] []) (kR:PySem.W.keepIn K (.ref f4)=true) (mR:mg "_law_reads"=some (.ref f4)):
  FnOk P w K mg base CX0 2 f fd ["formula"] dA:=by
 refine F.ok pI (fun vs H Q E h=>?_) (fun cdv A outer s H vs Q E hr h=>?_)
 ·obtain ⟨v,fm,rfl,_⟩:=h
  rfl
 obtain ⟨v,fm,rfl,hR,hwf,h15,q⟩:=h
 refine ⟨_,ah (au (iN (sc0:=ag fR) (N0:=["formula"]) (ys:=[]) (fr:=[]) rfl (cS (af GR hr rfl mR kR bR .nil al (aa (pv 0) ab))) rfl rfl
   cok
   (fun C s H ex=>az aZ (av (r:=gJ K) aq (pv 0) ae (fun _ _=>rfl)) aG (aE _))
   (fun C s H ex=>av (r:=gJ K) aq (pv 0) ae (fun _ _=>rfl)))),?_⟩
 obtain ⟨out,hTw,hol⟩:=Tw.of1 hR hwf
 refine ⟨_,rfl,v,out,fm.rdk,rfl,hTw,by omega,fun p ys H1 hp s1 g1 hks=>?_⟩
 have hl:=l5 hks
 have h1:=pf fm.rdk []
 have h2:=mx hTw
 have e0:([]:List (List Key)).length=0:=rfl
 refine ⟨p,rfl,⟨_,SqL.of g1⟩,?_⟩
 refine ik (by omega) (dC hks) (dG g1) (dE g1) (eW g1) cO (fun _ ks v=>v=.int (nA ks)) (fun _ h=>h) ?_ ?_ ?_
 ·rintro ks v' H2 k hk ⟨b,rfl,hb⟩ s2 hk2
  rcases fL (P:=RK) (fun k h=>by cases h) hTw.rk ks hk with ⟨x,rfl,_⟩ | ⟨i,x,rfl,_⟩
  ·refine ⟨_,rfl,b,_,0,.str "own",rfl,rfl,SqT.of (s2 _ _ hb),aT,rfl,_,rfl,?_⟩
   rw [show decide (V.str "own"=V.str "part")=cO [.inr "own",.inr x] by rw [dq,decide_eq_false (by decide +kernel)]]
   exact hk2 H2 (Same.refl H2)
  ·refine ⟨_,rfl,b,_,0,.str "part",rfl,rfl,SqT.of (s2 _ _ hb),aT,rfl,_,rfl,?_⟩
   rw [show decide (V.str "part"=V.str "part")=cO [.inr "part",.inl i,.inr x] by rw [eX,decide_eq_true rfl]]
   exact hk2 H2 (Same.refl H2)
 ·rintro ks v' H2 k hk ⟨b,rfl,hb⟩ hc s2 hk2
  rcases fL (P:=RK) (fun k h=>by cases h) hTw.rk ks hk with ⟨x,rfl,_⟩ | ⟨i,x,rfl,_⟩
  ·rw [dq]at hc
   cases hc
  ·exact ⟨_,rfl,b,_,1,.int i,rfl,rfl,SqT.of (s2 _ _ hb),aB (j:=1) rfl,hk2 _ H2 (Same.refl H2) rfl⟩
 intro p2 zs H2 hp2 s2 g2 hz
 have e:=bf (g:=fun ks=>V.int (nA ks)) hz
 have e2:zs=(((dd [] fm.rdk).filter cO).map nA).map V.int:=by rw [e,List.map_map];rfl
 have hfl:=List.length_filter_le cO (dd [] fm.rdk)
 rw [e2]at g2
 exact q p2 _ H2 (s1.free hp2) (s1.trans s2) g2 (by rw [List.length_map];omega) (lJ hTw.rk)
noncomputable def cu:Fm->Bool
 | .own _=>false
 | .bin op a b=> !(decide (op="times")&&a.prt.any fun k=>decide (k∈b.prt))
 | _=>true
noncomputable def Fm.lvB:Fm->Bool
 | .num _=>true
 | .own _=>false
 | .part _ _=>true
 | .bin op a b=>cu (.bin op a b)&&(a.lvB&&b.lvB)
 | .whn a b c=>a.lvB&&(b.lvB&&c.lvB)
noncomputable def Frm.lvB (fr:Frm):Bool:=fr.rules.all fun r=>r.fm.lvB
noncomputable def Bk.lvB (bk:Bk):Bool:=bk.forms.all Frm.lvB
noncomputable def fQ:Sp:=fun vs H Q _=> ∃ v fm,vs=[v]/\Rep H fm v/\Fm.wf fm/\fm.size<=15/\ ∀ H',Same H H'->Q (.bl fm.lvB) H'
noncomputable def fc:Sp:=fun vs H Q _=> ∃ bv bk,vs=[bv]/\RepB H bk bv/\BkV bk/\(∀ s∈bk.sorts,s.downs=[])/\ ∀ H',Same H H'->Q (.bl bk.lvB) H'
noncomputable def Gd (H:Hp) (g:Fm) (u:V):Prop:=Rep H g u/\g.wf/\g.size<=15
theorem Ts.lvl {H:Hp}: ∀ {fm:Fm} {v:V} {vs out:List V} {gs:List Fm},Rep H fm v->fm.wf->fm.size<=15->Ts H vs out->Paired (Gd H) gs out-> ∃ out' gs',Ts H (v::vs) out'/\out'.length=fm.size+out.length/\Paired (Gd H) gs' out'/\gs'.all cu=(fm.lvB&&gs.all cu)
 | .num n,_,vs,out,gs,R,w,z,t,h=>by
  obtain ⟨a,rfl,ha⟩:=id R
  exact ⟨_,_,.cons ha (by decide +kernel) (by simp) (by rw [show aP [.str "num",.int n]=[] by simp only [aP,dS];rfl];exact t),by show out.length+1=1+out.length;omega,.cons ⟨R,w,z⟩ h,rfl⟩
 | .own x,_,vs,out,gs,R,w,z,t,h=>by
  obtain ⟨a,rfl,ha⟩:=id R
  exact ⟨_,_,.cons ha (by decide +kernel) (by simp) (by rw [show aP [.str "own",.str x]=[] by simp only [aP,df];rfl];exact t),by show out.length+1=1+out.length;omega,.cons ⟨R,w,z⟩ h,rfl⟩
 | .part k x,_,vs,out,gs,R,w,z,t,h=>by
  obtain ⟨a,rfl,ha⟩:=id R
  exact ⟨_,_,.cons ha (by decide +kernel) (by simp) (by rw [show aP [.str "part",.int k,.str x]=[] by simp only [aP,cP];rfl];exact t),by show out.length+1=1+out.length;omega,.cons ⟨R,w,z⟩ h,rfl⟩
 | .bin op A B,_,vs,out,gs,R,w,z,t,h=>by
  obtain ⟨a,u,v,rfl,ha,r1,r2⟩:=id R
  have z':A.size+B.size+1<=15:=z
  obtain ⟨o1,g1,t1,l1,h1,e1⟩:=Ts.lvl r2 w.2.2 (by omega) t h
  obtain ⟨o2,g2,t2,l2,h2,e2⟩:=Ts.lvl r1 w.2.1 (by omega) t1 h1
  refine ⟨_,_,.cons ha (fi w.1) (by simp) (by rw [show aP [.str op,u,v]=[u,v] by simp only [aP,dR w.1];rfl];exact t2),by rw [List.length_cons,l2,l1];show _=A.size+B.size+1+out.length;omega,.cons ⟨R,w,z⟩ h2,?_⟩
  rw [List.all_cons,e2,e1]
  show _=((cu (.bin op A B)&&(A.lvB&&B.lvB))&&gs.all cu)
  rw [Bool.and_assoc,Bool.and_assoc]
 | .whn A B C,_,vs,out,gs,R,w,z,t,h=>by
  obtain ⟨a,u,v,x,rfl,ha,r1,r2,r3⟩:=id R
  have z':A.size+B.size+C.size+1<=15:=z
  obtain ⟨o0,g0,t0,l0,h0,e0⟩:=Ts.lvl r3 w.2.2 (by omega) t h
  obtain ⟨o1,g1,t1,l1,h1,e1⟩:=Ts.lvl r2 w.2.1 (by omega) t0 h0
  obtain ⟨o2,g2,t2,l2,h2,e2⟩:=Ts.lvl r1 w.1 (by omega) t1 h1
  refine ⟨_,_,.cons ha (by decide +kernel) (by simp) (by rw [show aP [.str "when",u,v,x]=[u,v,x] by simp only [aP,dr];rfl];exact t2),by rw [List.length_cons,l2,l1,l0];show _=A.size+B.size+C.size+1+out.length;omega,.cons ⟨R,w,z⟩ h2,?_⟩
  rw [List.all_cons,e2,e1,e0]
  show (true&&_)=((A.lvB&&(B.lvB&&C.lvB))&&gs.all cu)
  rw [Bool.true_and,Bool.and_assoc,Bool.and_assoc]
theorem gQ {n:Int}: ∀ {ns:List Int},inV (.int n) (ns.map V.int)=decide (n∈ns)
 | []=>(decide_eq_false (by simp)).symm
 | b::r=>by
  have e:inV (.int n) ((b::r).map V.int)=(eqV (.int b) (.int n)||inV (.int n) (r.map V.int)):=rfl
  rw [e,gQ (ns:=r)]
  by_cases h:b=n
  ·rw [decide_eq_true (show n∈b::r by rw [h];exact List.mem_cons_self)]
   simp [eqV,h]
  ·have:(n∈b::r)↔n∈r:=by rw [List.mem_cons];exact ⟨fun z=>z.elim (fun e=>absurd e.symm h) id,.inr⟩
   rw [show decide (n∈b::r)=decide (n∈r)from decide_eq_decide.mpr this]
   simp [eqV,h]
theorem tq {ns ms:List Int} {c:Int->Bool} (h: ∀ n,n∈ns↔n∈ms):ns.any c=ms.any c:=by
 rw [Bool.eq_iff_iff,List.any_eq_true,List.any_eq_true]
 exact ⟨fun ⟨x,a,b⟩=>⟨x,(h x).mp a,b⟩,fun ⟨x,a,b⟩=>⟨x,(h x).mpr a,b⟩⟩
theorem jb (ns:List Int):(ns.map V.int).all eB=true:=by
 induction ns with
 | nil=>rfl
 | cons b r ih=>rw [List.map_cons,List.all_cons,ih];rfl
theorem ei: ∀ ns:List Int,Paired (fun (x:Int) (v:V)=>v=.int x) ns (ns.map V.int)
 | []=>.nil
 | _::r=>.cons rfl (ei r)
theorem qz {J:It} {α:Type} {as:List α} {A:α->V->Prop} {xs:List V} {fr:List Nat} {te:TE} {σ:St} {H1:Hp} {Q:VK} (hn:xs.length<=1000) (hP:Paired A as xs)
  (hgo: ∀ i H,Same H1 H->i<xs.length->J.go i H) (hst: ∀ H,Same H1 H->J.stop xs.length H) (hy: ∀ i H v H',Same H1 H->J.yld i H v H'->H'=H/\xs[i]? =some v)
  (hte: ∀ a v H (k:VK),a∈as->A a v->Same H1 H->(∀ H',Same H H'->k (.bl false) H')->te (some v::cn fr σ) H k)
  (hd: ∀ p (bs:List Bool) H',bs.any id=false->H1 p=none->Same H1 H'->H' p=some (.lst (bs.map V.bl))->Q (.ref p) H'):eF fr te σ J H1 Q:=by
 refine bQ hn hP hgo hst hy (fun _ _ v=>v=.bl false) (fun _ h=>h) (fun a v H k ha hA s' hk=>hte a v H k ha hA s' fun H' s2=>hk _ H' s2 rfl) fun p zs H' hp s' g hz=>?_
 have e:=bf (g:=fun _=>V.bl false) hz
 refine hd p (as.map fun _=>false) H' ?_ hp s' ?_
 ·rw [List.any_map]
  exact List.any_eq_false.mpr fun _ _=>Bool.false_ne_true
 ·rw [List.map_map,g,e]
  rfl
theorem ut {d:Addr} {o:Obj} {kvs:List (List Key×V)} {H1:Hp} (h:H1 d=some (.frz o (.dT kvs))): ∀ i H,Same H1 H->i< (kvs.map (·.2)).length->(Itj d o).go i H:=fun i H s hi=>by
 rw [List.length_map]at hi
 exact ⟨kvs,kvs[i],s _ _ h,List.getElem?_eq_getElem hi⟩
theorem ur {d:Addr} {o:Obj} {kvs:List (List Key×V)} {H1:Hp} (h:H1 d=some (.frz o (.dT kvs))): ∀ H,Same H1 H->(Itj d o).stop (kvs.map (·.2)).length H:=fun H s=>⟨kvs,s _ _ h,by rw [List.length_map]⟩
theorem vo {d:Addr} {o:Obj} {kvs:List (List Key×V)} {H1:Hp} (h:H1 d=some (.frz o (.dT kvs))): ∀ i H v H',Same H1 H->(Itj d o).yld i H v H'->H'=H/\(kvs.map (·.2))[i]? =some v:=fun i H v H' s hv=>⟨hv.1,hv.2 kvs (s _ _ h)⟩
theorem gx {k:Int}: ∀ {qs:List Srt} {i:Int} {x:Str},(i,x)∈bV k qs-> ∃ (j:Nat) (q:Srt),i=k+ (j:Int)/\qs[j]? =some q/\x∈q.downs
 | [],_,_,h=>by cases h
 | q::r,i,x,h=>by
  have h:(i,x)∈q.downs.map (fun x=>(k,x))++bV (k+1) r:=h
  rcases List.mem_append.mp h with h | h
  ·obtain ⟨y,hy,e⟩:=List.mem_map.mp h
   cases e
   exact ⟨0,q,by omega,rfl,hy⟩
  ·obtain ⟨j,q',e,h1,h2⟩:=gx (k:=k+1) h
   exact ⟨j+1,q',by omega,h1,h2⟩
theorem jq {k:Int}: ∀ {qs:List Srt},(∀ q∈qs,q.downs.Nodup)->(bV k qs).Nodup
 | [],_=>List.nodup_nil
 | q::r,h=>by
  show (q.downs.map (fun x=>(k,x))++bV (k+1) r).Nodup
  refine List.nodup_append.mpr ⟨?_,jq fun x hx=>h x (List.mem_cons_of_mem _ hx),?_⟩
  ·have:=h q List.mem_cons_self
   exact List.Pairwise.map _ (fun a b (hab:a≠b) e=>hab (Prod.mk.inj e).2) this
  ·intro a ha b hb e
   subst e
   obtain ⟨y,hy,e⟩:=List.mem_map.mp ha
   subst e
   obtain ⟨j,_,e,_⟩:=gx hb
   omega
theorem BkS.tnd {bk:Bk} (h:BkS bk) {fr:Frm} (m:fr∈bk.forms):(fr.rules.map fun r=>(r.pl,r.word)).Nodup:=by
 obtain ⟨h1,h2,_,h4,_⟩:=h.fo fr m
 rw [h4]
 unfold dy
 refine List.nodup_append.mpr ⟨?_,jq fun q hq=>(List.nodup_append.mp (h.ws q (h2 q hq)).2.2.1).1,?_⟩
 ·have:=(List.nodup_append.mp (h.ws _ h1).2.2.1).2.1
  exact List.Pairwise.map _ (fun a b (hab:a≠b) e=>hab (Prod.mk.inj e).2) this
 ·intro a ha b hb e
  subst e
  obtain ⟨y,hy,e⟩:=List.mem_map.mp ha
  subst e
  obtain ⟨j,_,e,_⟩:=gx hb
  omega
theorem oE: ∀ {l:List Rul},(l.map fun r=>(r.pl,r.word)).Nodup-> ∀ {a b:Rul},a∈l->b∈l->fU a=fU b->a=b
 | [],_,_,_,ha,_,_=>by cases ha
 | r::l,nd,a,b,ha,hb,e=>by
  have e1:(a.pl,a.word)=(b.pl,b.word):=by
   unfold fU at e
   have h1:=(List.cons.inj e).1
   have h2:=(List.cons.inj (List.cons.inj e).2).1
   rw [Sum.inl.inj h1,Sum.inr.inj h2]
  have nd:((r.pl,r.word)::l.map fun r=>(r.pl,r.word)).Nodup:=nd
  obtain ⟨n1,n2⟩:=List.nodup_cons.mp nd
  rcases List.mem_cons.mp ha with ha | ha
  ·rcases List.mem_cons.mp hb with hb | hb
   ·rw [ha,hb]
   ·exact absurd (List.mem_map.mpr ⟨b,hb,by rw [<- e1,ha]⟩) n1
  ·rcases List.mem_cons.mp hb with hb | hb
   ·exact absurd (List.mem_map.mpr ⟨a,ha,by rw [e1,hb]⟩) n1
   ·exact oE n2 ha hb e
theorem rC {kvs:List (List Key×V)} {k:List Key} {v:V} (h:k∉kvs.map (·.1)):c7 kvs k v=kvs++[(k,v)]:=by
 unfold c7
 rw [if_neg fun z=>by
  obtain ⟨kv,h1,h2⟩:=List.any_eq_true.mp z
  exact h (List.mem_map.mpr ⟨kv,h1,of_decide_eq_true h2⟩)]
theorem jh {l:List Fm} {i:Nat} {g:Fm} (h:l[i]? =some g) (hb:cu g=false):l.all cu=false:=by
 rw [List.all_eq_false]
 exact ⟨g,List.mem_of_getElem? h,by rw [hb];exact Bool.false_ne_true⟩
noncomputable def ll:Sp:=fun vs H Q _=> ∃ v fr,vs=[v]/\RepF H fr v/\fr.rules.length<=12/\(fr.rules.map fun r=>(r.pl,r.word)).Nodup/\ ∀ d kvs H',H d=none->Same H H'->H' d=some (.dT kvs)->Paired (fun r (kv:List Key×V)=>Rep H' (Rul.fm r) kv.2) fr.rules kvs->Q (.ref d) H'
theorem qj (F:Fun K "formulas_by_key" "formulas_by_key" j9 f fd)
  (GR:FnOk P w K mg base CX0 1 f2 fd2 ["form"] dM) (bR:Binds K fd2 ["form"] []) (kR:PySem.W.keepIn K (.ref f2)=true) (mR:mg "rules_of"=some (.ref f2)):FnOk P w K mg base CX0 2 f fd ["form"] ll:=by
 refine F.ok scByKey (fun vs H Q E h=>?_) (fun cdv A outer s H vs Q E hr h=>?_)
 ·obtain ⟨v,fr,rfl,_⟩:=h
  rfl
 obtain ⟨v,fr,rfl,hF,h12,hnd,q⟩:=h
 have hu:=ma hr
 refine ⟨_,ad (aw (i:=1) scByKey.nd rfl (Or.inl rfl) iM)
  (ad (cf PassesOwn.never rfl (a8 (af GR hr rfl mR kR bR .nil al (aa (pv 0) ab)))
    (gK rfl (bc (aO (i:=2) scByKey.nd rfl (Or.inl rfl)) (bc (aO (i:=3) scByKey.nd rfl (Or.inl rfl)) (bc (aO (i:=4) scByKey.nd rfl (Or.inl rfl)) fh))))
   (ah (kg hu (pv 1) (aS (aa (pv 2) (aa (pv 3) ab))) (pv 4) rfl)))
  (ah (au (pv 1)))),?_⟩
 refine fun d hd=>?_
 have s0:=ai hd (.dT [])
 have g0:(upd H d (.dT [])) d=some (.dT []):=ac
 generalize upd H d (.dT [])=H0 at s0 g0 ⊢
 refine ⟨_,rfl,v,fr,rfl,hF.mono (aC s0),fun ra rv hra hR=>?_⟩
 refine ⟨ra,rfl,⟨rv,SqT.of hra⟩,?_⟩
 have lR:=hR.len
 have hra':=hra
 refine c8 (xs:=rv) (fun i σ H'=>i<=rv.length/\ ∃ o2 o3 o4 kvs,σ=[some v,some (.ref d),o2,o3,o4]/\Same H H'/\H' ra=some (.tup rv)/\RepRs H' fr.rules rv/\H' d=some (.dT kvs)/\kvs.length=i/\kvs.map (·.1)=(fr.rules.take i).map fU/\Paired (fun r (kv:List Key×V)=>Rep H' (Rul.fm r) kv.2) (fr.rules.take i) kvs)
  ⟨Nat.zero_le _,none,none,none,[],rfl,s0,hra,hR,g0,rfl,rfl,.nil⟩ (fun i σ H' _ h=>by obtain ⟨_,_,_,_,_,_,_,g,_⟩:=h;exact SqT.of g) ?_ ?_
 ·rintro i x σ H1 hx ⟨_,o2,o3,o4,kvs,rfl,S1,gra,hR1,gd,hl,hk,hP⟩
  have hil:i<rv.length:=(List.getElem?_eq_some_iff.mp hx).1
  obtain ⟨r,hr',a,u,rfl,ha,hu'⟩:=aL hR1 hx
  refine ⟨a,_,rfl,SqT.of ha,rfl,_,_,rfl,_,_,rfl,_,_,rfl,rfl,?_⟩
  refine ⟨_,rfl,_,rfl,_,rfl,_,rfl,(by show 2<=sizeLine;decide),fun t ht=>?_⟩
  have s2:=ai ht (.tup [.int r.pl,.str r.word])
  have g2:(upd H1 t (.tup [.int r.pl,.str r.word])) t=some (.tup ((fU r).map kV)):=ac
  generalize upd H1 t (.tup [.int r.pl,.str r.word])=H2 at s2 g2 ⊢
  refine ⟨d,_,rfl,DPut.t (s2 _ _ gd) g2 (aF (by omega)),?_⟩
  have hn:fU r∉kvs.map (·.1):=fun hm=>by
   rw [hk]at hm
   obtain ⟨r',h1,h2⟩:=List.mem_map.mp hm
   have e:=oE hnd (List.mem_of_mem_take h1) (List.mem_of_getElem? hr') h2
   subst e
   obtain ⟨j,hj⟩:=List.getElem?_of_mem h1
   have hji:j<i:=by
    have:=(List.getElem?_eq_some_iff.mp hj).1
    rw [List.length_take]at this
    omega
   rw [List.getElem?_take,if_pos hji]at hj
   have q1:(fr.rules.map fun r=>(r.pl,r.word))[j]? =some (r'.pl,r'.word):=by rw [List.getElem?_map,hj];rfl
   have q2:(fr.rules.map fun r=>(r.pl,r.word))[i]? =some (r'.pl,r'.word):=by rw [List.getElem?_map,hr'];rfl
   have hlt:j< (fr.rules.map fun r=>(r.pl,r.word)).length:=(List.getElem?_eq_some_iff.mp q1).1
   have:=(List.getElem?_inj hlt hnd).mp (q1.trans q2.symm)
   omega
  rw [rC hn]
  have tk:TK H1 (upd H2 d (.dT (kvs++[(fU r,u)]))):=fun b xs e=>by
   rw [am (fun z=>by rw [z,gd]at e;cases e)]
   exact s2 _ _ e
  refine ⟨hil,_,_,_,_,rfl,?_,tk _ _ gra,hR1.mono tk,ac,?_,?_,?_⟩
  ·intro y o h
   rw [am (aj h hd)]
   exact s2 _ _ (S1 _ _ h)
  ·rw [List.length_append,hl];rfl
  ·rw [List.map_append,hk,List.take_add_one,hr',List.map_append];rfl
  ·rw [List.take_add_one,hr']
   exact Paired.snoc (Paired.mapP hP fun _ _ h=>h.mono tk) (hu'.mono tk)
 ·rintro σ H1 ⟨_,o2,o3,o4,kvs,rfl,S1,gra,hR1,gd,hl,hk,hP⟩
  rw [<- lR,List.take_length]at hP
  exact ⟨_,rfl,q d kvs H1 hd S1 gd hP⟩
theorem iP {α:Type} {R:α->V->Prop}: ∀ {l:List α} {kvs:List (List Key×V)},Paired (fun a (kv:List Key×V)=>R a kv.2) l kvs->Paired R l (kvs.map (·.2))
 | _,_,.nil=>.nil
 | _,_,.cons a t=>.cons a (iP t)
noncomputable abbrev NLf:List Str:=["formula","one"]
theorem scLevelF:ay NLf ["formula"] (ag ie):=fsc
theorem qg (F:Fun K "is_level_formula" "is_level_formula" ie f fd) (hany:mg "any"=none)
  (GT:FnOk P w K mg base CX0 2 f2 fd2 ["formula"] ir) (bT:Binds K fd2 ["formula"] []) (kT:PySem.W.keepIn K (.ref f2)=true) (mT:mg "tuples_of"=some (.ref f2))
  (GR:FnOk P w K mg base CX0 4 f4 fd4 ["formula"] dA) (bR:Binds K fd4 ["formula"] []) (kR:PySem.W.keepIn K (.ref f4)=true) (mR:mg "parts_read"=some (.ref f4)):
  FnOk P w K mg base CX0 5 f fd ["formula"] fQ:=by
 refine F.ok scLevelF (fun vs H Q E h=>?_) (fun cdv A outer s H vs Q E hr h=>?_)
 ·obtain ⟨v,fm,rfl,_⟩:=h
  rfl
 obtain ⟨v,fm,rfl,hR,hwf,h15,q⟩:=h
 have hr2:=hr.mono (show 2<=4 by decide)
 refine ⟨_,ad (cf PassesOwn.never rfl (cS (af GT hr2 rfl mT kT bT .nil al (aa (pv 0) ab))) (aO (i:=1) scLevelF.nd rfl (Or.inr rfl))
   (ad (aK (az aZ (av aq (pv 1) ae (fun _ _=>rfl)) aG (aE _)) (ah (au cj)) ax)
   (ah (aK (PW.pt (di (az aZ (av aq (pv 1) ae (fun _ _=>rfl)) aG (aE _))
    (cR (aN (ao (mr rfl) rfl hany (by decide +kernel) (aa (a9 (sc0:=ag ie) (N0:=NLf) (ys:=["one"]) (fr:=[1]) rfl (cS (af GR hr rfl mR kR bR .nil al (aa (av aq (pv 1) ae (fun _ _=>rfl)) ab))) rfl rfl
     cok
     (fun C s H ex=>bm (r:=rIn K false) cN (pv 0) (af GR hr rfl mR kR bR .nil al (aa (av (r:=gJ K) aq (pv 1) ae (fun _ _=>rfl)) ab)) (by with_unfolding_all rfl))) ab)))))) (ah (au cj)) ax))))
  (ah (au cj)),?_⟩
 obtain ⟨out,gs,hTs,hol,hgood,hall⟩:=Ts.lvl hR hwf h15 Ts.nil .nil
 have hol:out.length=fm.size:=hol
 have hall:gs.all cu=fm.lvB:=by rw [hall];exact Bool.and_true _
 have hgl:gs.length=out.length:=Paired.length hgood
 refine ⟨_,rfl,v,out,rfl,hTs,by omega,fun p H1 s1 g1=>?_⟩
 refine ⟨p,rfl,⟨_,SqL.of g1⟩,?_⟩
 refine mf (xs:=out) (fun i σ H'=> ∃ o1,σ=[some v,o1]/\Same H1 H'/\(gs.take i).all cu=true) ⟨none,rfl,Same.refl _,rfl⟩ (fun i σ H' _ ⟨_,_,s',_⟩=>SqL.of (s' _ _ g1)) ?_ ?_
 ·rintro i u σ H2 hu ⟨o1,rfl,s2,ht⟩
  obtain ⟨g,hgi,hRg,hwg,hsg⟩:=aL hgood hu
  have hRg2:Rep H2 g u:=hRg.mono (aC (s1.trans s2))
  have bad: ∀ H',Same H2 H'->cu g=false->Q (.bl false) H':=fun H' s' hb=>by
   have:=q H' (s1.trans (s2.trans s'))
   rw [<- hall,jh hgi hb]at this
   exact this
  have good:cu g=true->(gs.take (i+1)).all cu=true:=fun hb=>by
   rw [List.take_add_one,hgi,List.all_append,ht,Bool.true_and]
   show (cu g&&true)=true
   rw [hb]
   rfl
  cases g with
  | num n=>
   obtain ⟨a,rfl,ha⟩:=hRg2
   refine ⟨_,rfl,a,_,0,.str "num",rfl,rfl,SqT.of ha,aT,rfl,false,(by rw [decide_eq_false (by decide +kernel)]),aH ?_⟩
   refine ⟨_,rfl,a,_,0,.str "num",rfl,rfl,SqT.of ha,aT,rfl,false,(by rw [decide_eq_false (by decide +kernel)]),aH (aH ⟨_,rfl,s2,good rfl⟩)⟩
  | own x=>
   obtain ⟨a,rfl,ha⟩:=hRg2
   refine ⟨_,rfl,a,_,0,.str "own",rfl,rfl,SqT.of ha,aT,rfl,true,(by rw [decide_eq_true rfl]),aY ?_⟩
   exact bad H2 (Same.refl _) rfl
  | part k x=>
   obtain ⟨a,rfl,ha⟩:=hRg2
   refine ⟨_,rfl,a,_,0,.str "part",rfl,rfl,SqT.of ha,aT,rfl,false,(by rw [decide_eq_false (by decide +kernel)]),aH ?_⟩
   refine ⟨_,rfl,a,_,0,.str "part",rfl,rfl,SqT.of ha,aT,rfl,false,(by rw [decide_eq_false (by decide +kernel)]),aH (aH ⟨_,rfl,s2,good rfl⟩)⟩
  | whn A B C=>
   obtain ⟨a,u1,u2,u3,rfl,ha,_⟩:=hRg2
   refine ⟨_,rfl,a,_,0,.str "when",rfl,rfl,SqT.of ha,aT,rfl,false,(by rw [decide_eq_false (by decide +kernel)]),aH ?_⟩
   refine ⟨_,rfl,a,_,0,.str "when",rfl,rfl,SqT.of ha,aT,rfl,false,(by rw [decide_eq_false (by decide +kernel)]),aH (aH ⟨_,rfl,s2,good rfl⟩)⟩
  | bin op A B=>
   obtain ⟨a,u1,u2,rfl,ha,r1,r2⟩:=hRg2
   obtain ⟨ho,w1,w2⟩:=hwg
   have hz:A.size+B.size+1<=15:=hsg
   have hno:op≠"own":=fun z=>by rw [z]at ho;exact absurd ho (by decide +kernel)
   refine ⟨_,rfl,a,_,0,.str op,rfl,rfl,SqT.of ha,aT,rfl,false,(by rw [decide_eq_false fun z=>hno (V.str.inj z)]),aH ?_⟩
   by_cases ht:op="times"
   ·subst ht
    refine ⟨_,rfl,a,_,0,.str "times",rfl,rfl,SqT.of ha,aT,rfl,true,(by rw [decide_eq_true rfl]),aY ?_⟩
    refine ⟨_,rfl,a,_,1,u1,rfl,rfl,SqT.of ha,aB (j:=1) rfl,u1,A,rfl,r1,w1,by omega,fun p3 ns H3 hp3 s3 g3 hnl hns=>?_⟩
    refine ⟨p3,rfl,⟨_,SqL.of g3⟩,?_⟩
    refine bQ (by rw [List.length_map];omega) (ei ns) (dG g3) (dE g3) (eW g3) (fun _ n v=>v=.bl (decide (n∈B.prt))) (fun _ h=>h) ?_ ?_
    ·rintro n v' H4 k hn rfl s4 hk
     have s24:=s3.trans s4
     refine ⟨_,rfl,_,rfl,a,_,2,u2,rfl,rfl,SqT.of (s24 _ _ ha),aB (j:=2) rfl,u2,B,rfl,r2.mono (aC s24),w2,by omega,fun p5 ms H5 hp5 s5 g5 hml hms=>?_⟩
     refine ⟨p5,_,rfl,.inl (SqL.of g5),rfl,jb _,?_⟩
     refine (show k (.bl (inV (.int n) (ms.map V.int))) H5 from ?_)
     rw [gQ,decide_eq_decide.mpr (hms n)]
     exact hk _ H5 s5 rfl
    ·intro p4 zs H4 hp4 s4 g4 hz4
     have e4:=bf (g:=fun n=>V.bl (decide (n∈B.prt))) hz4
     have e5:zs=(ns.map fun n=>decide (n∈B.prt)).map V.bl:=by rw [e4,List.map_map];rfl
     have hb:(ns.map fun n=>decide (n∈B.prt)).any id=A.prt.any fun k=>decide (k∈B.prt):=by
      rw [List.any_map]
      exact tq hns
     rw [e5]at g4
     have en:cu (.bin "times" A B)= !(A.prt.any fun k=>decide (k∈B.prt)):=by
      show (!(decide (("times":Str)="times")&&_))=_
      rw [decide_eq_true rfl,Bool.true_and]
     have s24:=s3.trans s4
     refine ⟨p4,_,rfl,SqL.of g4,_,rfl,?_⟩
     rw [hb]
     cases hc:(A.prt.any fun k=>decide (k∈B.prt))with
     | true=>
      rw [hc]at en
      exact aY (bad H4 s24 en)
     | false=>
      rw [hc]at en
      exact aH ⟨_,rfl,s2.trans s24,good en⟩
   ·have en:cu (.bin op A B)=true:=by
     show (!(decide (op="times")&&_))=true
     rw [decide_eq_false ht]
     rfl
    refine ⟨_,rfl,a,_,0,.str op,rfl,rfl,SqT.of ha,aT,rfl,false,(by rw [decide_eq_false fun z=>ht (V.str.inj z)]),aH (aH ⟨_,rfl,s2,good en⟩)⟩
 ·rintro σ H2 ⟨o1,rfl,s2,ht⟩
  rw [<- hgl,List.take_length,hall]at ht
  have:=q H2 (s1.trans s2)
  rw [ht]at this
  exact this
noncomputable abbrev NLv:List Str:=["book","form"]
theorem scIsLevel:ay NLv ["book"] (ag eM):=fsc
theorem nP (F:Fun K "is_level" "is_level" eM f fd) (G:Gb mg) (hany:mg "any"=none)
  (GS:FnOk P w K mg base CX0 1 f2 fd2 ["book"] dL) (bS:Binds K fd2 ["book"] []) (kS:PySem.W.keepIn K (.ref f2)=true) (mS:mg "sorts_of"=some (.ref f2))
  (GF:FnOk P w K mg base CX0 1 f3 fd3 ["book"] dN) (bF:Binds K fd3 ["book"] []) (kF:PySem.W.keepIn K (.ref f3)=true) (mF:mg "forms_of"=some (.ref f3))
  (GB:FnOk P w K mg base CX0 2 f4 fd4 ["form"] ll) (bB:Binds K fd4 ["form"] []) (kB:PySem.W.keepIn K (.ref f4)=true) (mB:mg "formulas_by_key"=some (.ref f4))
  (GL:FnOk P w K mg base CX0 5 f5 fd5 ["formula"] fQ) (bL:Binds K fd5 ["formula"] []) (kL:PySem.W.keepIn K (.ref f5)=true) (mL:mg "is_level_formula"=some (.ref f5)):
  FnOk P w K mg base CX0 6 f fd ["book"] fc:=by
 refine F.ok scIsLevel (fun vs H Q E h=>?_) (fun cdv A outer s H vs Q E hr h=>?_)
 ·obtain ⟨bv,bk,rfl,_⟩:=h
  rfl
 obtain ⟨bv,bk,rfl,hB,hok,hdn,q⟩:=h
 have hr1:=hr.mono (show 1<=5 by decide)
 have hr2:=hr.mono (show 2<=5 by decide)
 refine ⟨_,ad (aK (aN (ao (mr rfl) rfl hany (by decide +kernel) (aa (lL (sc0:=ag eM) (N0:=NLv) (ys:=[]) (fr:=[]) rfl (a8 (af GS hr1 rfl mS kS bS .nil al (aa (pv 0) ab))) rfl rfl
    ⟨rfl,by decide +kernel,by decide +kernel,by decide +kernel,by decide +kernel,by decide +kernel,by decide +kernel,by decide +kernel,rfl,by decide +kernel⟩
    (fun C s H ex=>bm rK (ao (r:=fun xs H Q=> ∃ p ys,xs=[.ref p]/\(SqL K H p ys\/SqT K H p ys)/\Q (.int ys.length) H) aA rfl G.len PySem.boot_len (aa (pv 1) ab)) ae (aE _))) ab))) aM ax)
  (ad (cf PassesOwn.never rfl (a8 (af GF hr1 rfl mF kF bF .nil al (aa (pv 0) ab))) (aO (i:=1) scIsLevel.nd rfl (Or.inl rfl))
   (ah (aK (aV (aN (ao (cp rfl) rfl G.all (by decide +kernel) (aa (a9 (sc0:=ag eM) (N0:=NLv) (ys:=[]) (fr:=[]) rfl (oF (af GB hr2 rfl mB kB bB .nil al (aa (pv 1) ab))) rfl rfl
    cok (fun C s H ex=>af GL hr rfl mL kL bL .nil al (aa (pv 0) ab))) ab)))) (ah (au cj)) ax)))
  (ah (au cj))),?_⟩
 have h4:=hok.s.s4
 have h10:=hok.s.few
 refine ⟨_,rfl,_,bk,rfl,hB,fun sb sx hsb hS=>?_⟩
 have lS:=hS.len
 refine ⟨sb,rfl,⟨_,SqT.of hsb⟩,?_⟩
 refine uK (qz (by omega) hS (bz hsb) (bx hsb) (cv hsb) ?_ ?_)
 ·rintro sr v H1 k hsr ⟨a,b,c,rfl,ha,hb,hc⟩ s1 hk
  have hb1:=s1 _ _ hb
  rw [hdn sr hsr]at hb1
  exact ⟨a,_,_,_,rfl,s1 _ _ ha,_,rfl,b,_,rfl,.inr (SqT.of hb1),_,_,rfl,rfl,hk H1 (Same.refl H1)⟩
 intro p bs H1 hbs hp s1 g1
 refine ⟨p,bs,rfl,SqL.of g1,false,(by rw [hbs]),aH ?_⟩
 refine ⟨_,rfl,_,bk,rfl,hB.mono (aC s1),fun fb fx hfb hF=>?_⟩
 have lF:=hF.len
 refine ⟨fb,rfl,⟨_,SqT.of hfb⟩,?_⟩
 refine c8 (xs:=fx) (fun i σ H'=> ∃ o1,σ=[some bv,o1]/\Same H1 H'/\(bk.forms.take i).all Frm.lvB=true) ⟨none,rfl,Same.refl _,rfl⟩ (fun i σ H' _ ⟨_,_,s',_⟩=>SqT.of (s' _ _ hfb)) ?_ ?_
 ·rintro i x σ H2 hx ⟨o1,rfl,s2,ht⟩
  obtain ⟨fr,hfr,hRf⟩:=aL hF hx
  have hfm:=List.mem_of_getElem? hfr
  refine ⟨_,rfl,x,fr,rfl,hRf.mono (aC s2),hok.s.rules12 hfm,hok.s.tnd hfm,fun d kvs H3 hd s3 g3 hP=>?_⟩
  have lP:=Paired.length hP
  have h12:=hok.s.rules12 hfm
  refine ⟨d,kvs,rfl,.inl ⟨g3,fun o=>?_⟩⟩
  have gF:(upd H3 d (.frz o (.dT kvs))) d=some (.frz o (.dT kvs)):=ac
  have sF:Same H2 (upd H3 d (.frz o (.dT kvs))):=fun b u h=>by rw [am (aj h hd)];exact s3 _ _ h
  have tF:TK H3 (upd H3 d (.frz o (.dT kvs))):=fun b xs h=>by rw [am (fun z=>by rw [z,g3]at h;cases h)];exact h
  generalize upd H3 d (.frz o (.dT kvs))=HF at gF sF tF ⊢
  refine bQ (by rw [List.length_map];omega) (iP hP) (ut gF) (ur gF) (vo gF) (fun _ r v=>v=.bl r.fm.lvB) (fun _ h=>h) ?_ ?_
  ·rintro r v' H4 k hr' hR s4 hk
   obtain ⟨_,_,_,_,hwz⟩:=hok.s.fo fr hfm
   exact ⟨_,rfl,v',r.fm,rfl,(hR.mono tF).mono (aC s4),(hwz r hr').1,(hwz r hr').2,fun H5 s5=>hk _ H5 s5 rfl⟩
  ·intro p4 zs H4 hp4 s4 g4 hz
   have e:=bf (g:=fun r:Rul=>V.bl r.fm.lvB) hz
   have e2:zs=(fr.rules.map fun r=>r.fm.lvB).map V.bl:=by rw [e,List.map_map];rfl
   have hb:(fr.rules.map fun r=>r.fm.lvB).all id=fr.lvB:=by rw [List.all_map];rfl
   rw [e2]at g4
   have s24:=sF.trans s4
   refine ⟨p4,_,rfl,SqL.of g4,_,rfl,?_⟩
   rw [hb]
   cases hc:fr.lvB with
   | true=>
    refine aH ⟨_,rfl,s2.trans s24,?_⟩
    rw [List.take_add_one,hfr,List.all_append,ht,Bool.true_and]
    show (fr.lvB&&true)=true
    rw [hc]
    rfl
   | false=>
    refine aY ?_
    have:=q H4 (s1.trans (s2.trans s24))
    rw [show bk.lvB=false from List.all_eq_false.mpr ⟨fr,hfm,by rw [hc];exact Bool.false_ne_true⟩]at this
    exact this
 ·rintro σ H2 ⟨o1,rfl,s2,ht⟩
  rw [<- lF,List.take_length]at ht
  have:=q H2 (s1.trans s2)
  rw [show bk.lvB=true from ht]at this
  exact this
noncomputable def jI (bk:Bk):V:=if bk.wheel=0/\bk.lvB=false then .str "wheel" else .non
noncomputable def uG:Sp:=fun vs H Q _=> ∃ bv bk,vs=[bv]/\RepB H bk bv/\BkV bk/\(∀ s∈bk.sorts,s.downs=[])/\ ∀ H',Same H H'->Q (jI bk) H'
theorem vR:ay ["thing"] ["thing"] (ag qZ):=fsc
theorem va (F:Fun K "why_no_book" "why_no_book" qZ f fd) (G:Gb mg)
  (GS:FnOk P w K mg base CX0 4 f2 fd2 ["thing"] iy) (bS:Binds K fd2 ["thing"] []) (kS:PySem.W.keepIn K (.ref f2)=true) (mS:mg "has_shape"=some (.ref f2))
  (GN:FnOk P w K mg base CX0 2 f3 fd3 ["book"] iz) (bN:Binds K fd3 ["book"] []) (kN:PySem.W.keepIn K (.ref f3)=true) (mN:mg "has_names"=some (.ref f3))
  (GF:FnOk P w K mg base CX0 1 f4 fd4 ["book"] dN) (bF:Binds K fd4 ["book"] []) (kF:PySem.W.keepIn K (.ref f4)=true) (mF:mg "forms_of"=some (.ref f4))
  (GK:FnOk P w K mg base CX0 2 f5 fd5 ["form"] li) (bK:Binds K fd5 ["form"] []) (kK:PySem.W.keepIn K (.ref f5)=true) (mK:mg "keys_of"=some (.ref f5))
  (GD:FnOk P w K mg base CX0 4 f6 fd6 ["book","form"] jt) (bD:Binds K fd6 ["book","form"] []) (kD:PySem.W.keepIn K (.ref f6)=true) (mD:mg "due_keys"=some (.ref f6))
  (GH:FnOk P w K mg base CX0 6 f7 fd7 ["book","form"] iA) (bH:Binds K fd7 ["book","form"] []) (kH:PySem.W.keepIn K (.ref f7)=true) (mH:mg "has_formulas"=some (.ref f7))
  (GW:FnOk P w K mg base CX0 1 f8 fd8 ["book"] gC) (bW:Binds K fd8 ["book"] []) (kW:PySem.W.keepIn K (.ref f8)=true) (mW:mg "wheel_of"=some (.ref f8))
  (GL:FnOk P w K mg base CX0 6 f9 fd9 ["book"] fc) (bL:Binds K fd9 ["book"] []) (kL:PySem.W.keepIn K (.ref f9)=true) (mL:mg "is_level"=some (.ref f9)):
  FnOk P w K mg base CX0 7 f fd ["thing"] uG:=by
 refine F.ok vR (fun vs H Q E h=>?_) (fun cdv A outer s H vs Q E hr h=>?_)
 ·obtain ⟨bv,bk,rfl,_⟩:=h
  rfl
 obtain ⟨bv,bk,rfl,hB,hok,hdn,q⟩:=h
 have hu:=ma hr
 have hu2:=Nat.lt_of_le_of_lt (Nat.add_le_add_left (show 1+1<=16 by decide) _) hu
 have hr1:=hr.mono (show 1<=6 by decide)
 have hr2:=hr.mono (show 2<=6 by decide)
 have hr4:=hr.mono (show 4<=6 by decide)
 refine ⟨_,ad (aK (aV (aN (af GS hr4 rfl mS kS bS .nil al (aa (pv 0) ab)))) aM ax)
  (ad (aK (aV (aN (af GN hr2 rfl mN kN bN .nil al (aa (pv 0) ab)))) aM ax)
  (ad (aK (aV (aN (ao (cp rfl) rfl G.all (by decide +kernel) (aa (a9 (sc0:=ag qZ) (N0:=["thing"]) (ys:=["thing"]) (fr:=[0]) rfl (a8 (af GF hr1 rfl mF kF bF .nil al (aa (pv 0) ab))) rfl rfl
    cok
    (fun C s H ex=>bm (r:=v5 1) (u9 hu2) (af GK hr2 rfl mK kK bK .nil al (aa (pv 0) ab)) (af GD hr4 rfl mD kD bD .nil al (aa (pv 1) (aa (pv 0) ab))) (aE _))) ab)))) aM ax)
  (ad (aK (aV (aN (ao (cp rfl) rfl G.all (by decide +kernel) (aa (a9 (sc0:=ag qZ) (N0:=["thing"]) (ys:=["thing"]) (fr:=[0]) rfl (a8 (af GF hr1 rfl mF kF bF .nil al (aa (pv 0) ab))) rfl rfl
    cok
    (fun C s H ex=>af GH hr rfl mH kH bH .nil al (aa (pv 1) (aa (pv 0) ab)))) ab)))) aM ax)
  (ad (aK (PW.pt (di (az aZ (af GW hr1 rfl mW kW bW .nil al (aa (pv 0) ab)) ae (aE _)) (cR (aV (aN (af GL hr rfl mL kL bL .nil al (aa (pv 0) ab))))))) (ah (au aG)) ax)
  (ah (au gL)))))),?_⟩
 have h10:=hok.s.few
 refine ⟨_,rfl,bv,bk,rfl,hB,hok,fun H1 s1=>⟨true,rfl,aH ?_⟩⟩
 refine ⟨_,rfl,bv,bk,rfl,hB.mono (aC s1),hok,fun H2 s2=>⟨true,rfl,aH ?_⟩⟩
 have S2:=s1.trans s2
 have hB2:=hB.mono (aC S2)
 refine ⟨_,rfl,_,bk,rfl,hB2,fun fb fx hfb hF=>?_⟩
 have lF:=hF.len
 refine ⟨fb,rfl,⟨_,SqT.of hfb⟩,?_⟩
 refine cJ (by omega) hF (bz hfb) (bx hfb) (cv hfb) ?_ ?_
 ·rintro fr v H3 k hfr hRf s3 hk
  refine ⟨_,rfl,v,fr,rfl,hRf.mono (aC s3),hok.s.rules12 hfr,fun p4 zs H4 hp4 s4 g4 hk4=>?_⟩
  have s34:=s3.trans s4
  refine ⟨_,rfl,_,rfl,bv,bk,v,fr,rfl,hB2.mono (aC s34),hok.s,hRf.mono (aC s34),hfr,fun p5 ys H5 hp5 s5 g5 hk5=>?_⟩
  have e:(fr.rules.map fun r=>(r.pl,r.word))=dy fr.own fr.parts:=(hok.s.fo fr hfr).2.2.2.1
  rw [e]at hk4
  exact ⟨p4,p5,zs,ys,rfl,rfl,s5 _ _ g4,g5,sI (L2.KsOf.mono hk4 fun b xs h=>s5 _ _ h) hk5,hk H5 (s4.trans s5)⟩
 intro p bs H3 hbs hp s3 g3
 refine ⟨p,bs,rfl,SqL.of g3,true,(by rw [hbs]),aH ?_⟩
 have S3:=S2.trans s3
 have hB3:=hB.mono (aC S3)
 refine ⟨_,rfl,_,bk,rfl,hB3,fun fb fx hfb hF=>?_⟩
 have lF:=hF.len
 refine ⟨fb,rfl,⟨_,SqT.of hfb⟩,?_⟩
 refine cJ (by omega) hF (bz hfb) (bx hfb) (cv hfb) ?_ ?_
 ·rintro fr v H4 k hfr hRf s4 hk
  exact ⟨_,rfl,_,rfl,bv,bk,v,fr,rfl,hB3.mono (aC s4),hok,hRf.mono (aC s4),hfr,hk⟩
 intro p4 bs4 H4 hbs4 hp4 s4 g4
 refine ⟨p4,bs4,rfl,SqL.of g4,true,(by rw [hbs4]),aH ?_⟩
 have S4:=S3.trans s4
 have hB4:=hB.mono (aC S4)
 refine ⟨_,rfl,_,bk,rfl,hB4,rfl,_,rfl,?_⟩
 refine bo (fun c=>?_) (fun c=>aH ?_)
 ·have hw0:bk.wheel=0:=V.int.inj (of_decide_eq_true c)
  refine ⟨_,rfl,bv,bk,rfl,hB4,hok,hdn,fun H5 s5=>⟨_,rfl,?_⟩⟩
  have:=q H5 (S4.trans s5)
  unfold jI at this
  cases hl:bk.lvB with
  | true=>
   rw [if_neg fun z=>by rw [hl]at z;cases z.2]at this
   exact aH this
  | false=>
   rw [if_pos ⟨hw0,hl⟩]at this
   exact aY this
 ·have hw0: ¬ bk.wheel=0:=fun e=>c (decide_eq_true (by rw [e]))
  have:=q H4 S4
  unfold jI at this
  rw [if_neg fun z=>hw0 z.1]at this
  exact this
noncomputable def LvP (ρ:Fm->Prop) (H:Hp) (rs:List V):Prop:= ∀ v∈rs,∃ k x,Rep H (.part k x) v/\(Fm.part k x).wfp ρ
theorem LvP.mono {ρ:Fm->Prop} {H H':Hp} (t:TK H H') {rs:List V} (h:LvP ρ H rs):LvP ρ H' rs:=fun v hv=>by
 obtain ⟨k,x,r,w⟩:=h v hv
 exact ⟨k,x,r.mono t,w⟩
theorem LvP.leafs {ρ:Fm->Prop} {H:Hp} {rs:List V} (h:LvP ρ H rs):wL ρ H rs:=fun v hv=>by
 obtain ⟨k,x,r,w⟩:=h v hv
 exact ⟨_,r,w,rfl⟩
theorem dY {ρ:Fm->Prop} {S:Int->Prop} (hS: ∀ k x,ρ (.part k x)->S k): ∀ {f:Fm},f.wfp ρ-> ∀ k∈f.prt,S k
 | .num _,_,k,h=>by cases h
 | .own _,_,k,h=>by cases h
 | .part j x,w,k,h=>by rw [List.mem_singleton.mp h];exact hS j x w.2
 | .bin _ a b,w,k,h=>by
  rcases List.mem_append.mp h with h | h
  ·exact dY hS w.2.1 k h
  ·exact dY hS w.2.2 k h
 | .whn a b c,w,k,h=>by
  rcases List.mem_append.mp h with h | h
  ·exact dY hS w.1 k h
  ·rcases List.mem_append.mp h with h | h
   ·exact dY hS w.2.1 k h
   ·exact dY hS w.2.2 k h
theorem cZ {ρ τ:Fm->Prop} (hS: ∀ f,ρ f->τ f): ∀ {f:Fm},f.wfp ρ->f.wfp τ
 | .num _,h=>h
 | .own _,h=>⟨h.1,hS _ h.2⟩
 | .part _ _,h=>⟨h.1,hS _ h.2⟩
 | .bin _ _ _,h=>⟨h.1,cZ hS h.2.1,cZ hS h.2.2⟩
 | .whn _ _ _,h=>⟨cZ hS h.1,cZ hS h.2.1,cZ hS h.2.2⟩
theorem l3 {ρ:Fm->Prop} (hno: ∀ x,¬ ρ (.own x)) {f:Fm} (w:f.wfp ρ) (h:f.size=1):f.lvl:=by
 cases f with
 | num _=>trivial
 | own x=>exact (hno x w.2).elim
 | part _ _=>trivial
 | bin _ a b=>have:=a.size_pos;have:a.size+b.size+1=1:=h;omega
 | whn a b c=>have:=a.size_pos;have:a.size+b.size+c.size+1=1:=h;omega
noncomputable def vP (n:Nat) (ρ:Fm->Prop):Sp:=fun vs H Q _=> ∃ (tp rl sg:Addr) (rs:List V) (room:Int) (ss:List Str),vs=[.ref tp,.ref rl,.int room,.ref sg]/\Tp H tp/\rl≠tp/\sg≠tp/\H rl=some (.lst rs)/\rs.length<=1000/\LvP ρ H rs/\
 H sg=some (.lst (ss.map V.str))/\1<=ss.length/\ss.length<=1000/\(∀ x∈ss,x∈ops)/\1<=room/\room<=(n:Int)/\room<=1000/\ ∀ v f H',Rep H' f v->f.wfp ρ->f.lvl->(f.size:Int)<=2*room-1->Kp tp H H'->Tp H' tp->Q v H'
theorem gN (tp:Addr) (H:Hp) (o:HO):Kp tp H (upd H tp o):=fun b u h hb=>by rw [am hb];exact h
theorem iW {tp:Addr} {H H':Hp} (s:Same H H'):Kp tp H H':=fun b u h _=>s _ _ h
theorem uI {ρ:Fm->Prop} {H:Hp}: ∀ {rs:List V},LvP ρ H rs-> ∃ ks:List Int,Paired (fun (k:Int) v=> ∃ x,Rep H (.part k x) v/\(Fm.part k x).wfp ρ) ks rs
 | [],_=>⟨[],.nil⟩
 | v::r,h=>by
  obtain ⟨ks,hk⟩:=uI (rs:=r) fun u hu=>h u (List.mem_cons_of_mem _ hu)
  obtain ⟨k,x,hR,hw⟩:=h v List.mem_cons_self
  exact ⟨k::ks,.cons ⟨x,hR,hw⟩ hk⟩
theorem sH {ρ:Fm->Prop} {S:Int->Prop} {H:Hp}: ∀ {ks:List Int} {zs:List V},Paired (fun (k:Int) v=> ∃ x,Rep H (.part k x) v/\(Fm.part k x).wfp ρ) ks zs->(∀ k∈ks,S k)->LvP (fun g=>ρ g/\ ∀ k x,g=.part k x->S k) H zs
 | _,_,.nil,_,v,hv=>by cases hv
 | _,_,.cons ⟨x,hR,hw⟩ t,hS,v,hv=>by
  rcases List.mem_cons.mp hv with e | e
  ·subst e
   exact ⟨_,x,hR,hw.1,hw.2,fun k y z=>by cases z;exact hS _ List.mem_cons_self⟩
  ·exact sH t (fun k hk=>hS k (List.mem_cons_of_mem _ hk)) v e
theorem FnOk.exA {P:Program} {w:World} {K:PySem.W.Frag} {mg:Str->Option Value} {base:Heap} {CX:CXT} {k:Nat} {f:Addr} {fd:FuncData} {ps:List Str} {α:Type} {sp:α->Sp} (h: ∀ a,FnOk P w K mg base CX k f fd ps (sp a)):FnOk P w K mg base CX k f fd ps (fun vs H Q E=> ∃ a,sp a vs H Q E):=
 ⟨fun vs H Q E ⟨a,z⟩=>(h a).len vs H Q E z,fun A o s H args us vs Q E r e b v ⟨a,z⟩=>(h a).run A o s H args us vs Q E r e b v z⟩
noncomputable def gZ (n:Nat):Sp:=fun vs H Q E=> ∃ ρ:Fm->Prop,(∀ x,¬ ρ (.own x))/\vP n ρ vs H Q E
noncomputable def oy:Sp:=fun vs H Q E=> ∃ ρ:Fm->Prop,ox ρ vs H Q E
noncomputable abbrev vC:List Str:=["tape","readings","room","signs","left","sign","one","cut","some","others","other"]
theorem scLvF:ay vC ["tape","readings","room","signs"] (ag cL):=fsc
theorem ue {n:Nat} (F:Fun K "_law_level_formula" "_law_level_formula" cL f fd) (G:Gb mg)
  (GD:FnOk P w K mg base CX0 1 f2 fd2 ["tape","many"] bj) (bD:Binds K fd2 ["tape","many"] []) (kD:PySem.W.keepIn K (.ref f2)=true) (mD:mg "_law_digit"=some (.ref f2))
  (GL:FnOk P w K mg base CX0 3 f3 fd3 ["tape","readings"] oy) (bL:Binds K fd3 ["tape","readings"] []) (kL:PySem.W.keepIn K (.ref f3)=true) (mL:mg "_law_leaf"=some (.ref f3))
  (GS:FnOk P w K mg base CX0 (n+3) f fd ["tape","readings","room","signs"] (gZ n)) (bS:Binds K fd ["tape","readings","room","signs"] []) (mS:mg "_law_level_formula"=some (.ref f)):
  FnOk P w K mg base CX0 (n+4) f fd ["tape","readings","room","signs"] (gZ (n+1)):=by
 refine F.ok scLvF (fun vs H Q E h=>?_) (fun cdv A outer s H vs Q E hr h=>?_)
 ·obtain ⟨ρ,_,tp,rl,sg,rs,room,ss,rfl,_⟩:=h
  rfl
 obtain ⟨ρ,hno,tp,rl,sg,rs,room,ss,rfl,ht,n1,n2,hrl,hrs,hlv,hsg,hs1,hs2,hso,h1,h2,h3,q⟩:=h
 have hr1:=hr.mono (show 1<=n+3 by omega)
 have hr3:=hr.mono (show 3<=n+3 by omega)
 refine ⟨_,ad (aK (PW.pt (cY (az hV (pv 2) ae (aE _)) (cA (az aZ (af GD hr1 rfl mD kD bD .nil al (aa (pv 0) (aa ae ab))) ae (aE _)))))
   (ah (au (af GL hr3 rfl mL kL bL .nil al (aa (pv 0) (aa (pv 1) ab))))) ax)
  (ad (aw (i:=4) scLvF.nd rfl (Or.inl rfl) (aJ bi ae (af GD hr1 rfl mD kD bD .nil al (aa (pv 0) (aa (aJ eS (pv 2) ae) ab)))))
  (ad (aw (i:=5) scLvF.nd rfl (Or.inl rfl) (av bn (pv 3) (af GD hr1 rfl mD kD bD .nil al (aa (pv 0) (aa (ao aA rfl G.len PySem.boot_len (aa (pv 3) ab)) ab))) (fun _ _=>rfl)))
  (ad (aK (az iS (pv 5) aG (aE _))
   (ad (aw (i:=6) scLvF.nd rfl (Or.inl rfl) (af GS hr rfl mS F.kp bS .nil al (aa (pv 0) (aa (pv 1) (aa (pv 4) (aa (pv 3) ab))))))
   (ah (au (aS (aa (pv 5) (aa (pv 6) (aa (af GS hr rfl mS F.kp bS .nil al (aa (pv 0) (aa (pv 1) (aa (aJ eS (pv 2) (pv 4)) (aa (pv 3) ab))))) ab))))))) ax)
  (ad (aw (i:=7) scLvF.nd rfl (Or.inr rfl) (af GD hr1 rfl mD kD bD .nil al (aa (pv 0) (aa ae ab))))
  (ad (lI (i:=8) (sc0:=ag cL) (N0:=vC) (ys:=["cut"]) (fr:=[7]) rfl scLvF.nd rfl (Or.inl rfl) (cS (pv 1)) rfl rfl
    cok
    (fun C s H ex=>az aZ (av (r:=gJ K) aq (pv 0) ae (fun _ _=>rfl)) (pv 1) (aE _)) (fun C s H ex=>pv 0))
  (ad (lI (i:=9) (sc0:=ag cL) (N0:=vC) (ys:=["cut"]) (fr:=[7]) rfl scLvF.nd rfl (Or.inl rfl) (cS (pv 1)) rfl rfl
    cok
    (fun C s H ex=>az iS (av (r:=gJ K) aq (pv 0) ae (fun _ _=>rfl)) (pv 1) (aE _)) (fun C s H ex=>pv 0))
  (ad (aw (i:=6) scLvF.nd rfl (Or.inl rfl) (af GS hr rfl mS F.kp bS .nil al (aa (pv 0) (aa (pv 8) (aa (pv 4) (aa (pv 3) ab))))))
  (ad (aw (i:=10) scLvF.nd rfl (Or.inl rfl) (af GS hr rfl mS F.kp bS .nil al (aa (pv 0) (aa (pv 9) (aa (aJ eS (pv 2) (pv 4)) (aa (pv 3) ab))))))
  (ah (au (av bn (bd (aa (aS (aa aG (aa (pv 6) (aa (pv 10) ab)))) (aa (aS (aa aG (aa (pv 10) (aa (pv 6) ab)))) ab))) (af GD hr1 rfl mD kD bD .nil al (aa (pv 0) (aa ae ab))) (fun _ _=>rfl)))))))))))),?_⟩
 have hsl:(ss.map V.str).length=ss.length:=List.length_map _
 refine ⟨_,rfl,room,2,rfl,rfl,_,rfl,?_⟩
 refine bo (fun c=>aY ?_) (fun c=>?_)
 ·exact ⟨_,rfl,_,rfl,ρ,tp,rl,rs,rfl,ht,n1,hrl,hrs,hlv.leafs,fun v g H2 hR hw hz k2 t2=>q v g H2 hR hw (l3 hno hw hz) (by rw [hz];omega) k2 t2⟩
 have hroom:2<=room:=by
  have: ¬ room<2:=fun z=>c (decide_eq_true z)
  omega
 refine ⟨_,rfl,tp,5,rfl,ht,by decide,by decide,fun d t d0 d1=>?_⟩
 have k1:Kp tp H (upd H tp (.lst [.int t])):=gN _ _ _
 have t1:Tp (upd H tp (.lst [.int t])) tp:=⟨t,ac⟩
 generalize upd H tp (.lst [.int t])=H1 at k1 t1 ⊢
 refine ⟨rfl,_,rfl,?_⟩
 refine bo (fun c1=>?_) (fun c1=>?_)
 ·exact ⟨_,rfl,_,rfl,ρ,tp,rl,rs,rfl,t1,n1,k1 _ _ hrl n1,hrs,(hlv.mono (k1.tk ht)).leafs,fun v g H2 hR hw hz k2 t2=>q v g H2 hR hw (l3 hno hw hz) (by rw [hz];omega) (k1.trans k2) t2⟩
 refine ⟨_,rfl,_,rfl,room,1,rfl,rfl,tp,room-1,rfl,t1,by omega,by omega,fun d2 u2 e0 e1=>?_⟩
 have k2:=k1.trans (gN tp H1 (.lst [.int u2]))
 have t2:Tp (upd H1 tp (.lst [.int u2])) tp:=⟨u2,ac⟩
 generalize upd H1 tp (.lst [.int u2])=H2 at k2 t2 ⊢
 refine ⟨1,d2,rfl,rfl,?_⟩
 refine ⟨_,rfl,_,rfl,_,rfl,sg,_,rfl,.inl (SqL.of (k2 _ _ hsg n2)),tp,_,rfl,t2,by omega,by omega,fun d3 u3 g0 g1=>?_⟩
 have k3:=k2.trans (gN tp H2 (.lst [.int u3]))
 have t3:Tp (upd H2 tp (.lst [.int u3])) tp:=⟨u3,ac⟩
 generalize upd H2 tp (.lst [.int u3])=H3 at k3 t3 ⊢
 obtain ⟨sv,eat,eix⟩:=cW g0 g1
 rw [List.getElem?_map]at eix
 obtain ⟨sn,hsn,rfl⟩:=Option.map_eq_some_iff.mp eix
 have hop:=hso sn (List.mem_of_getElem? hsn)
 refine ⟨sg,_,_,_,rfl,rfl,SqL.of (k3 _ _ hsg n2),eat,?_⟩
 refine ⟨_,rfl,rfl,_,rfl,?_⟩
 have tp3:=k3.tk ht
 by_cases hne:sn="times"
 ·subst hne
  rw [show (!decide (V.str "times"=V.str "times"))=false by rw [decide_eq_true rfl];rfl]
  refine aH ?_
  refine ⟨_,rfl,tp,3,rfl,t3,by decide,by decide,fun d4 u4 _ _=>?_⟩
  have k4:=k3.trans (gN tp H3 (.lst [.int u4]))
  have t4:Tp (upd H3 tp (.lst [.int u4])) tp:=⟨u4,ac⟩
  generalize upd H3 tp (.lst [.int u4])=H4 at k4 t4 ⊢
  have hrl4:=k4 _ _ hrl n1
  obtain ⟨ks,hks⟩:=uI (hlv.mono (k4.tk ht))
  refine ⟨_,rfl,rl,rfl,⟨_,SqL.of hrl4⟩,?_⟩
  refine ik hrs hks (dG hrl4) (dE hrl4) (eW hrl4) (fun k=>decide (V.int k=V.int d4)) (fun H k v=> ∃ x,Rep H (.part k x) v/\(Fm.part k x).wfp ρ) (fun t ⟨x,hR,hw⟩=>⟨x,hR.mono t,hw⟩) ?_ ?_ ?_
  ·rintro k v Ha kk _ ⟨x,⟨b,rfl,hb⟩,_⟩ sa hk
   exact ⟨_,rfl,b,_,1,.int k,rfl,rfl,SqT.of (sa _ _ hb),aB (j:=1) rfl,_,rfl,rfl,_,rfl,hk Ha (Same.refl Ha)⟩
  ·rintro k v Ha kk _ ⟨x,hR,hw⟩ _ sa hk
   exact ⟨_,rfl,hk _ Ha (Same.refl Ha) ⟨x,hR.mono (aC sa),hw⟩⟩
  intro p5 zs H5 hp5 s5 gz hz
  have k5:=k4.trans (iW (tp:=tp) s5)
  have hrl5:=s5 _ _ hrl4
  refine ⟨_,rfl,rl,rfl,⟨_,SqL.of hrl5⟩,?_⟩
  refine ik hrs (Paired.mapP hks fun k v ⟨x,hR,hw⟩=>(⟨x,hR.mono (aC s5),hw⟩: ∃ x,Rep H5 (.part k x) v/\(Fm.part k x).wfp ρ)) (dG hrl5) (dE hrl5) (eW hrl5) (fun k=> !decide (V.int k=V.int d4)) (fun H k v=> ∃ x,Rep H (.part k x) v/\(Fm.part k x).wfp ρ) (fun t ⟨x,hR,hw⟩=>⟨x,hR.mono t,hw⟩) ?_ ?_ ?_
  ·rintro k v Ha kk _ ⟨x,⟨b,rfl,hb⟩,_⟩ sa hk
   exact ⟨_,rfl,b,_,1,.int k,rfl,rfl,SqT.of (sa _ _ hb),aB (j:=1) rfl,_,rfl,rfl,_,rfl,hk Ha (Same.refl Ha)⟩
  ·rintro k v Ha kk _ ⟨x,hR,hw⟩ _ sa hk
   exact ⟨_,rfl,hk _ Ha (Same.refl Ha) ⟨x,hR.mono (aC sa),hw⟩⟩
  intro p6 ys H6 hp6 s6 gy hy
  have k6:=k5.trans (iW (tp:=tp) s6)
  have ntp: ∀ {H':Hp} {b:Addr},Tp H' tp->H' b=none->b≠tp:=fun ⟨u,hu⟩ hb z=>by rw [z,hu]at hb;cases hb
  have t5:Tp H5 tp:=by obtain ⟨u,hu⟩:=t4;exact ⟨u,s5 _ _ hu⟩
  have t6:Tp H6 tp:=by obtain ⟨u,hu⟩:=t5;exact ⟨u,s6 _ _ hu⟩
  have n5:=ntp t4 hp5
  have n6:=ntp t5 hp6
  have lk:=Paired.length hks
  have lz:=Paired.length hz
  have ly:=Paired.length hy
  have lf1:=List.length_filter_le (fun k=>decide (V.int k=V.int d4)) ks
  have lf2:=List.length_filter_le (fun k=> !decide (V.int k=V.int d4)) ks
  have L1:LvP (fun g=>ρ g/\ ∀ k x,g=.part k x->k=d4) H6 zs:=(sH (S:=fun k=>k=d4) hz fun k hk=>V.int.inj (of_decide_eq_true (List.mem_filter.mp hk).2)).mono (aC s6)
  have L2:LvP (fun g=>ρ g/\ ∀ k x,g=.part k x->k≠d4) H6 ys:=sH (S:=fun k=>k≠d4) hy fun k hk z=>by
   have:=(List.mem_filter.mp hk).2
   rw [z,decide_eq_true rfl]at this
   cases this
  refine ⟨_,rfl,_,rfl,_,rfl,_,rfl,_,fun x h=>hno x h.1,tp,p5,sg,zs,1+d2,ss,rfl,t6,n5,n2,s6 _ _ gz,by omega,L1,k6 _ _ hsg n2,hs1,hs2,hso,by omega,by omega,by omega,fun v1 f1 H7 hR1 hw1 hl1 hz1 k7 t7=>?_⟩
  have k07:=k6.trans k7
  refine ⟨_,rfl,_,rfl,_,rfl,_,rfl,room,1+d2,rfl,rfl,_,rfl,_,fun x h=>hno x h.1,tp,p6,sg,ys,room- (1+d2),ss,rfl,t7,n6,n2,k7 _ _ gy n6,by omega,L2.mono (k7.tk t6),k07 _ _ hsg n2,hs1,hs2,hso,by omega,by omega,by omega,fun v2 f2 H8 hR2 hw2 hl2 hz2 k8 t8=>?_⟩
  have hR1':=hR1.mono (k8.tk t7)
  refine ⟨_,rfl,_,rfl,(by show 3<=sizeLine;decide),fun pa hpa=>?_⟩
  have s9:=ai hpa (.tup [.str "times",v1,v2])
  have g9:(upd H8 pa (.tup [.str "times",v1,v2])) pa=some (.tup [.str "times",v1,v2]):=ac
  generalize upd H8 pa (.tup [.str "times",v1,v2])=H9 at s9 g9 ⊢
  refine ⟨_,rfl,_,rfl,(by show 3<=sizeLine;decide),fun pb hpb=>?_⟩
  have s10:=ai hpb (.tup [.str "times",v2,v1])
  have g10:(upd H9 pb (.tup [.str "times",v2,v1])) pb=some (.tup [.str "times",v2,v1]):=ac
  generalize upd H9 pb (.tup [.str "times",v2,v1])=H10 at s10 g10 ⊢
  refine ⟨(by show 2<=sizeLine;decide),fun pl hpl=>?_⟩
  have s11:=ai hpl (.lst [.ref pa,.ref pb])
  have g11:(upd H10 pl (.lst [.ref pa,.ref pb])) pl=some (.lst [.ref pa,.ref pb]):=ac
  generalize upd H10 pl (.lst [.ref pa,.ref pb])=H11 at s11 g11 ⊢
  have S11:=s9.trans (s10.trans s11)
  have t11:Tp H11 tp:=by obtain ⟨u,hu⟩:=t8;exact ⟨u,S11 _ _ hu⟩
  have t10:Tp H10 tp:=by obtain ⟨u,hu⟩:=t8;exact ⟨u,s10 _ _ (s9 _ _ hu)⟩
  refine ⟨_,rfl,tp,2,rfl,t11,by decide,by decide,fun d5 u5 h50 h51=>?_⟩
  have k12:=gN tp H11 (.lst [.int u5])
  have t12:Tp (upd H11 tp (.lst [.int u5])) tp:=⟨u5,ac⟩
  generalize upd H11 tp (.lst [.int u5])=H12 at k12 t12 ⊢
  have kall:=k07.trans (k8.trans ((iW (tp:=tp) S11).trans k12))
  have T12:TK H8 H12:=fun b xs h=>k12.tk t11 _ _ (S11 _ _ h)
  have gl:=k12 _ _ g11 (ntp t10 hpl)
  have ga:=k12.tk t11 _ _ (s11 _ _ (s10 _ _ g9))
  have gb:=k12.tk t11 _ _ (s11 _ _ g10)
  have pr1:=dY (S:=fun k=>k=d4) (fun k x h=>h.2 k x rfl) hw1
  have pr2:=dY (S:=fun k=>k≠d4) (fun k x h=>h.2 k x rfl) hw2
  have W1:=cZ (τ:=ρ) (fun f h=>h.1) hw1
  have W2:=cZ (τ:=ρ) (fun f h=>h.1) hw2
  have hd5:d5=0\/d5=1:=by omega
  rcases hd5 with rfl | rfl
  ·refine ⟨pl,_,0,.ref pa,rfl,rfl,SqL.of gl,aT,q _ (.bin "times" f1 f2) H12 ⟨pa,v1,v2,rfl,ga,hR1'.mono T12,hR2.mono T12⟩ ⟨hop,W1,W2⟩ ⟨hl1,hl2,fun _ k a b=>pr2 k b (pr1 k a)⟩ ?_ kall t12⟩
   show ((f1.size+f2.size+1:Nat):Int)<=_
   omega
  ·refine ⟨pl,_,1,.ref pb,rfl,rfl,SqL.of gl,aB (j:=1) rfl,q _ (.bin "times" f2 f1) H12 ⟨pb,v2,v1,rfl,gb,hR2.mono T12,hR1'.mono T12⟩ ⟨hop,W2,W1⟩ ⟨hl2,hl1,fun _ k a b=>pr2 k a (pr1 k b)⟩ ?_ kall t12⟩
   show ((f2.size+f1.size+1:Nat):Int)<=_
   omega
 ·rw [show (!decide (V.str sn=V.str "times"))=true by rw [decide_eq_false fun z=>hne (V.str.inj z)];rfl]
  refine aY ?_
  refine ⟨_,rfl,_,rfl,_,rfl,_,rfl,ρ,hno,tp,rl,sg,rs,1+d2,ss,rfl,t3,n1,n2,k3 _ _ hrl n1,hrs,hlv.mono tp3,k3 _ _ hsg n2,hs1,hs2,hso,by omega,by omega,by omega,fun v1 f1 H4 hR1 hw1 hl1 hz1 k4 t4=>?_⟩
  have k04:=k3.trans k4
  refine ⟨_,rfl,_,rfl,_,rfl,_,rfl,_,rfl,_,rfl,room,1+d2,rfl,rfl,_,rfl,ρ,hno,tp,rl,sg,rs,room- (1+d2),ss,rfl,t4,n1,n2,k04 _ _ hrl n1,hrs,hlv.mono (k04.tk ht),k04 _ _ hsg n2,hs1,hs2,hso,by omega,by omega,by omega,fun v2 f2 H5 hR2 hw2 hl2 hz2 k5 t5=>⟨(by show 3<=sizeLine;decide),fun p hp=>?_⟩⟩
  have s6:=ai hp (.tup [.str sn,v1,v2])
  have k56:Kp tp H5 (upd H5 p (.tup [.str sn,v1,v2])):=iW s6
  refine q _ (.bin sn f1 f2) _ ⟨p,v1,v2,rfl,ac,hR1.mono ((k5.trans k56).tk t4),hR2.mono (aC s6)⟩ ⟨hop,hw1,hw2⟩ ⟨hl1,hl2,fun z=>absurd z hne⟩ ?_ (k04.trans (k5.trans k56)) ?_
  ·show ((f1.size+f2.size+1:Nat):Int)<=_
   omega
  ·obtain ⟨u,hu⟩:=t5
   exact ⟨u,s6 _ _ hu⟩
theorem uf:FnOk P w K mg base CX0 3 f fd ["tape","readings","room","signs"] (gZ 0):=
 ⟨fun vs H Q E h=>by
  obtain ⟨ρ,_,tp,rl,sg,rs,room,ss,rfl,_⟩:=h
  rfl,fun A o s H args us vs Q E r e b v h=>by
  obtain ⟨ρ,hno,tp,rl,sg,rs,room,ss,_,_,_,_,_,_,_,_,_,_,_,h1,h2,_⟩:=h
  have h2:room<=0:=h2
  omega⟩
theorem rQ (F:Fun K "_law_level_formula" "_law_level_formula" cL f fd) (G:Gb mg)
  (GD:FnOk P w K mg base CX0 1 f2 fd2 ["tape","many"] bj) (bD:Binds K fd2 ["tape","many"] []) (kD:PySem.W.keepIn K (.ref f2)=true) (mD:mg "_law_digit"=some (.ref f2))
  (GL:FnOk P w K mg base CX0 3 f3 fd3 ["tape","readings"] oy) (bL:Binds K fd3 ["tape","readings"] []) (kL:PySem.W.keepIn K (.ref f3)=true) (mL:mg "_law_leaf"=some (.ref f3))
  (bS:Binds K fd ["tape","readings","room","signs"] []) (mS:mg "_law_level_formula"=some (.ref f)): ∀ n:Nat,FnOk P w K mg base CX0 (n+3) f fd ["tape","readings","room","signs"] (gZ n)
 | 0=>uf
 | n+1=>ue F G GD bD kD mD GL bL kL mL (rQ F G GD bD kD mD GL bL kL mL bS mS n) bS mS
theorem fG {k:Int}: ∀ {qs:List Srt} {g:Fm},g∈bE k qs-> ∃ (j:Nat) (q:Srt) (x:Str),g=.part (k+ (j:Int)) x/\qs[j]? =some q/\x∈q.ups
 | [],_,h=>by cases h
 | q::r,g,h=>by
  have h:g∈q.ups.map (fun x=>Fm.part k x)++bE (k+1) r:=h
  rcases List.mem_append.mp h with h | h
  ·obtain ⟨x,hx,rfl⟩:=List.mem_map.mp h
   exact ⟨0,q,x,by rw [show k+ ((0:Nat):Int)=k by omega],rfl,hx⟩
  ·obtain ⟨j,q',x,e,h1,h2⟩:=fG (k:=k+1) h
   exact ⟨j+1,q',x,by rw [e,show k+1+ (j:Int)=k+ ((j+1:Nat):Int) by omega],h1,h2⟩
noncomputable def jr:Sp:=fun vs H Q _=> ∃ (tp:Addr) (u:Int),vs=[.ref tp,.int u]/\Tp H tp/\1<=u/\u<=3/\ ∀ a ss xs H',H' a=some (.tup xs)->RepSs H' ss xs->gn ss->ss.length<=3->(∀ s∈ss,Srt.downs s=[]/\1<=s.ups.length)->Kp tp H H'->Tp H' tp->Q (.ref a) H'
noncomputable abbrev NLs:List Str:=["tape","ups","many","names","words","sorts","k","turned"]
theorem scLvSorts:ay NLs ["tape","ups"] (ag iG):=fsc
theorem nL (F:Fun K "_law_level_sorts" "_law_level_sorts" iG f fd) (G:Gb mg) (GD:FnOk P w K mg base CX0 1 g gd ["tape","many"] bj) (bD:Binds K gd ["tape","many"] []) (kD:PySem.W.keepIn K (.ref g)=true) (mD:mg "_law_digit"=some (.ref g))
  (GN:FnOk P w K mg base CX0 2 f2 fd2 ["tape","many"] iw) (bN:Binds K fd2 ["tape","many"] []) (kN:PySem.W.keepIn K (.ref f2)=true) (mN:mg "_law_names"=some (.ref f2)):
  FnOk P w K mg base CX0 3 f fd ["tape","ups"] jr:=by
 refine F.ok scLvSorts (fun vs H Q E h=>?_) (fun cdv A outer s H vs Q E hr h=>?_)
 ·obtain ⟨tp,c,rfl,_⟩:=h
  rfl
 obtain ⟨tp,u,rfl,hT,hu1,hu3,q⟩:=h
 have hr1:=hr.mono (show 1<=2 by decide)
 refine ⟨_,ad (aw (i:=2) scLvSorts.nd rfl (Or.inl rfl) (aJ bi ae (af GD hr1 rfl mD kD bD .nil al (aa (pv 0) (aa ae ab)))))
  (ad (aw (i:=3) scLvSorts.nd rfl (Or.inl rfl) (af GN hr rfl mN kN bN .nil al (aa (pv 0) (aa (pv 2) ab))))
  (ad (aw (i:=4) scLvSorts.nd rfl (Or.inl rfl) (af GN hr rfl mN kN bN .nil al (aa (pv 0) (aa ae ab))))
  (ad (aw (i:=5) scLvSorts.nd rfl (Or.inl rfl) (bd ab))
  (ad (cf PassesOwn.never rfl (cE rfl G.range (aa (pv 2) ab)) (aO (i:=6) scLvSorts.nd rfl (Or.inl rfl))
   (ad (aw (i:=7) scLvSorts.nd rfl (Or.inl rfl) (aJ iU (bh ic (pv 4) (bZ (pv 6)) ca) (bh ic (pv 4) ca (bZ (pv 6)))))
   (ah (cy (eA PySem.F.plainAttrs_list PySem.F.slot_list_append PySem.F.type_list_append cr (pv 5) (aa (aS (aa (av bn (pv 3) (pv 6) (fun _ _=>rfl))
    (aa (aS ab)
    (aa (bG bt rfl G.tuple (by decide +kernel) (aa (bh ic (pv 7) ca (bZ (aJ bi ae (af GD hr1 rfl mD kD bD .nil al (aa (pv 0) (aa (pv 1) ab)))))) ab)) ab)))) ab))))))
  (ah (au (bG bt rfl G.tuple (by decide +kernel) (aa (pv 5) ab)))))))),?_⟩
 refine ⟨_,rfl,tp,3,rfl,hT,by decide,by decide,fun dm t1 hdm0 hdm1=>?_⟩
 have k1:Kp tp H (upd H tp (.lst [.int t1])):=Kp.tape
 have tt1:Tp (upd H tp (.lst [.int t1])) tp:=⟨t1,ac⟩
 generalize upd H tp (.lst [.int t1])=H2 at k1 tt1 ⊢
 refine ⟨1,_,rfl,rfl,?_⟩
 refine ⟨_,rfl,_,rfl,tp,_,rfl,tt1,by omega,by omega,fun nl ns H3 hnl hnlen hN hnne k2' tt2=>?_⟩
 have k2:=k1.trans k2'
 refine ⟨_,rfl,tp,6,rfl,tt2,by decide,by decide,fun wl ws H4 hwl hwlen hW hwne k3' tt3=>?_⟩
 have k3:=k2.trans k3'
 have hnl4:=k3' _ _ hnl hnne
 refine ⟨(by show 0<=sizeLine;decide),fun sl hsl=>?_⟩
 have hslt:=fk tt3 hsl
 have k4:Kp tp H (upd H4 sl (.lst [])):=k3.new hsl
 have tt4:=tt3.new (o:=.lst []) hsl
 have s4:=ai hsl (.lst [])
 have nsl:nl≠sl:=aj hnl4 hsl
 have wsl:wl≠sl:=aj hwl hsl
 have hnl5:=s4 _ _ hnl4
 have hwl5:=s4 _ _ hwl
 have hsl5:(upd H4 sl (.lst [])) sl=some (.lst []):=ac
 generalize upd H4 sl (.lst [])=H5 at k4 tt4 hnl5 hwl5 hsl5 ⊢
 obtain ⟨nLen,nNd,nWd⟩:=hN.ok (by omega)
 obtain ⟨wLen,wNd,wWd⟩:=hW.ok (by decide)
 have wLen6:ws.length=6:=wLen
 refine ⟨_,rfl,1+dm,rfl,by omega,by omega,?_⟩
 refine dU (fun i σ H'=> ∃ o6 o7 zs ss,σ=[some (.ref tp),some (.int u),some (.int (1+dm)),some (.ref nl),some (.ref wl),some (.ref sl),o6,o7]/\Kp tp H H'/\Tp H' tp/\H' nl=some (.lst (ns.map V.str))/\H' wl=some (.lst (ws.map V.str))/\H' sl=some (.lst zs)/\RepSs H' ss zs/\ss.length=i/\(∀ s∈ss,s.ok/\s.downs=[]/\1<=s.ups.length)/\ss.map Srt.name=ns.take i)
  ⟨none,none,[],[],rfl,k4,tt4,hnl5,hwl5,hsl5,.nil,rfl,fun s h=>(by cases h),rfl⟩ ?_ ?_
 ·rintro i σ H6 hi ⟨o6,o7,zs,ss,rfl,k6,tt6,hnl6,hwl6,hsl6,hR,hssl,hok,hnm⟩
  have hi3:i<3:=by omega
  refine ⟨_,rfl,_,rfl,0+ (i:Int),rfl,wl,_,rfl,SqL.of hwl6,fun p1 hp1=>?_⟩
  rw [sY (ws.map V.str) (by omega) (by rw [List.length_map];omega)]
  have hct:dW (ws.map V.str) none (some (0+ (i:Int)))=(ws.map V.str).take (0+ (i:Int)).toNat:=mj (ws.map V.str) (by omega) (by rw [List.length_map];omega)
  have hn6:(0+ (i:Int)).toNat<=6:=by omega
  generalize hn:(0+ (i:Int)).toNat=n at hct hn6 ⊢
  have s1:=ai hp1 (.lst ((ws.map V.str).drop n))
  have g1:(upd H6 p1 (.lst ((ws.map V.str).drop n))) p1=some (.lst ((ws.map V.str).drop n)):=ac
  generalize upd H6 p1 (.lst ((ws.map V.str).drop n))=Ha at s1 g1 ⊢
  refine ⟨_,rfl,_,rfl,0+ (i:Int),rfl,wl,_,rfl,SqL.of (s1 _ _ hwl6),fun p2 hp2=>?_⟩
  rw [hct]
  have s2:=ai hp2 (.lst ((ws.map V.str).take n))
  have g2:(upd Ha p2 (.lst ((ws.map V.str).take n))) p2=some (.lst ((ws.map V.str).take n)):=ac
  generalize upd Ha p2 (.lst ((ws.map V.str).take n))=Hb at s2 g2 ⊢
  have lcat:((ws.map V.str).drop n).length+ ((ws.map V.str).take n).length<=12:=by rw [List.length_drop,List.length_take,List.length_map];omega
  refine ⟨p1,p2,_,_,rfl,rfl,s2 _ _ g1,g2,Nat.le_of_lt (aF (by omega)),fun p3 hp3=>?_⟩
  have e3:(ws.map V.str).drop n++(ws.map V.str).take n=(ws.drop n++ws.take n).map V.str:=by rw [List.map_append,List.map_drop,List.map_take]
  rw [e3]
  have lts:(ws.drop n++ws.take n).length=6:=by rw [List.length_append,List.length_drop,List.length_take];omega
  have hsok:=fun (v:Nat) (hv:v<=3) (hv1:1<=v) nm=>pp wNd wWd wLen6 n 0 v (by omega) hv (by omega) nm
  generalize ws.drop n++ws.take n=ts at lts hsok ⊢
  have s3:=ai hp3 (.lst (ts.map V.str))
  have g3:(upd Hb p3 (.lst (ts.map V.str))) p3=some (.lst (ts.map V.str)):=ac
  generalize upd Hb p3 (.lst (ts.map V.str))=Hc at s3 g3 ⊢
  have S9:Same H6 Hc:=s1.trans (s2.trans s3)
  have hslc:=S9 _ _ hsl6
  have hnlc:=S9 _ _ hnl6
  have hwlc:=S9 _ _ hwl6
  have kc:Kp tp H6 Hc:=iW S9
  have ttc:Tp Hc tp:=tt6.same S9
  have n3:=fk (tt6.same (s1.trans s2)) hp3
  refine ⟨_,rfl,.inl ⟨rfl,_,SqL.of hslc⟩,?_⟩
  obtain ⟨nm,enm⟩: ∃ nm,ns[i]? =some nm:=⟨ns[i]'(by omega),List.getElem?_eq_getElem (by omega)⟩
  have eat:atI (ns.map V.str) (0+ (i:Int))=some (V.str nm):=by
   rw [Int.zero_add]
   exact aB (by rw [List.getElem?_map,enm];rfl)
  refine ⟨_,rfl,_,rfl,nl,_,_,_,rfl,rfl,SqL.of hnlc,eat,?_⟩
  refine ⟨(by show 0<=sizeLine;decide),fun p5 hp5=>?_⟩
  have s5:=ai hp5 (.tup [])
  have g5:(upd Hc p5 (.tup [])) p5=some (.tup []):=ac
  generalize upd Hc p5 (.tup [])=Hd at s5 g5 ⊢
  have ttd:=ttc.same s5
  refine ⟨_,rfl,_,rfl,_,rfl,tp,u,rfl,ttd,by omega,by omega,fun du t5 hdu0 hdu1=>?_⟩
  have kd:Kp tp Hd (upd Hd tp (.lst [.int t5])):=gN _ _ _
  have tte:Tp (upd Hd tp (.lst [.int t5])) tp:=⟨t5,ac⟩
  generalize upd Hd tp (.lst [.int t5])=He at kd tte ⊢
  have g5e:=kd.tk ttd _ _ g5
  have g3e:=kd _ _ (s5 _ _ g3) n3
  refine ⟨1,du,rfl,rfl,1+du,rfl,p3,_,rfl,SqL.of g3e,fun p6 hp6=>?_⟩
  rw [mj (ts.map V.str) (by omega) (by rw [List.length_map];omega),<- List.map_take]
  have hv1:1<=(1+du).toNat:=by omega
  have hv3:(1+du).toNat<=3:=by omega
  generalize (1+du).toNat=v at hv1 hv3 ⊢
  have s6:=ai hp6 (.lst ((ts.take v).map V.str))
  have g6:(upd He p6 (.lst ((ts.take v).map V.str))) p6=some (.lst ((ts.take v).map V.str)):=ac
  generalize upd He p6 (.lst ((ts.take v).map V.str))=Hf at s6 g6 ⊢
  refine ⟨p6,_,rfl,.inl ⟨SqL.of g6,fun p7 hp7=>?_⟩⟩
  have s7:=ai hp7 (.tup ((ts.take v).map V.str))
  have g7:(upd Hf p7 (.tup ((ts.take v).map V.str))) p7=some (.tup ((ts.take v).map V.str)):=ac
  generalize upd Hf p7 (.tup ((ts.take v).map V.str))=Hg at s7 g7 ⊢
  refine ⟨(by show 3<=sizeLine;decide),fun p8 hp8=>?_⟩
  have s8:=ai hp8 (.tup [.str nm,.ref p5,.ref p7])
  have g8:(upd Hg p8 (.tup [.str nm,.ref p5,.ref p7])) p8=some (.tup [.str nm,.ref p5,.ref p7]):=ac
  generalize upd Hg p8 (.tup [.str nm,.ref p5,.ref p7])=Hh at s8 g8 ⊢
  have Sh8:Same He Hh:=s6.trans (s7.trans s8)
  have kh:Kp tp H6 Hh:=kc.trans ((iW (tp:=tp) s5).trans (kd.trans (iW Sh8)))
  have hslh:=kh _ _ hsl6 (Ne.symm (Ne.symm hslt))
  have hzl:zs.length=i:=by rw [<- hR.len];exact hssl
  refine ⟨sl,zs,.ref p8,rfl,rfl,hslh,aF (by omega),?_⟩
  have tk:TK Hh (upd Hh sl (.lst (zs++[.ref p8]))):=TK.lst hslh
  have eok:(⟨nm,[],ts.take v⟩:Srt).ok:=by
   have:=hsok v hv3 hv1 nm
   rw [List.take_zero,List.drop_zero]at this
   exact this
  refine ⟨_,_,zs++[.ref p8],ss++[⟨nm,[],ts.take v⟩],rfl,?_,?_,?_,?_,ac,?_,?_,?_,?_⟩
  ·intro b o hb hbn
   rw [am (aj (k3 _ _ hb hbn) hsl)]
   exact kh _ _ (k6 _ _ hb hbn) hbn
  ·obtain ⟨t9,e9⟩:=tte.same Sh8
   exact ⟨t9,by rw [am (Ne.symm hslt)];exact e9⟩
  ·rw [am nsl];exact kh _ _ hnl6 hnne
  ·rw [am wsl];exact kh _ _ hwl6 hwne
  ·exact Paired.snoc (hR.mono ((kh.tk tt6).trans tk)) ⟨p8,p5,p7,rfl,tk _ _ g8,tk _ _ (Sh8 _ _ g5e),tk _ _ (s8 _ _ g7)⟩
  ·rw [List.length_append,hssl];rfl
  ·intro s hs
   rw [List.mem_append,List.mem_singleton]at hs
   rcases hs with h | h
   ·exact hok s h
   ·subst h
    refine ⟨eok,rfl,?_⟩
    show 1<=(ts.take v).length
    rw [List.length_take]
    omega
  ·rw [List.map_append,hnm,List.map_singleton,List.take_add_one,enm]
   rfl
 ·rintro σ H6 ⟨o6,o7,zs,ss,rfl,k6,tt6,hnl6,hwl6,hsl6,hR,hssl,hok,hnm⟩
  refine ⟨_,rfl,sl,zs,rfl,.inl ⟨SqL.of hsl6,fun pt hpt=>?_⟩⟩
  refine q pt ss zs _ ac (hR.mono (TK.new hpt)) ⟨by omega,by omega,?_,?_,fun s hs=>(hok s hs).1⟩ (by omega) (fun s hs=>(hok s hs).2) (k6.new hpt) (tt6.new hpt)
  ·rw [hnm]
   exact nNd.sublist (List.take_sublist _ _)
  ·intro s hs
   have:s.name∈ss.map Srt.name:=List.mem_map.mpr ⟨s,hs,rfl⟩
   rw [hnm]at this
   have hm:=List.mem_of_mem_take this
   exact ⟨nWd _ hm,(hN.lone (by omega) _ hm).1⟩
noncomputable def uM (ss:List Srt) (fr:Frm):Prop:=fr.own∈ss/\(∀ q∈fr.parts,q∈ss)/\fr.parts.length<=3/\fr.rules.map (fun r=>(r.pl,r.word))=dy fr.own fr.parts/\ ∀ r∈fr.rules,r.fm.wfp (cx fr)/\r.fm.lvl/\r.fm.size<=15
theorem im {k:Int}: ∀ {qs:List Srt},(∀ q∈qs,q.downs=[])->bV k qs=[]
 | [],_=>rfl
 | q::r,h=>by
  show q.downs.map (fun x=>(k,x))++bV (k+1) r=[]
  rw [h q List.mem_cons_self,im fun x hx=>h x (List.mem_cons_of_mem _ hx)]
  rfl
theorem vV {H:Hp} {ss qs:List Srt} {zs:List V} (hok: ∀ s∈ss,s.ok) (hq: ∀ q∈qs,q∈ss) (hl:qs.length<=3) (h:Tups H ((bE 0 qs).map fmV) zs):LvP (fun g=>g∈bE 0 qs) H zs:=fun v hv=>by
 obtain ⟨ys,hy,hz⟩:=iQ h hv
 obtain ⟨f,hf,rfl⟩:=List.mem_map.mp hy
 have hf':=hf
 obtain ⟨k,x,rfl,h1,h2,q,h3,h4⟩:=nw hf
 have lf:nV (.part k x):=⟨⟨h1,by omega⟩,(hok q (hq q h3)).2.1 _ (List.mem_append_right _ h4)⟩
 exact ⟨k,x,(sD lf hz).1,sC lf hf'⟩
theorem tL {fr:Frm} {g:Fm} (h:g∈bE 0 fr.parts):cx fr g:=by
 obtain ⟨j,q,x,rfl,h1,h2⟩:=fG h
 exact ⟨j,q,by omega,h1,List.mem_append_right _ h2⟩
theorem uY {qs:List Srt} (x:Str): ¬ Fm.own x∈bE 0 qs:=fun h=>by
 obtain ⟨j,q,y,e,_⟩:=fG h
 cases e
noncomputable def lvFor:List Stmt:=ux ((cs cq).getD 6 (.Pass ⟨0,0,0,0⟩))
noncomputable def ji (H:Hp) (sc sg hd sa nl fl:Addr) (st u gr mo:Int) (ss:List Srt) (ws:List Str) (i:Nat) (σ:St) (H':Hp):Prop:= ∃ o10 o11 o12 o13 o14 o15 o16 o17 o18 fv frs,
 σ=[some (.ref sc),some (.int st),some (.int u),some (.ref sg),some (.ref hd),some (.int gr),some (.int mo),some (.ref sa),some (.ref nl),some (.ref fl),o10,o11,o12,o13,o14,o15,o16,o17,o18]/\
 Same H H'/\SrtsAt H' sa ss/\H' nl=some (.lst (ws.map V.str))/\H' fl=some (.lst fv)/\RepFs H' frs fv/\frs.length=i/\frs.map Frm.name=ws.take i/\ ∀ fr∈frs,uM ss fr
noncomputable abbrev jm:List Str:=["script","start","ups","signs","head","grown","more","sorts","names","forms","k","tape","own","many","j","parts","readings","word","rules"]
theorem scLvB:ay jm ["script","start","ups","signs"] (ag cq):=fsc
theorem sk {cdv:Value} {A:Around} {outer:List Env} {s:Shared} {H H0:Hp} {E:XK} (G:Gb mg)
  (GD:FnOk P w K mg base CX0 1 g gd ["tape","many"] bj) (bD:Binds K gd ["tape","many"] []) (kD:PySem.W.keepIn K (.ref g)=true) (mD:mg "_law_digit"=some (.ref g))
  (GL:FnOk P w K mg base CX0 11 f2 fd2 ["tape","readings","room","signs"] (gZ 8)) (bL:Binds K fd2 ["tape","readings","room","signs"] []) (kL:PySem.W.keepIn K (.ref f2)=true) (mL:mg "_law_level_formula"=some (.ref f2))
  (hr:Room 11 (dv CX0 P w K mg base jm "_law_level_book" (ag cq) f cdv A outer s H0 E).nox.A):
  ∃ t,PSs (dv CX0 P w K mg base jm "_law_level_book" (ag cq) f cdv A outer s H0 E).nox (lvFor.drop 8) t/\
   ∀ (sc sg hd sa nl fl:Addr) (st u gr mo:Int) (ss:List Srt) (ws sgs:List Str),gn ss->(∀ s∈ss,s.downs=[])->ws.length=10->H fl=none->nl≠fl->H sg=some (.lst (sgs.map V.str))->1<=sgs.length->sgs.length<=1000->(∀ x∈sgs,x∈ops)->
   ∀ (D:ev) (i:Nat) (σ:St) (H2 H5:Hp) (tp oa pa rl:Addr) (o:Srt) (qs:List Srt) (ps rv:List V) (m:Int) (o14 o17 o18:Option V),ji H sc sg hd sa nl fl st u gr mo ss ws i σ H2->i<10->H2 tp=none->Same H2 H5->Tp H5 tp->o∈ss->RepS H5 o (.ref oa)->(∀ q∈qs,q∈ss)->qs.length<=3->H5 pa=some (.lst ps)->RepSs H5 qs ps->H5 rl=some (.lst rv)->Tups H5 ((bE 0 qs).map fmV) rv->pa≠tp->rl≠tp->
    (∀ σ' H',ji H sc sg hd sa nl fl st u gr mo ss ws (i+1) σ' H'->D.nx σ' H')->
    t D [some (.ref sc),some (.int st),some (.int u),some (.ref sg),some (.ref hd),some (.int gr),some (.int mo),some (.ref sa),some (.ref nl),some (.ref fl),some (.int (0+ (i:Int))),some (.ref tp),some (.ref oa),some (.int m),o14,some (.ref pa),some (.ref rl),o17,o18] H5:=by
 have hr1:=hr.mono (show 1<=11 by decide)
 refine ⟨_,ad (aw (i:=18) scLvB.nd rfl (Or.inl rfl) (bd ab))
  (ad (cf PassesOwn.never rfl (a8 (av aq (pv 12) ae (fun _ _=>rfl))) (aO (i:=17) scLvB.nd rfl (Or.inl rfl))
   (ah (cy (eA PySem.F.plainAttrs_list PySem.F.slot_list_append PySem.F.type_list_append cr (pv 18) (aa
    (aS (aa (iL fA ae) (aa (pv 17) (aa (af GL hr rfl mL kL bL .nil al (aa (pv 11) (aa (pv 16) (aa (aJ bi ae (af GD hr1 rfl mD kD bD .nil al (aa (pv 11) (aa ae ab)))) (aa (pv 3) ab))))) ab)))) ab)))))
  (ah (cy (eA PySem.F.plainAttrs_list PySem.F.slot_list_append PySem.F.type_list_append cr (pv 9) (aa
   (aS (aa (av bn (pv 8) (pv 10) (fun _ _=>rfl)) (aa (av aq (pv 12) ae (fun _ _=>rfl))
    (aa (bG bt rfl G.tuple (by decide +kernel) (aa
     (a9 (sc0:=ag cq) (N0:=jm) (ys:=[]) (fr:=[]) rfl (cS (pv 15)) rfl rfl
      cok
      (fun C s H ex=>av (r:=gJ K) aq (pv 0) ae (fun _ _=>rfl))) ab))
    (aa (bG bt rfl G.tuple (by decide +kernel) (aa (pv 18) ab)) ab))))) ab))))),?_⟩
 rintro sc sg hd sa nl fl st u gr mo ss ws sgs hok hdn hws hfl0 hnf hsg hsg1 hsg2 hops D i σ H2 H5 tp oa pa rl o qs ps rv m o14 o17 o18 ⟨o10,o11,o12,o13,o14',o15,o16,o17',o18',fv,frs,rfl,sm,hsa,gnl,gfl,hF,hfl,hnm,hfok⟩ hi htp s5 tt5 ho ⟨_,ob,oc,e,hoa,hob,hoc⟩ hqs hql gpa hPs grl hTr npt nrt hD
 cases e
 have lup:o.ups.length<=3:=(hok.2.2.2.2 o ho).2.2.2.1
 have lrv:rv.length<=9:=by
  have h1:=iJ 0 qs fun s hs=>hok.2.2.2.2 s (hqs s hs)
  have h2:=hTr.len
  rw [List.length_map]at h2
  omega
 have S25:Same H H5:=sm.trans s5
 have nst:sg≠tp:=aj (sm _ _ hsg) htp
 refine ⟨(by show 0<=sizeLine;decide),fun ra hra=>?_⟩
 have nra:=fk tt5 hra
 have s6:=ai hra (.lst [])
 have g6:(upd H5 ra (.lst [])) ra=some (.lst []):=ac
 have tt6:=tt5.same s6
 generalize upd H5 ra (.lst [])=H6 at s6 g6 tt6 ⊢
 refine ⟨_,rfl,oa,_,2,.ref oc,rfl,rfl,SqT.of (s6 _ _ hoa),aB (j:=2) rfl,oc,rfl,⟨_,SqT.of (s6 _ _ hoc)⟩,?_⟩
 refine c8 (xs:=o.ups.map V.str) (fun n σ H'=>n<=o.ups.length/\ ∃ o17 rvs rules,σ=[some (.ref sc),some (.int st),some (.int u),some (.ref sg),some (.ref hd),some (.int gr),some (.int mo),some (.ref sa),some (.ref nl),some (.ref fl),some (.int (0+ (i:Int))),some (.ref tp),some (.ref oa),some (.int m),o14,some (.ref pa),some (.ref rl),o17,some (.ref ra)]/\Kp tp H5 H'/\Tp H' tp/\H' ra=some (.lst rvs)/\RepRs H' rules rvs/\rules.map (fun r=>(r.pl,r.word))=(o.ups.take n).map (fun x=>((-1:Int),x))/\ ∀ r∈rules,r.fm.wfp (fun g=>g∈bE 0 qs)/\r.fm.lvl/\r.fm.size<=15)
  ⟨Nat.zero_le _,o17,[],[],rfl,Kp.refl.same s6,tt6,g6,.nil,rfl,fun r h=>(by cases h)⟩ (fun n σ H' _ h=>by obtain ⟨_,_,_,_,_,k,_⟩:=h;exact SqT.of (k.tk tt5 _ _ hoc)) ?_ ?_
 ·rintro n x σ H7 hx ⟨hn,o17,rvs,rules,rfl,k7,tt7,gra,hRr,hmap,hfm⟩
  have hlt:n<o.ups.length:=by
   have:=(List.getElem?_eq_some_iff.mp hx).1
   rw [List.length_map]at this
   exact this
  obtain ⟨wd,hwd,rfl⟩: ∃ wd,o.ups[n]? =some wd/\V.str wd=x:=by
   rw [List.getElem?_map]at hx
   cases he:o.ups[n]? with
   | none=>rw [he]at hx;cases hx
   | some t=>rw [he]at hx;exact ⟨t,rfl,Option.some.inj hx⟩
  have lrules:rules.length=n:=by
   have:=congrArg List.length hmap
   rw [List.length_map,List.length_map,List.length_take]at this
   omega
  have lrvs:rvs.length=n:=by rw [<- hRr.len];exact lrules
  refine ⟨_,rfl,.inl ⟨rfl,_,SqL.of gra⟩,1,rfl,_,rfl,_,rfl,_,rfl,_,rfl,tp,8,rfl,tt7,by decide,by decide,fun d t hd0 hd1=>⟨1,d,rfl,rfl,_,rfl,?_⟩⟩
  have k8:Kp tp H7 (upd H7 tp (.lst [.int t])):=Kp.tape
  have tt8:Tp (upd H7 tp (.lst [.int t])) tp:=⟨t,ac⟩
  generalize upd H7 tp (.lst [.int t])=H8 at k8 tt8 ⊢
  have k58:=k7.trans k8
  refine ⟨fun g=>g∈bE 0 qs,uY,tp,rl,sg,rv,1+d,sgs,rfl,tt8,nrt,nst,k58 _ _ grl nrt,by omega,vV hok.2.2.2.2 hqs hql (hTr.mono (k58.tk tt5)),k58 _ _ (S25 _ _ hsg) nst,hsg1,hsg2,hops,by omega,by omega,by omega,fun v fm H9 rp wf lv sz k9 tt9=>?_⟩
  have k79:Kp tp H7 H9:=k8.trans k9
  have gra9:=k79 _ _ gra nra
  refine ⟨(by show 3<=sizeLine;decide),fun p5 hp5=>?_⟩
  have s10:=ai hp5 (.tup [.int (-1),.str wd,v])
  have g10:(upd H9 p5 (.tup [.int (-1),.str wd,v])) p5=some (.tup [.int (-1),.str wd,v]):=ac
  have tt10:=tt9.same s10
  have gra10:=s10 _ _ gra9
  have e10:upd H9 p5 (.tup [.int (-1),.str wd,v])=upd H9 p5 (.tup [.int (-1),.str wd,v]):=rfl
  generalize upd H9 p5 (.tup [.int (-1),.str wd,v])=H10 at s10 g10 tt10 gra10 e10 ⊢
  have k710:Kp tp H7 H10:=k79.same s10
  refine ⟨ra,rvs,.ref p5,rfl,rfl,gra10,aF (by omega),?_⟩
  have tk:TK H10 (upd H10 ra (.lst (rvs++[.ref p5]))):=TK.lst gra10
  have tk7:TK H7 (upd H10 ra (.lst (rvs++[.ref p5]))):=(k710.tk tt7).trans tk
  refine ⟨hlt,_,rvs++[.ref p5],rules++[⟨-1,wd,fm⟩],rfl,?_,?_,ac,?_,?_,?_⟩
  ·intro b oo hb hbn
   rw [am (aj hb hra)]
   exact k710 _ _ (k7 _ _ hb hbn) hbn
  ·obtain ⟨t9,e9⟩:=tt10
   exact ⟨t9,by rw [am (Ne.symm nra)];exact e9⟩
  ·exact Paired.snoc (hRr.mono tk7) ⟨p5,v,rfl,tk _ _ g10,rp.mono ((aC s10).trans tk)⟩
  ·rw [List.map_append,hmap,List.take_add_one,hwd,List.map_append]
   rfl
  ·intro r hrr
   rw [List.mem_append,List.mem_singleton]at hrr
   rcases hrr with h | h
   ·exact hfm r h
   ·subst h
    exact ⟨wf,lv,by show fm.size<=15;omega⟩
 ·rintro σ H7 ⟨_,o17,rvs,rules,rfl,k7,tt7,gra,hRr,hmap,hfm⟩
  rw [List.length_map,List.take_length]at hmap
  have tk7:=k7.tk tt5
  have S27:Same H2 H7:=fun b oo h=>k7 b oo (s5 b oo h) (aj h htp)
  have gfl7:=S27 _ _ gfl
  obtain ⟨nm,enm⟩: ∃ nm,ws[i]? =some nm:=⟨ws[i]'(by omega),List.getElem?_eq_getElem (by omega)⟩
  have eat:atI (ws.map V.str) (0+ (i:Int))=some (V.str nm):=by
   rw [Int.zero_add]
   exact aB (by rw [List.getElem?_map,enm];rfl)
  refine ⟨_,rfl,.inl ⟨rfl,_,SqL.of gfl7⟩,?_⟩
  refine ⟨_,rfl,_,rfl,nl,_,_,_,rfl,rfl,SqL.of (S27 _ _ gnl),eat,_,rfl,oa,_,0,_,rfl,rfl,SqT.of (tk7 _ _ hoa),aT,_,rfl,pa,rfl,⟨_,SqL.of (k7 _ _ gpa npt)⟩,?_⟩
  have gpa7:=k7 _ _ gpa npt
  have lps:ps.length<=3:=by have:=hPs.len;omega
  have hPs7:RepSs H7 qs ps:=hPs.mono tk7
  refine bQ (as:=qs) (A:=RepS H7) (by omega) hPs7 (dG gpa7) (dE gpa7) (eW gpa7) (fun _ q v=>v=.str q.name) (fun _ h=>h) (fun q v H' k _ hq s' hk=>?_) fun pl zs H8 hpl s8 gpl hz=>?_
  ·obtain ⟨a,b,c,rfl,ha,_⟩:=hq
   exact ⟨_,rfl,a,_,0,_,rfl,rfl,SqT.of (s' _ _ ha),aT,hk _ _ (Same.refl _) rfl⟩
  have ez:zs=bJ qs:=bf (g:=fun q:Srt=>V.str q.name) hz
  subst ez
  refine ⟨pl,_,rfl,.inl ⟨SqL.of gpl,fun pt hpt=>?_⟩⟩
  have s9:=ai hpt (.tup (bJ qs))
  have g9:(upd H8 pt (.tup (bJ qs))) pt=some (.tup (bJ qs)):=ac
  generalize upd H8 pt (.tup (bJ qs))=H9 at s9 g9 ⊢
  have gra9:=s9 _ _ (s8 _ _ gra)
  refine ⟨_,rfl,ra,_,rfl,.inl ⟨SqL.of gra9,fun rt hrt=>?_⟩⟩
  have s10:=ai hrt (.tup rvs)
  have g10:(upd H9 rt (.tup rvs)) rt=some (.tup rvs):=ac
  generalize upd H9 rt (.tup rvs)=H10 at s10 g10 ⊢
  refine ⟨(by show 4<=sizeLine;decide),fun p11 hp11=>?_⟩
  have s11:=ai hp11 (.tup [.str nm,.str o.name,.ref pt,.ref rt])
  have g11:(upd H10 p11 (.tup [.str nm,.str o.name,.ref pt,.ref rt])) p11=some (.tup [.str nm,.str o.name,.ref pt,.ref rt]):=ac
  generalize upd H10 p11 (.tup [.str nm,.str o.name,.ref pt,.ref rt])=H11 at s11 g11 ⊢
  have S711:Same H7 H11:=s8.trans (s9.trans (s10.trans s11))
  have S211:Same H2 H11:=S27.trans S711
  have gfl11:=S211 _ _ gfl
  have lfv:=hF.len
  refine ⟨fl,fv,.ref p11,rfl,rfl,gfl11,aF (by omega),?_⟩
  have tk:TK H11 (upd H11 fl (.lst (fv++[.ref p11]))):=TK.lst gfl11
  have tk2:TK H2 (upd H11 fl (.lst (fv++[.ref p11]))):=(aC S211).trans tk
  refine hD _ _ ⟨_,_,_,_,_,_,_,_,_,fv++[.ref p11],frs++[⟨nm,o,qs,rules⟩],rfl,?_,hsa.mono tk2,?_,ac,?_,?_,?_,?_⟩
  ·intro b oo h
   rw [am (aj h hfl0)]
   exact S211 _ _ (sm _ _ h)
  ·rw [am hnf]
   exact S211 _ _ gnl
  ·exact Paired.snoc (hF.mono tk2) ⟨p11,pt,rt,rvs,rfl,tk _ _ g11,tk _ _ (s11 _ _ (s10 _ _ g9)),tk _ _ (s11 _ _ g10),hRr.mono ((aC S711).trans tk)⟩
  ·rw [List.length_append,hfl];rfl
  ·rw [List.map_append,hnm,List.take_add_one,enm];rfl
  ·intro fr hfr
   rw [List.mem_append,List.mem_singleton]at hfr
   rcases hfr with h | h
   ·exact hfok fr h
   ·subst h
    refine ⟨ho,hqs,hql,?_,fun r hrr=>⟨cZ (fun g hg=>tL (fr:=⟨nm,o,qs,rules⟩) hg) (hfm r hrr).1,(hfm r hrr).2⟩⟩
    show rules.map (fun r=>(r.pl,r.word))=dy o qs
    unfold dy
    rw [hmap,im fun q hq=>hdn q (hqs q hq),List.append_nil]
theorem su {cdv:Value} {A:Around} {outer:List Env} {s:Shared} {H H0:Hp} {E:XK} (G:Gb mg)
  (GD:FnOk P w K mg base CX0 1 g gd ["tape","many"] bj) (bD:Binds K gd ["tape","many"] []) (kD:PySem.W.keepIn K (.ref g)=true) (mD:mg "_law_digit"=some (.ref g))
  (GL:FnOk P w K mg base CX0 11 f2 fd2 ["tape","readings","room","signs"] (gZ 8)) (bL:Binds K fd2 ["tape","readings","room","signs"] []) (kL:PySem.W.keepIn K (.ref f2)=true) (mL:mg "_law_level_formula"=some (.ref f2))
  (hr:Room 11 (dv CX0 P w K mg base jm "_law_level_book" (ag cq) f cdv A outer s H0 E).nox.A):
  ∃ t,PSs (dv CX0 P w K mg base jm "_law_level_book" (ag cq) f cdv A outer s H0 E).nox (lvFor.drop 5) t/\
   ∀ (sc sg hd sa nl fl:Addr) (st u gr mo:Int) (ss:List Srt) (ws sgs:List Str),gn ss->(∀ s∈ss,s.downs=[])->ws.length=10->H fl=none->nl≠fl->H sg=some (.lst (sgs.map V.str))->1<=sgs.length->sgs.length<=1000->(∀ x∈sgs,x∈ops)->
   ∀ (D:ev) (i:Nat) (σ:St) (H2 H5:Hp) (tp oa:Addr) (o:Srt) (m:Int) (o14 o15 o16 o17 o18:Option V),ji H sc sg hd sa nl fl st u gr mo ss ws i σ H2->i<10->H2 tp=none->Same H2 H5->Tp H5 tp->o∈ss->RepS H5 o (.ref oa)->0<=m->m<=3->
    (∀ σ' H',ji H sc sg hd sa nl fl st u gr mo ss ws (i+1) σ' H'->D.nx σ' H')->
    t D [some (.ref sc),some (.int st),some (.int u),some (.ref sg),some (.ref hd),some (.int gr),some (.int mo),some (.ref sa),some (.ref nl),some (.ref fl),some (.int (0+ (i:Int))),some (.ref tp),some (.ref oa),some (.int m),o14,o15,o16,o17,o18] H5:=by
 have hr1:=hr.mono (show 1<=11 by decide)
 obtain ⟨t3,ht3,hread3⟩:=sk (cdv:=cdv) (A:=A) (outer:=outer) (s:=s) (H:=H) (H0:=H0) (E:=E) (f:=f) G GD bD kD mD GL bL kL mL hr
 refine ⟨_,ad (fW (i:=15) (sc0:=ag cq) (N0:=jm) (ys:=["sorts","tape"]) (fr:=[7,11]) rfl scLvB.nd rfl (Or.inl rfl) (cE rfl G.range (aa (pv 13) ab)) rfl rfl
    cok
    (fun C s H ex=>av (r:=gJ K) aq (pv 1) (af GD hr1 rfl mD kD bD .nil al (aa (pv 2) (aa (ao (r:=w6 K) aA rfl G.len PySem.boot_len (aa (pv 1) ab)) ab))) (fun _ _=>rfl)))
  (ad (aw (i:=16) scLvB.nd rfl (Or.inl rfl) (bd ab))
  (ad (cf PassesOwn.never rfl (cE rfl G.range (aa (pv 13) ab)) (aO (i:=14) scLvB.nd rfl (Or.inr rfl))
   (ah (cy (eA PySem.F.plainAttrs_list PySem.F.slot_list_extend PySem.F.type_list_extend gM (pv 16) (aa
    (a9 (sc0:=ag cq) (N0:=jm) (ys:=["j"]) (fr:=[14]) rfl
     (a8 (av aq (av bn (pv 15) (pv 14) (fun _ _=>rfl)) ae (fun _ _=>rfl))) rfl rfl
     cok
     (fun C s H ex=>aS (aa aG (aa (pv 1) (aa (pv 0) ab))))) ab))))) ht3)),?_⟩
 intro sc sg hd sa nl fl st u gr mo ss ws sgs hok hdn hws hfl0 hnf hsg hsg1 hsg2 hops D i σ H2 H5 tp oa o m o14 o15 o16 o17 o18 hB hi htp s5 tt5 ho hoR hm0 hm3 hD
 obtain ⟨xs,gsa,hR⟩:SrtsAt H5 sa ss:=by
  obtain ⟨_,_,_,_,_,_,_,_,_,_,_,_,_,h,_⟩:=hB
  exact h.mono (aC s5)
 have lxs:=hR.len
 refine ⟨_,rfl,m,rfl,by omega,by omega,?_⟩
 refine dX (n:=m.toNat) (R:=fun i v=>v=.int (0+i)) (by omega) nY iX kx
  (fun p n zs H'=>Kp tp H5 H'/\Tp H' tp/\H' p=some (.lst zs)/\p≠tp/\zs.length=n/\ ∃ qs,RepSs H5 qs zs/\ ∀ q∈qs,q∈ss) ?_ ?_ ?_ ?_
 ·intro p hp
  exact ⟨Kp.refl.new hp,tt5.new hp,ac,fk tt5 hp,rfl,[],.nil,fun q h=>by cases h⟩
 ·rintro p n zs H' ⟨_,_,gp,_,hl,_⟩
  exact ⟨gp,hl⟩
 ·rintro p n zs H' v k hp hn rfl ⟨k6,tt6,gp,hpn,hl,qs,hQ,hqs⟩ hk
  have tk6:=k6.tk tt5
  have h1:=hok.1
  refine ⟨_,rfl,_,rfl,_,rfl,sa,_,rfl,.inr (SqT.of (tk6 _ _ gsa)),tp,_,rfl,tt6,by omega,by have:=hok.2.1;omega,fun d t hd0 hd1=>?_⟩
  obtain ⟨x,ex,ex2⟩:=cW hd0 hd1
  obtain ⟨q,hq,hqx⟩:=aL hR ex2
  have k7:Kp tp H5 (upd H' tp (.lst [.int t])):=k6.trans Kp.tape
  have tk7:=k7.tk tt5
  refine ⟨sa,xs,d,x,rfl,rfl,SqT.of (tk7 _ _ gsa),ex,?_⟩
  have gp7:(upd H' tp (.lst [.int t])) p=some (.lst zs):=by rw [am hpn];exact gp
  refine hk _ _ gp7 ⟨?_,⟨t,?_⟩,ac,hpn,by rw [List.length_append,hl];rfl,qs++[q],Paired.snoc hQ hqx,?_⟩
  ·intro b' o' hb hbn
   rw [am (aj hb hp)]
   exact k7 _ _ hb hbn
  ·rw [am (Ne.symm hpn),ac]
  ·intro y hy
   rw [List.mem_append,List.mem_singleton]at hy
   rcases hy with h | rfl
   ·exact hqs y h
   ·exact List.mem_of_getElem? hq
 ·rintro pa zs H6 hpa ⟨k6,tt6,gpa,npt,hl,qs,hQ5,hqs⟩
  have hQ:=hQ5.mono (k6.tk tt5)
  have lq:=hQ.len
  have hql:qs.length<=3:=by omega
  refine ⟨(by show 0<=sizeLine;decide),fun rl hrl=>?_⟩
  have nrt:=fk tt6 hrl
  have nrp:pa≠rl:=aj gpa hrl
  have s7:=ai hrl (.lst [])
  have g7:(upd H6 rl (.lst [])) rl=some (.lst []):=ac
  have tt7:=tt6.same s7
  generalize upd H6 rl (.lst [])=H7 at s7 g7 tt7 ⊢
  refine ⟨_,rfl,m,rfl,by omega,by omega,?_⟩
  refine dU (fun n σ H'=> ∃ o14 rv,σ=[some (.ref sc),some (.int st),some (.int u),some (.ref sg),some (.ref hd),some (.int gr),some (.int mo),some (.ref sa),some (.ref nl),some (.ref fl),some (.int (0+ (i:Int))),some (.ref tp),some (.ref oa),some (.int m),o14,some (.ref pa),some (.ref rl),o17,o18]/\Same H6 H'/\H' rl=some (.lst rv)/\Tups H' ((bE 0 (qs.take n)).map fmV) rv)
   ⟨o14,[],rfl,s7,g7,.nil⟩ ?_ ?_
  ·rintro n σ H8 hn ⟨o14,rv,rfl,S8,grl,hT⟩
   have hn':n<qs.length:=by omega
   obtain ⟨sq,hsq⟩: ∃ sq,qs[n]? =some sq:=⟨qs[n],List.getElem?_eq_getElem hn'⟩
   obtain ⟨x,hx⟩: ∃ x,zs[n]? =some x:=⟨zs[n]'(by omega),List.getElem?_eq_getElem (by omega)⟩
   obtain ⟨sq',hsq',a,b,c,rfl,ha,hb,hc⟩:=aL hQ hx
   have eqq:sq'=sq:=Option.some.inj (hsq'.symm.trans hsq)
   subst eqq
   have eat:atI zs (0+ (n:Int))=some (.ref a):=by
    rw [Int.zero_add]
    exact aB hx
   have ld:sq'.ups.length<=3:=(hok.2.2.2.2 sq' (hqs sq' (List.mem_of_getElem? hsq))).2.2.2.1
   refine ⟨_,rfl,.inl ⟨rfl,_,SqL.of grl⟩,?_⟩
   refine ⟨_,rfl,_,rfl,pa,_,_,_,rfl,rfl,SqL.of (S8 _ _ gpa),eat,a,_,2,.ref c,rfl,rfl,SqT.of (S8 _ _ ha),aB (j:=2) rfl,c,rfl,⟨_,SqT.of (S8 _ _ hc)⟩,?_⟩
   refine jB (by rw [List.length_map];omega) (S8 _ _ hc) (fun v=>[.str "part",.int (0+ (n:Int)),v]) (fun v H k _ hk=>⟨_,rfl,_,rfl,(by show 3<=sizeLine;decide),fun p hp=>hk p hp⟩) fun pl vs H9 hpl s9 gpl hTw=>?_
   have ew:(sq'.ups.map V.str).map (fun v=>[V.str "part",V.int (0+ (n:Int)),v])=(sq'.ups.map fun x=>Fm.part (0+ (n:Int)) x).map fmV:=by rw [List.map_map,List.map_map];rfl
   rw [ew]at hTw
   have grl9:=s9 _ _ grl
   have lz:=hT.len
   have lw:=hTw.len
   have lt:=iJ 0 (qs.take n) fun s hs=>hok.2.2.2.2 s (hqs s (List.mem_of_mem_take hs))
   rw [List.length_map]at lz
   rw [List.length_map,List.length_map]at lw
   rw [List.length_take]at lt
   refine ⟨rl,pl,rv,vs,rfl,rfl,grl9,gpl,Nat.le_of_lt (aF (by omega)),?_⟩
   have tk:TK H9 (upd H9 rl (.lst (rv++vs))):=TK.lst grl9
   have tk8:TK H8 (upd H9 rl (.lst (rv++vs))):=(aC s9).trans tk
   refine ⟨_,rv++vs,rfl,?_,ac,?_⟩
   ·intro y oo h
    rw [am (aj h hrl)]
    exact s9 _ _ (S8 _ _ h)
   ·rw [List.take_add_one,hsq]
    show Tups _ ((bE 0 (qs.take n++[sq'])).map fmV) _
    rw [lC,List.map_append]
    have e9:(0:Int) + ((qs.take n).length:Int)=0+ (n:Int):=by rw [List.length_take];omega
    rw [e9]
    exact (hT.mono tk8).append (hTw.mono tk)
  ·rintro σ H8 ⟨o14,rv,rfl,S8,grl,hT⟩
   rw [List.take_of_length_le (by omega)]at hT
   have k68:Kp tp H5 H8:=k6.same S8
   refine hread3 sc sg hd sa nl fl st u gr mo ss ws sgs hok hdn hws hfl0 hnf hsg hsg1 hsg2 hops D i _ H2 H8 tp oa pa rl o qs zs rv m _ _ _ hB hi htp (fun b oo h=>k68 b oo (s5 b oo h) (aj h htp)) (tt6.same S8) ho (hoR.mono (k68.tk tt5)) hqs hql (S8 _ _ gpa) (hQ.mono (aC S8)) grl hT npt nrt hD
theorem sj {d:Int} (h0:0<=d) (h1:d<3): ∃ m:Int,atI [V.int 2,.int 3,.int 5] d=some (.int m)/\2<=m/\m<=5:=by
 have h5:d=0\/d=1\/d=2:=by omega
 rcases h5 with h | h | h <;> subst h <;> exact ⟨_,rfl,by decide,by decide⟩
theorem ul {ss:List Srt} {frs:List Frm} (hok:gn ss) (few:frs.length<=10) (f1:1<=frs.length) (nd:(frs.map Frm.name).Nodup) (wd: ∀ fr∈frs,a5 fr.name=true) (fo: ∀ fr∈frs,uM ss fr):BkV ⟨0,ss,frs⟩:=by
 refine ⟨⟨few,nd,hok.2.1,hok.2.2.1,fun s hs=>?_,fun fr hf=>?_⟩,.inl rfl,hok.1,f1,fun s hs=>⟨(hok.2.2.2.1 s hs).1,(hok.2.2.2.2 s hs).2.1⟩,fun fr hf=>wd fr hf,fun fr hf r hrr=>((fo fr hf).2.2.2.2 r hrr).1⟩
 ·obtain ⟨a,b,c,d,_⟩:=hok.2.2.2.2 s hs
  exact ⟨c,d,a,fun x hx=>a7 (b x hx)⟩
 ·obtain ⟨a,b,c,d,e⟩:=fo fr hf
  exact ⟨a,b,c,d,fun r hrr=>⟨(e r hrr).1.wf,(e r hrr).2.2⟩⟩
noncomputable def lh (K:PySem.W.Frag):Sp:=fun vs H Q _=> ∃ (sc sg:Addr) (ns:List Int) (st u:Int) (sgs:List Str),vs=[.ref sc,.int st,.int u,.ref sg]/\SqL K H sc (ns.map V.int)/\ns.length<=63/\0<=st/\st<900/\1<=u/\u<=3/\H sg=some (.lst (sgs.map V.str))/\1<=sgs.length/\sgs.length<=1000/\(∀ x∈sgs,x∈ops)/\
 ∀ v bk H',RepB H' bk v->BkV bk->bk.wheel=0->(∀ s∈bk.sorts,s.downs=[])->(∀ s∈bk.sorts,1<=s.ups.length)->Same H H'->Q v H'
theorem sy {cdv:Value} {A:Around} {outer:List Env} {s:Shared} {H H0:Hp} {E:XK} (G:Gb mg)
  (GD:FnOk P w K mg base CX0 1 g gd ["tape","many"] bj) (bD:Binds K gd ["tape","many"] []) (kD:PySem.W.keepIn K (.ref g)=true) (mD:mg "_law_digit"=some (.ref g))
  (GL:FnOk P w K mg base CX0 11 f2 fd2 ["tape","readings","room","signs"] (gZ 8)) (bL:Binds K fd2 ["tape","readings","room","signs"] []) (kL:PySem.W.keepIn K (.ref f2)=true) (mL:mg "_law_level_formula"=some (.ref f2))
  (hr:Room 11 (dv CX0 P w K mg base jm "_law_level_book" (ag cq) f cdv A outer s H0 E).nox.A):
  ∃ t,PSs (dv CX0 P w K mg base jm "_law_level_book" (ag cq) f cdv A outer s H0 E).nox (lvFor.drop 3) t/\
   ∀ (sc sg hd sa nl fl:Addr) (st u gr mo:Int) (ss:List Srt) (ws sgs:List Str),gn ss->(∀ s∈ss,s.downs=[])->ws.length=10->H fl=none->nl≠fl->H sg=some (.lst (sgs.map V.str))->1<=sgs.length->sgs.length<=1000->(∀ x∈sgs,x∈ops)->
   ∀ (D:ev) (i:Nat) (σ:St) (H2 H5:Hp) (tp oa:Addr) (o:Srt) (o13 o14 o15 o16 o17 o18:Option V),ji H sc sg hd sa nl fl st u gr mo ss ws i σ H2->i<10->H2 tp=none->Same H2 H5->Tp H5 tp->o∈ss->RepS H5 o (.ref oa)->
    (∀ σ' H',ji H sc sg hd sa nl fl st u gr mo ss ws (i+1) σ' H'->D.nx σ' H')->
    t D [some (.ref sc),some (.int st),some (.int u),some (.ref sg),some (.ref hd),some (.int gr),some (.int mo),some (.ref sa),some (.ref nl),some (.ref fl),some (.int (0+ (i:Int))),some (.ref tp),some (.ref oa),o13,o14,o15,o16,o17,o18] H5:=by
 have hr1:=hr.mono (show 1<=11 by decide)
 obtain ⟨t2,ht2,hread2⟩:=su (cdv:=cdv) (A:=A) (outer:=outer) (s:=s) (H:=H) (H0:=H0) (E:=E) (f:=f) G GD bD kD mD GL bL kL mL hr
 refine ⟨_,ad (aw (i:=13) scLvB.nd rfl (Or.inl rfl) (av bn (bd (aa ae (aa ae (aa ae (aa ae (aa ae ab)))))) (af GD hr1 rfl mD kD bD .nil al (aa (pv 11) (aa ae ab))) (fun _ _=>rfl)))
  (ad (aK (PW.pt (cY (az aZ (pv 10) ae (aE _)) (cA (PW.pt (di (az aZ (pv 5) ae (aE _)) (cR (az hV (pv 10) (ao aA rfl G.len PySem.boot_len (aa (pv 7) ab)) (aE _))))))))
   (ah (aw (i:=13) scLvB.nd rfl (Or.inl rfl) ae)) ax) ht2),?_⟩
 intro sc sg hd sa nl fl st u gr mo ss ws sgs hok hdn hws hfl0 hnf hsg hsg1 hsg2 hops D i σ H2 H5 tp oa o o13 o14 o15 o16 o17 o18 hB hi htp s5 tt5 ho hoR hD
 obtain ⟨xs,gsa,hR⟩:SrtsAt H5 sa ss:=by
  obtain ⟨_,_,_,_,_,_,_,_,_,_,_,_,_,h,_⟩:=hB
  exact h.mono (aC s5)
 refine ⟨(by show 5<=sizeLine;decide),fun p hp=>?_⟩
 have npt:=fk tt5 hp
 refine ⟨_,rfl,tp,5,rfl,tt5.new hp,by decide,by decide,fun d t hd0 hd1=>?_⟩
 obtain ⟨m,em,hm0,hm3⟩:=uk hd0 hd1
 refine ⟨p,_,d,.int m,rfl,rfl,SqL.of (by rw [am npt];exact ac),em,?_⟩
 have k6:Kp tp H5 (upd (upd H5 p (.lst [.int 2,.int 1,.int 3,.int 2,.int 0])) tp (.lst [.int t])):=(Kp.refl.new hp).trans Kp.tape
 have tt6:Tp (upd (upd H5 p (.lst [.int 2,.int 1,.int 3,.int 2,.int 0])) tp (.lst [.int t])) tp:=⟨t,ac⟩
 generalize upd (upd H5 p (.lst [.int 2,.int 1,.int 3,.int 2,.int 0])) tp (.lst [.int t])=H6 at k6 tt6 ⊢
 have s6:Same H2 H6:=fun b oo h=>k6 b oo (s5 b oo h) (aj h htp)
 have gsa6:=k6.tk tt5 _ _ gsa
 have hoR6:=hoR.mono (k6.tk tt5)
 have go:=fun (m:Int) (hm0:0<=m) (hm3:m<=3)=>hread2 sc sg hd sa nl fl st u gr mo ss ws sgs hok hdn hws hfl0 hnf hsg hsg1 hsg2 hops D i σ H2 H6 tp oa o m o14 o15 o16 o17 o18 hB hi htp s6 tt6 ho hoR6 hm0 hm3 hD
 refine ⟨_,rfl,rfl,_,rfl,?_⟩
 refine bo (fun c=>aY ?_) (fun c=>?_)
 ·exact go 0 (by decide) (by decide)
 refine ⟨_,rfl,rfl,_,rfl,?_⟩
 refine bo (fun c2=>?_) (fun c2=>aH ?_)
 ·refine ⟨_,rfl,_,rfl,sa,xs,rfl,.inr (SqT.of gsa6),_,_,rfl,rfl,_,rfl,?_⟩
  refine bo (fun c3=>?_) (fun c3=>?_)
  ·exact go 0 (by decide) (by decide)
  ·exact go m hm0 hm3
 ·exact go m hm0 hm3
theorem qe (F:Fun K "_law_level_book" "_law_level_book" cq f fd) (G:Gb mg)
  (GD:FnOk P w K mg base CX0 1 g gd ["tape","many"] bj) (bD:Binds K gd ["tape","many"] []) (kD:PySem.W.keepIn K (.ref g)=true) (mD:mg "_law_digit"=some (.ref g))
  (GL:FnOk P w K mg base CX0 11 f2 fd2 ["tape","readings","room","signs"] (gZ 8)) (bL:Binds K fd2 ["tape","readings","room","signs"] []) (kL:PySem.W.keepIn K (.ref f2)=true) (mL:mg "_law_level_formula"=some (.ref f2))
  (GT:FnOk P w K mg base CX0 2 f3 fd3 ["script","k"] (nc K)) (bT:Binds K fd3 ["script","k"] []) (kT:PySem.W.keepIn K (.ref f3)=true) (mT:mg "_law_tape"=some (.ref f3))
  (GS:FnOk P w K mg base CX0 3 f4 fd4 ["tape","ups"] jr) (bS:Binds K fd4 ["tape","ups"] []) (kS:PySem.W.keepIn K (.ref f4)=true) (mS:mg "_law_level_sorts"=some (.ref f4))
  (GN:FnOk P w K mg base CX0 2 f5 fd5 ["tape","many"] iw) (bN:Binds K fd5 ["tape","many"] []) (kN:PySem.W.keepIn K (.ref f5)=true) (mN:mg "_law_names"=some (.ref f5)):
  FnOk P w K mg base CX0 12 f fd ["script","start","ups","signs"] (lh K):=by
 refine F.ok scLvB (fun vs H Q E h=>?_) (fun cdv A outer s H vs Q E hr h=>?_)
 ·obtain ⟨sc,sg,ns,st,u,sgs,rfl,_⟩:=h
  rfl
 obtain ⟨sc,sg,ns,st,u,sgs,rfl,hS,hns,hst0,hst1,hu1,hu3,hsg,hsg1,hsg2,hops,q⟩:=h
 have hr1:=hr.mono (show 1<=11 by decide)
 have hr2:=hr.mono (show 2<=11 by decide)
 have hr3:=hr.mono (show 3<=11 by decide)
 obtain ⟨t1,ht1,hread1⟩:=sy (cdv:=cdv) (A:=A) (outer:=outer) (s:=s) (H:=H) (H0:=H) (E:=E) (f:=f) G GD bD kD mD GL bL kL mL hr
 refine ⟨_,ad (aw (i:=4) scLvB.nd rfl (Or.inl rfl) (af GT hr2 rfl mT kT bT .nil al (pac (pv 0) (pac (pv 1) ab))))
  (ad (aw (i:=5) scLvB.nd rfl (Or.inl rfl) (af GD hr1 rfl mD kD bD .nil al (pac (pv 4) (pac ae ab))))
  (ad (aw (i:=6) scLvB.nd rfl (Or.inl rfl) (af GD hr1 rfl mD kD bD .nil al (pac (pv 4) (pac (av bn (bd (pac ae (pac ae (pac ae ab)))) (af GD hr1 rfl mD kD bD .nil al (pac (pv 4) (pac ae ab))) (fun _ _=>rfl)) ab))))
  (ad (aw (i:=7) scLvB.nd rfl (Or.inr rfl) (af GS hr3 rfl mS kS bS .nil al (pac (pv 4) (pac (pv 2) ab))))
  (ad (aw (i:=8) scLvB.nd rfl (Or.inl rfl) (af GN hr2 rfl mN kN bN .nil al (pac (pv 4) (pac ae ab))))
  (ad (aw (i:=9) scLvB.nd rfl (Or.inl rfl) (bd ab))
  (ad (cf PassesOwn.never rfl (cE rfl G.range (aa (ao (jD rfl) rfl G.min (by decide +kernel) (aa ae (aa (aJ bi (ao aA rfl G.len PySem.boot_len (aa (pv 7) ab)) (pv 6)) ab))) ab)) (aO (i:=10) scLvB.nd rfl (Or.inl rfl))
   (ad (aw (i:=11) scLvB.nd rfl (Or.inr rfl) (af GT hr2 rfl mT kT bT .nil al (aa (pv 0) (aa (aJ bi (aJ bi (pv 1) ae) (pv 10)) ab))))
   (ad (aw (i:=12) scLvB.nd rfl (Or.inl rfl) (av aq (pv 7) (aJ cV (pv 10) (ao aA rfl G.len PySem.boot_len (aa (pv 7) ab))) (fun _ _=>rfl)))
   (ad (aK (az v8 (pv 10) (ao aA rfl G.len PySem.boot_len (aa (pv 7) ab)) (aE _))
    (ah (aw (i:=12) scLvB.nd rfl (Or.inl rfl) (av aq (pv 7) (af GD hr1 rfl mD kD bD .nil al (aa (pv 11) (aa (ao aA rfl G.len PySem.boot_len (aa (pv 7) ab)) ab))) (fun _ _=>rfl)))) ax) ht1))))
  (ah (au (aS (aa ae (aa (pv 7) (aa (bG bt rfl G.tuple (by decide +kernel) (aa (pv 9) ab)) ab)))))))))))),?_⟩
 refine ⟨_,rfl,_,rfl,sc,ns,st,rfl,hS,hns,hst0,by omega,fun hd t0 hhd=>?_⟩
 have S1:=ai hhd (.lst [.int t0])
 have tt1:Tp (upd H hd (.lst [.int t0])) hd:=⟨t0,ac⟩
 generalize upd H hd (.lst [.int t0])=H1 at S1 tt1 ⊢
 refine ⟨_,rfl,hd,2,rfl,tt1,by decide,by decide,fun gr t3 _ _=>?_⟩
 have k5:Kp hd H1 (upd H1 hd (.lst [.int t3])):=Kp.tape
 have tt5:Tp (upd H1 hd (.lst [.int t3])) hd:=⟨t3,ac⟩
 generalize upd H1 hd (.lst [.int t3])=H5 at k5 tt5 ⊢
 refine ⟨_,rfl,(by show 3<=sizeLine;decide),fun p hp=>?_⟩
 have np:=fk tt5 hp
 refine ⟨_,rfl,hd,3,rfl,tt5.new hp,by decide,by decide,fun d t4 hd0 hd1=>?_⟩
 obtain ⟨mm,emm,hmm3,hmm7⟩:=sj hd0 hd1
 refine ⟨p,_,d,.int mm,rfl,rfl,SqL.of (by rw [am np];exact ac),emm,?_⟩
 have k6:Kp hd H1 (upd (upd H5 p (.lst [.int 2,.int 3,.int 5])) hd (.lst [.int t4])):=(k5.new hp).trans Kp.tape
 have tt6:Tp (upd (upd H5 p (.lst [.int 2,.int 3,.int 5])) hd (.lst [.int t4])) hd:=⟨t4,ac⟩
 generalize upd (upd H5 p (.lst [.int 2,.int 3,.int 5])) hd (.lst [.int t4])=H6 at k6 tt6 ⊢
 refine ⟨hd,mm,rfl,tt6,by omega,by omega,fun mo t5 hmo0 hmo1=>?_⟩
 have k7:Kp hd H1 (upd H6 hd (.lst [.int t5])):=k6.trans Kp.tape
 have tt7:Tp (upd H6 hd (.lst [.int t5])) hd:=⟨t5,ac⟩
 generalize upd H6 hd (.lst [.int t5])=H7 at k7 tt7 ⊢
 refine ⟨_,rfl,_,rfl,hd,u,rfl,tt7,hu1,hu3,fun sa ss xs H8 gsa hR hok hs3 hss k8 tt8=>?_⟩
 refine ⟨_,rfl,hd,10,rfl,tt8,by decide,by decide,fun nl ws H9 gnl hnl hN hnh k9 tt9=>?_⟩
 refine ⟨(by show 0<=sizeLine;decide),fun fl hfl=>?_⟩
 have k19:Kp hd H1 H9:=k7.trans (k8.trans k9)
 have S9:Same H H9:=fun b oo h=>k19 b oo (S1 b oo h) (aj h hhd)
 have s10:=ai hfl (.lst [])
 have hfl0:=S9.free hfl
 have hnf:nl≠fl:=aj gnl hfl
 have S5:=S9.trans s10
 have tk810:TK H8 (upd H9 fl (.lst [])):=(k9.tk tt8).trans (aC s10)
 have gsa:=tk810 _ _ gsa
 have hR:=hR.mono tk810
 have gnl:=s10 _ _ gnl
 have gfl:(upd H9 fl (.lst [])) fl=some (.lst []):=ac
 generalize upd H9 fl (.lst [])=H10 at S5 gsa hR gnl gfl ⊢
 have hdn: ∀ s∈ss,s.downs=[]:=fun s hs=>(hss s hs).1
 obtain ⟨nLen,nNd,nWd⟩:=hN.ok (by decide)
 have lxs:=hR.len
 have l1:=hok.1
 have l4:=hok.2.1
 obtain ⟨n,en,hn1,hn2⟩: ∃ n:Int,(if (xs.length:Int) +mo<10 then (xs.length:Int) +mo else 10)=n/\(xs.length:Int)<=n/\n<=10:=⟨_,rfl,by split <;> omega,by split <;> omega⟩
 refine ⟨_,rfl,sa,xs,rfl,.inr (SqT.of gsa),_,rfl,_,_,rfl,rfl,_,_,rfl,?_⟩
 rw [en]
 refine ⟨n,rfl,by omega,by omega,?_⟩
 refine dU (fun i σ H'=>ji H sc sg hd sa nl fl st u gr mo ss ws i σ H')
  ⟨none,none,none,none,none,none,none,none,none,[],[],rfl,S5,⟨xs,gsa,hR⟩,gnl,gfl,.nil,rfl,rfl,fun _ h=>(by cases h)⟩ ?_ ?_
 ·intro i σ H6 hi hB
  have hB':=hB
  obtain ⟨o10,o11,o12,o13,o14,o15,o16,o17,o18,fv,frs,rfl,S6,hsa6,gnl6,gfl6,hF6,_⟩:=hB'
  obtain ⟨xs6,gsa6,hR6⟩:=hsa6
  have lx6:=hR6.len
  refine ⟨_,rfl,_,rfl,_,_,rfl,rfl,_,rfl,_,_,rfl,rfl,sc,ns,_,rfl,SqL.keep hS (fun oo h=>S6 _ _ h),hns,by omega,by omega,fun tp t0 htp=>?_⟩
  have s7:=ai htp (.lst [.int t0])
  have tt7:Tp (upd H6 tp (.lst [.int t0])) tp:=⟨t0,ac⟩
  generalize upd H6 tp (.lst [.int t0])=H7 at s7 tt7 ⊢
  have gsa7:=s7 _ _ gsa6
  have hR7:=hR6.mono (aC s7)
  have hm0:0<=(0+ (i:Int)) % (xs6.length:Int):=Int.emod_nonneg _ (by omega)
  have hm1:(0+ (i:Int)) % (xs6.length:Int) <xs6.length:=Int.emod_lt_of_pos _ (by omega)
  obtain ⟨x,ex,ex2⟩:=cW hm0 hm1
  obtain ⟨o,ho,hoR⟩:=aL hR7 ex2
  have hoR':=hoR
  obtain ⟨oa,_,_,rfl,_⟩:=hoR'
  refine ⟨_,rfl,_,rfl,_,rfl,sa,xs6,rfl,.inr (SqT.of gsa7),_,_,rfl,rfl,(by show (0:Int) <xs6.length;omega),sa,xs6,_,.ref oa,rfl,rfl,SqT.of gsa7,ex,?_⟩
  refine ⟨_,rfl,_,rfl,sa,xs6,rfl,.inr (SqT.of gsa7),_,_,rfl,rfl,_,rfl,?_⟩
  refine bo (fun c=>?_) (fun c=>?_)
  ·refine ⟨_,rfl,_,rfl,_,rfl,sa,xs6,rfl,.inr (SqT.of gsa7),tp,_,rfl,tt7,by omega,by omega,fun d t1 hd0 hd1=>?_⟩
   have k8:Kp tp H7 (upd H7 tp (.lst [.int t1])):=Kp.tape
   have tt8:Tp (upd H7 tp (.lst [.int t1])) tp:=⟨t1,ac⟩
   generalize upd H7 tp (.lst [.int t1])=H8 at k8 tt8 ⊢
   have tk8:=k8.tk tt7
   obtain ⟨x2,ey,ey2⟩:=cW hd0 hd1
   obtain ⟨o2,ho2,hoR2⟩:=aL hR7 ey2
   have hoR':=hoR2
   obtain ⟨oa2,_,_,rfl,_⟩:=hoR'
   refine ⟨sa,xs6,d,.ref oa2,rfl,rfl,SqT.of (tk8 _ _ gsa7),ey,?_⟩
   exact hread1 sc sg hd sa nl fl st u gr mo ss ws sgs hok hdn nLen hfl0 hnf hsg hsg1 hsg2 hops _ i _ H6 H8 tp oa2 o2 _ _ _ _ _ _ hB (by omega) htp (fun y oo h=>k8 y oo (s7 y oo h) (aj h htp)) tt8 (List.mem_of_getElem? ho2) (RepS.mono tk8 hoR2) (fun σ' H' h=>h)
  ·exact hread1 sc sg hd sa nl fl st u gr mo ss ws sgs hok hdn nLen hfl0 hnf hsg hsg1 hsg2 hops _ i _ H6 H7 tp oa o _ _ _ _ _ _ hB (by omega) htp s7 tt7 (List.mem_of_getElem? ho) hoR (fun σ' H' h=>h)
 ·rintro σ H6 ⟨o10,o11,o12,o13,o14,o15,o16,o17,o18,fv,frs,rfl,S6,hsa6,gnl6,gfl6,hF6,lfr,hnm,hfok⟩
  refine ⟨_,rfl,_,rfl,fl,fv,rfl,.inl ⟨SqL.of gfl6,fun fa hfa=>?_⟩⟩
  have s7:=ai hfa (.tup fv)
  have g7:(upd H6 fa (.tup fv)) fa=some (.tup fv):=ac
  generalize upd H6 fa (.tup fv)=H7 at s7 g7 ⊢
  refine ⟨(by show 3<=sizeLine;decide),fun pb hpb=>?_⟩
  have s8:=ai hpb (.tup [.int 0,.ref sa,.ref fa])
  have tk68:=aC (s7.trans s8)
  refine q (.ref pb) ⟨0,ss,frs⟩ _ ⟨pb,sa,fa,fv,rfl,ac,hsa6.mono tk68,s8 _ _ g7,hF6.mono tk68⟩ ?_ rfl hdn (fun s hs=>(hss s hs).2) (S6.trans (s7.trans s8))
  refine ul hok (by omega) (by omega) ?_ (fun fr hfr=>?_) hfok
  ·rw [hnm]
   exact nNd.sublist (List.take_sublist _ _)
  ·have hm:fr.name∈ws:=List.mem_of_mem_take (i:=n.toNat) (by rw [<- hnm];exact List.mem_map_of_mem hfr)
   exact nWd _ hm
theorem hU {α β:Type} {F:α->β->Prop}: ∀ {l:List α} {r:List β} {x:β},Paired F l (r++[x])-> ∃ l' g,l=l'++[g]/\Paired F l' r/\F g x
 | _,[],_,.cons h .nil=>⟨[],_,rfl,.nil,h⟩
 | _,_::r,x,.cons h t=>by
  obtain ⟨l',g,e,p,hg⟩:=hU (r:=r) t
  exact ⟨_::l',g,by rw [e];rfl,.cons h p,hg⟩
theorem cm: ∀ (a b:List Fm),fsz (a++b)=fsz a+fsz b
 | [],b=>by show fsz b=0+fsz b;omega
 | x::r,b=>by
  show x.size+fsz (r++b)=x.size+fsz r+fsz b
  rw [cm r b]
  omega
theorem oX: ∀ (a:List Fm),a.length<=fsz a
 | []=>Nat.le_refl _
 | x::r=>by
  have:=oX r
  have:=x.size_pos
  show r.length+1<=x.size+fsz r
  omega
theorem Paired.app {α β:Type} {F:α->β->Prop}: ∀ {a c:List α} {b d:List β},Paired F a b->Paired F c d->Paired F (a++c) (b++d)
 | _,_,_,_,.nil,h=>h
 | _,_,_,_,.cons x t,h=>.cons x (Paired.app t h)
theorem oV: ∀ {bs:List Bool},inV (.bl true) (bs.map V.bl)=bs.any id
 | []=>rfl
 | b::r=>by
  have e:inV (.bl true) ((b::r).map V.bl)=(eqV (.bl b) (.bl true)||inV (.bl true) (r.map V.bl)):=rfl
  rw [e,oV (bs:=r),List.any_cons]
  cases b <;> rfl
theorem jc: ∀ {bs:List Bool},(bs.map V.bl).all eB=true
 | []=>rfl
 | b::r=>by rw [List.map_cons,List.all_cons,jc (bs:=r)];rfl
noncomputable def LFI (H:Hp) (v:V) (pw:Addr) (fm:Fm) (m:Nat) (σ:St) (H':Hp):Prop:= ∃ (ws:List V) (fs:List Fm) (o2 o3:Option V),
 σ=[some v,some (.ref pw),o2,o3]/\H' pw=some (.lst ws)/\Same H H'/\Paired (Gd H) fs ws/\fs.all Fm.lvB=fm.lvB/\fsz fs=m/\m<=15
noncomputable abbrev NFi:List Str:=["formula","waiting","one","others"]
theorem scLvFIs:ay NFi ["formula"] (ag jX):=fsc
theorem rP (F:Fun K "_law_level_formula_is" "_law_level_formula_is" jX f fd)
  (GP:FnOk P w K mg base CX0 2 f2 fd2 ["formula"] dA) (bP:Binds K fd2 ["formula"] []) (kP:PySem.W.keepIn K (.ref f2)=true) (mP:mg "_law_parts_in"=some (.ref f2)):
  FnOk P w K mg base CX0 3 f fd ["formula"] fQ:=by
 refine F.ok scLvFIs (fun vs H Q E h=>?_) (fun cdv A outer s H vs Q E hr h=>?_)
 ·obtain ⟨v,fm,rfl,_⟩:=h
  rfl
 obtain ⟨v,fm,rfl,hR,hwf,h15,q⟩:=h
 refine ⟨_,ad (aw (i:=1) scLvFIs.nd rfl (Or.inl rfl) (bd (aa (pv 0) ab)))
  (ad (fV PassesOwn.never (az (jx hr.units0) (pv 1) (bd ab) (aE _))
   (ad (aw (i:=2) scLvFIs.nd rfl (Or.inl rfl) (nC PySem.F.plainAttrs_list PySem.F.slot_list_pop PySem.F.type_list_pop nT (pv 1)))
   (ad (aK (az aZ (av aq (pv 2) ae (fun _ _=>rfl)) aG (aE _)) (ah (au cj)) ax)
   (ad (aK (az aZ (av aq (pv 2) ae (fun _ _=>rfl)) aG (aE _))
    (ad (aw (i:=3) scLvFIs.nd rfl (Or.inr rfl) (af GP hr rfl mP kP bP .nil al (aa (av aq (pv 2) ae (fun _ _=>rfl)) ab)))
    (ah (aK (az (cN) cj (a9 (sc0:=ag jX) (N0:=NFi) (ys:=["others"]) (fr:=[3]) rfl (cS (af GP hr rfl mP kP bP .nil al (aa (av aq (pv 2) ae (fun _ _=>rfl)) ab))) rfl rfl
     cok
     (fun C s H ex=>bm (r:=rIn K false) cN (pv 0) (pv 1) (by with_unfolding_all rfl))) (by with_unfolding_all rfl)) (ah (au cj)) ax))) ax)
   (ah (aK (PW.pt (di (az iS (av aq (pv 2) ae (fun _ _=>rfl)) aG (aE _)) (cR (az iS (av aq (pv 2) ae (fun _ _=>rfl)) aG (aE _)))))
    (ah (cy (eA PySem.F.plainAttrs_list PySem.F.slot_list_extend PySem.F.type_list_extend ku (pv 1) (aa (bh gE (pv 2) (bZ ae) ca) ab)))) ax))))))
  (ah (au cj))),?_⟩
 refine ⟨_,rfl,(by show 1<=sizeLine;decide),fun pw hpw=>?_⟩
 dsimp only [qK,jK,dH,tC]
 refine ⟨LFI H v pw fm,⟨_,[v],[fm],none,none,rfl,ac,ai hpw _,.cons ⟨hR,hwf,h15⟩ .nil,Bool.and_true _,rfl,(by show fm.size+0<=15;omega)⟩,?_⟩
 rintro m σ H' ⟨ws,fs,o2,o3,rfl,gw,sm,hP,hall,rfl,hm⟩
 refine ⟨_,rfl,(by show 0<=sizeLine;decide),fun p3 h3=>?_⟩
 have s3:=ai h3 (.lst [])
 have g3:(upd H' p3 (.lst [])) p3=some (.lst []):=ac
 have gw3:=s3 _ _ gw
 have sm3:=sm.trans s3
 generalize upd H' p3 (.lst [])=H3 at s3 g3 gw3 sm3 ⊢
 refine ⟨pw,p3,ws,rfl,rfl,SqL.of gw3,SqL.of g3,_,rfl,?_⟩
 rcases List.eq_nil_or_concat ws with hz | ⟨ws',x,hz⟩
 ·subst hz
  refine aH ?_
  cases hP
  have:=q H3 sm3
  rw [<- hall]at this
  exact this
 ·rw [List.concat_eq_append]at hz
  subst hz
  have ne:(!(ws'++[x]).isEmpty)=true:=by cases ws' <;> rfl
  refine bo (fun _=>?_) (fun c=>absurd ne c)
  refine ⟨fun σ' H''=> ∃ m',m'<fsz fs/\LFI H v pw fm m' σ' H'',fun σ' H'' h=>h,?_⟩
  obtain ⟨fs',g,rfl,hP',hg⟩:=hU hP
  rw [cm]at hm ⊢
  rw [List.all_append]at hall
  have hsz:fsz [g]=g.size:=by show g.size+0=g.size;omega
  rw [hsz]at hm ⊢
  have hall:(fs'.all Fm.lvB&&g.lvB)=fm.lvB:=by rw [<- hall];show _=(_&&(g.lvB&&true));rw [Bool.and_true]
  refine ⟨_,rfl,.inl ⟨rfl,_,SqL.of gw3⟩,pw,_,x,rfl,rfl,gw3,by simp,?_⟩
  rw [List.dropLast_concat]
  have gw4:(upd H3 pw (.lst ws')) pw=some (.lst ws'):=ac
  have sm4:Same H (upd H3 pw (.lst ws')):=fun c oo h=>by rw [am (aj h hpw)];exact sm3 c oo h
  generalize upd H3 pw (.lst ws')=H4 at gw4 sm4 ⊢
  obtain ⟨hRg,hwg,hsg⟩:=hg
  have hRg4:Rep H4 g x:=hRg.mono (aC sm4)
  have lws:ws'.length<=15:=by
   have h1:=oX fs'
   have h2:fs'.length=ws'.length:=Paired.length hP'
   omega
  have fb: ∀ H5,Same H H5->g.lvB=false->Q (.bl false) H5:=fun H5 s5 hb=>by
   have:=q H5 s5
   rw [<- hall,hb,Bool.and_false]at this
   exact this
  cases g with
  | num n=>
   obtain ⟨a,rfl,ha⟩:=hRg4
   refine ⟨_,rfl,a,_,0,.str "num",rfl,rfl,SqT.of ha,aT,rfl,false,(by rw [decide_eq_false (by decide +kernel)]),aH ?_⟩
   refine ⟨_,rfl,a,_,0,.str "num",rfl,rfl,SqT.of ha,aT,rfl,false,(by rw [decide_eq_false (by decide +kernel)]),aH ?_⟩
   refine ⟨_,rfl,a,_,0,.str "num",rfl,rfl,SqT.of ha,aT,rfl,false,(by rw [decide_eq_true rfl];rfl),aH (aH ?_)⟩
   exact ⟨fsz fs',(by show fsz fs'<fsz fs'+1;omega),ws',fs',_,_,rfl,gw4,sm4,hP',(by rw [<- hall];exact (Bool.and_true _).symm),rfl,by omega⟩
  | own y=>
   obtain ⟨a,rfl,ha⟩:=hRg4
   refine ⟨_,rfl,a,_,0,.str "own",rfl,rfl,SqT.of ha,aT,rfl,true,(by rw [decide_eq_true rfl]),aY ?_⟩
   exact fb H4 sm4 rfl
  | part k y=>
   obtain ⟨a,rfl,ha⟩:=hRg4
   refine ⟨_,rfl,a,_,0,.str "part",rfl,rfl,SqT.of ha,aT,rfl,false,(by rw [decide_eq_false (by decide +kernel)]),aH ?_⟩
   refine ⟨_,rfl,a,_,0,.str "part",rfl,rfl,SqT.of ha,aT,rfl,false,(by rw [decide_eq_false (by decide +kernel)]),aH ?_⟩
   refine ⟨_,rfl,a,_,0,.str "part",rfl,rfl,SqT.of ha,aT,rfl,true,(by rw [decide_eq_false (by decide +kernel)];rfl),aY ?_⟩
   refine ⟨_,rfl,a,_,0,.str "part",rfl,rfl,SqT.of ha,aT,rfl,false,(by rw [decide_eq_true rfl];rfl),aH ?_⟩
   exact ⟨fsz fs',(by show fsz fs'<fsz fs'+1;omega),ws',fs',_,_,rfl,gw4,sm4,hP',(by rw [<- hall];exact (Bool.and_true _).symm),rfl,by omega⟩
  | whn A B C=>
   obtain ⟨a,u1,u2,u3,rfl,ha0,q1,q2,q3⟩:=hRg
   have ha:=sm4 _ _ ha0
   obtain ⟨w1,w2,w3⟩:=hwg
   have hz:A.size+B.size+C.size+1<=15:=hsg
   have hm':fsz fs'+ (A.size+B.size+C.size+1)<=15:=hm
   refine ⟨_,rfl,a,_,0,.str "when",rfl,rfl,SqT.of ha,aT,rfl,false,(by rw [decide_eq_false (by decide +kernel)]),aH ?_⟩
   refine ⟨_,rfl,a,_,0,.str "when",rfl,rfl,SqT.of ha,aT,rfl,false,(by rw [decide_eq_false (by decide +kernel)]),aH ?_⟩
   refine ⟨_,rfl,a,_,0,.str "when",rfl,rfl,SqT.of ha,aT,rfl,true,(by rw [decide_eq_false (by decide +kernel)];rfl),aY ?_⟩
   refine ⟨_,rfl,a,_,0,.str "when",rfl,rfl,SqT.of ha,aT,rfl,true,(by rw [decide_eq_false (by decide +kernel)];rfl),aY ?_⟩
   refine ⟨_,rfl,.inl ⟨rfl,_,SqL.of gw4⟩,_,rfl,1,rfl,a,_,rfl,SqT.of ha,de _ _,fun p5 h5=>?_⟩
   rw [kz]
   have s5:=ai h5 (.tup [u1,u2,u3])
   have g5:(upd H4 p5 (.tup [u1,u2,u3])) p5=some (.tup [u1,u2,u3]):=ac
   generalize upd H4 p5 (.tup [u1,u2,u3])=H5 at s5 g5 ⊢
   have gw5:=s5 _ _ gw4
   refine ⟨pw,p5,ws',[u1,u2,u3],rfl,rfl,gw5,SqT.of g5,Nat.le_of_lt (aF (by show ws'.length+3<=1000;omega)),?_⟩
   have sm5:Same H (upd H5 pw (.lst (ws'++[u1,u2,u3]))):=fun c oo h=>by rw [am (aj h hpw)];exact s5 _ _ (sm4 c oo h)
   refine ⟨fsz (fs'++[A,B,C]),?_,ws'++[u1,u2,u3],fs'++[A,B,C],_,_,rfl,ac,sm5,Paired.app hP' (.cons ⟨q1,w1,by omega⟩ (.cons ⟨q2,w2,by omega⟩ (.cons ⟨q3,w3,by omega⟩ .nil))),?_,rfl,?_⟩
   ·rw [cm]
    show fsz fs'+ (A.size+ (B.size+ (C.size+0))) <fsz fs'+ (A.size+B.size+C.size+1)
    omega
   ·rw [List.all_append,<- hall]
    show (_&&(A.lvB&&(B.lvB&&(C.lvB&&true))))=(_&&(A.lvB&&(B.lvB&&C.lvB)))
    rw [Bool.and_true]
   ·rw [cm]
    show fsz fs'+ (A.size+ (B.size+ (C.size+0)))<=15
    omega
  | bin op A B=>
   obtain ⟨a,u1,u2,rfl,ha0,r1,r2⟩:=hRg
   have ha:=sm4 _ _ ha0
   obtain ⟨ho,w1,w2⟩:=hwg
   have hz:A.size+B.size+1<=15:=hsg
   have hm':fsz fs'+ (A.size+B.size+1)<=15:=hm
   have hno:op≠"own":=fun z=>by rw [z]at ho;exact absurd ho (by decide +kernel)
   have hnn:op≠"num":=fun z=>by rw [z]at ho;exact absurd ho (by decide +kernel)
   have hnp:op≠"part":=fun z=>by rw [z]at ho;exact absurd ho (by decide +kernel)
   refine ⟨_,rfl,a,_,0,.str op,rfl,rfl,SqT.of ha,aT,rfl,false,(by rw [decide_eq_false fun z=>hno (V.str.inj z)]),aH ?_⟩
   by_cases ht:op="times"
   ·refine ⟨_,rfl,a,_,0,.str op,rfl,rfl,SqT.of ha,aT,rfl,true,(by rw [decide_eq_true (by rw [ht])]),aY ?_⟩
    refine ⟨_,rfl,a,_,2,u2,rfl,rfl,SqT.of ha,aB (j:=2) rfl,u2,B,rfl,r2.mono (aC sm4),w2,by omega,fun p6 ms H6 hp6 s6 g6 hml hms=>?_⟩
    have s06:=sm4.trans s6
    refine ⟨_,rfl,a,_,1,u1,rfl,rfl,SqT.of (s06 _ _ ha0),aB (j:=1) rfl,u1,A,rfl,r1.mono (aC s06),w1,by omega,fun p7 ns H7 hp7 s7 g7 hnl hns=>?_⟩
    refine ⟨p7,rfl,⟨_,SqL.of g7⟩,?_⟩
    refine bQ (by rw [List.length_map];omega) (ei ns) (dG g7) (dE g7) (eW g7) (fun _ n v=>v=.bl (decide (n∈B.prt))) (fun _ h=>h) ?_ ?_
    ·rintro n v' H8 k hn rfl s8 hk
     refine ⟨_,rfl,_,rfl,p6,_,rfl,.inl (SqL.of (s8 _ _ (s7 _ _ g6))),rfl,jb _,?_⟩
     refine (show k (.bl (inV (.int n) (ms.map V.int))) H8 from ?_)
     rw [gQ,show decide (n∈ms)=decide (n∈B.prt)from decide_eq_decide.mpr (hms n)]
     exact hk _ H8 (Same.refl _) rfl
    ·intro p8 zs H8 hp8 s8 g8 hz8
     have e4:=bf (g:=fun n=>V.bl (decide (n∈B.prt))) hz8
     have e5:zs=(ns.map fun n=>decide (n∈B.prt)).map V.bl:=by rw [e4,List.map_map];rfl
     have hb:(ns.map fun n=>decide (n∈B.prt)).any id=A.prt.any fun k=>decide (k∈B.prt):=by
      rw [List.any_map]
      exact tq hns
     rw [e5]at g8
     have en:cu (.bin op A B)= !(A.prt.any fun k=>decide (k∈B.prt)):=by
      show (!(decide (op="times")&&_))=_
      rw [decide_eq_true ht,Bool.true_and]
     have sX:Same H H8:=s06.trans (s7.trans s8)
     have gX:H8 pw=some (.lst ws'):=s8 _ _ (s7 _ _ (s6 _ _ gw4))
     refine ⟨p8,_,rfl,.inl (SqL.of g8),rfl,jc,_,rfl,?_⟩
     refine (show if inV (.bl true) ((ns.map fun n=>decide (n∈B.prt)).map V.bl)=true then _ else _ from ?_)
     rw [oV,hb]
     cases hc:(A.prt.any fun k=>decide (k∈B.prt))with
     | true=>
      rw [hc]at en
      refine aY (fb H8 sX ?_)
      show (cu (.bin op A B)&&_)=false
      rw [en]
      rfl
     | false=>
      rw [hc]at en
      have hnb:cu (.bin op A B)=true:=en
      refine aH ?_
      clear g8 e5 e4 hz8 hb
      generalize H8=HX at sX gX ⊢
      refine ⟨_,rfl,a,_,0,.str op,rfl,rfl,SqT.of (sX _ _ ha0),aT,rfl,true,(by rw [decide_eq_false fun z=>hnn (V.str.inj z)];rfl),aY ?_⟩
      refine ⟨_,rfl,a,_,0,.str op,rfl,rfl,SqT.of (sX _ _ ha0),aT,rfl,true,(by rw [decide_eq_false fun z=>hnp (V.str.inj z)];rfl),aY ?_⟩
      refine ⟨_,rfl,.inl ⟨rfl,_,SqL.of gX⟩,_,rfl,1,rfl,a,_,rfl,SqT.of (sX _ _ ha0),de _ _,fun p5 h5=>?_⟩
      rw [kz]
      have s5:=ai h5 (.tup [u1,u2])
      have g5:(upd HX p5 (.tup [u1,u2])) p5=some (.tup [u1,u2]):=ac
      generalize upd HX p5 (.tup [u1,u2])=H5 at s5 g5 ⊢
      have gw5:=s5 _ _ gX
      refine ⟨pw,p5,ws',[u1,u2],rfl,rfl,gw5,SqT.of g5,Nat.le_of_lt (aF (by show ws'.length+2<=1000;omega)),?_⟩
      have sm5:Same H (upd H5 pw (.lst (ws'++[u1,u2]))):=fun c oo h=>by rw [am (aj h hpw)];exact s5 _ _ (sX c oo h)
      refine ⟨fsz (fs'++[A,B]),?_,ws'++[u1,u2],fs'++[A,B],_,_,rfl,ac,sm5,Paired.app hP' (.cons ⟨r1,w1,by omega⟩ (.cons ⟨r2,w2,by omega⟩ .nil)),?_,rfl,?_⟩
      ·rw [cm]
       show fsz fs'+ (A.size+ (B.size+0)) <fsz fs'+ (A.size+B.size+1)
       omega
      ·rw [List.all_append,<- hall]
       show (_&&(A.lvB&&(B.lvB&&true)))=(_&&(cu (.bin op A B)&&(A.lvB&&B.lvB)))
       rw [Bool.and_true,hnb,Bool.true_and]
      ·rw [cm]
       show fsz fs'+ (A.size+ (B.size+0))<=15
       omega
   ·have hnb:cu (.bin op A B)=true:=by
     show (!(decide (op="times")&&_))=true
     rw [decide_eq_false ht]
     rfl
    refine ⟨_,rfl,a,_,0,.str op,rfl,rfl,SqT.of ha,aT,rfl,false,(by rw [decide_eq_false fun z=>ht (V.str.inj z)]),aH ?_⟩
    have sX:=sm4
    have gX:=gw4
    generalize H4=HX at sX gX ⊢
    refine ⟨_,rfl,a,_,0,.str op,rfl,rfl,SqT.of (sX _ _ ha0),aT,rfl,true,(by rw [decide_eq_false fun z=>hnn (V.str.inj z)];rfl),aY ?_⟩
    refine ⟨_,rfl,a,_,0,.str op,rfl,rfl,SqT.of (sX _ _ ha0),aT,rfl,true,(by rw [decide_eq_false fun z=>hnp (V.str.inj z)];rfl),aY ?_⟩
    refine ⟨_,rfl,.inl ⟨rfl,_,SqL.of gX⟩,_,rfl,1,rfl,a,_,rfl,SqT.of (sX _ _ ha0),de _ _,fun p5 h5=>?_⟩
    rw [kz]
    have s5:=ai h5 (.tup [u1,u2])
    have g5:(upd HX p5 (.tup [u1,u2])) p5=some (.tup [u1,u2]):=ac
    generalize upd HX p5 (.tup [u1,u2])=H5 at s5 g5 ⊢
    have gw5:=s5 _ _ gX
    refine ⟨pw,p5,ws',[u1,u2],rfl,rfl,gw5,SqT.of g5,Nat.le_of_lt (aF (by show ws'.length+2<=1000;omega)),?_⟩
    have sm5:Same H (upd H5 pw (.lst (ws'++[u1,u2]))):=fun c oo h=>by rw [am (aj h hpw)];exact s5 _ _ (sX c oo h)
    refine ⟨fsz (fs'++[A,B]),?_,ws'++[u1,u2],fs'++[A,B],_,_,rfl,ac,sm5,Paired.app hP' (.cons ⟨r1,w1,by omega⟩ (.cons ⟨r2,w2,by omega⟩ .nil)),?_,rfl,?_⟩
    ·rw [cm]
     show fsz fs'+ (A.size+ (B.size+0)) <fsz fs'+ (A.size+B.size+1)
     omega
    ·rw [List.all_append,<- hall]
     show (_&&(A.lvB&&(B.lvB&&true)))=(_&&(cu (.bin op A B)&&(A.lvB&&B.lvB)))
     rw [Bool.and_true,hnb,Bool.true_and]
    ·rw [cm]
     show fsz fs'+ (A.size+ (B.size+0))<=15
     omega
end My
namespace L2
open PySem PySem.Spec PyProof.Rows
noncomputable def rA (K:PySem.W.Frag):R2:=fun x y H Q=> ∃ a b xs,x=.ref a/\y=.ref b/\SqT K H a xs/\SqT K H b []/\Q (.bl (!xs.isEmpty)) H
theorem nE {X:Cx} (hu:X.A.units<cLine):OpR X (compareOp .NotEq) (rA X.K):=by
 intro pins s σ H x y v u Q I rx ry h
 obtain ⟨a,b,xs,rfl,rfl,ha,hb,q⟩:=h
 cases rx
 cases ry
 obtain ⟨its,r,pl,_⟩:=I.tuple ha
 obtain ⟨its2,r2,pl2,_⟩:=I.tuple hb
 cases r2
 refine SeqAt.RcNeAt.tuples (e:=fun _=>true) pl pl2 hu (fun j _ h2=>absurd h2 (Nat.not_lt_zero _)) X.prog X.w X.xe _ ⟨V.bl _,H,I,?_,q⟩
 cases r with
 | nil=>rfl
 | cons r1 t=>simp [RelV]
noncomputable def wW:List V->Hp->VK->Prop:=fun xs H Q=> ∃ x p b,xs=[x,.ref p]/\H p=some (.tup [.ty "tuple",.ty "list"])/\(TL H x b\/(x=.non/\b=false))/\Q (.bl b) H
theorem oh {X:Cx}:cU X (.builtin "isinstance") wW:=by
 intro pins s σ H xs us Q I r h
 obtain ⟨x,p,b,e,hp,ty,q⟩:=h
 rcases ty with ty | ⟨rfl,rfl⟩
 ·exact qC pins s σ H xs us Q I r ⟨x,p,b,e,hp,ty,q⟩
 subst e
 obtain ⟨u,w',rfl,rx,rp⟩:=il r
 cases (show w'=Value.ref p from rp)
 obtain ⟨_,its,rv,o,h1,h2,n,h3⟩:=(show ObjOk X.prog X.w H s.heap p (.tup [.ty "tuple",.ty "list"])from I.hok p _ hp)
 obtain ⟨u1,u2,rfl,r1,r2⟩:=il rv
 cases (show u1=Value.type "tuple" from r1)
 cases (show u2=Value.type "list" from r2)
 obtain ⟨c,d,dt,sl⟩:=o
 simp only at h2 h3
 subst h2 h3
 have k: ∀ tk,EP X pins σ Q (.bool false) {s with toks:=tk}:=fun tk=>⟨.bl false,H,I.tok tk,rfl,q⟩
 cases (show u=Value.none from rx)
 exact PySem.W.kia_tup PySem.W.kitx_none I.kIn True.intro h1 (gc _ "NoneType" (by simp)) (fun z=>nomatch z) k
end L2
namespace My
open PySem L2
noncomputable def ow:Sp:=fun vs H Q _=> ∃ v:V,vs=[v,v]/\(v=.non\/ ∃ x:Str,v=.str x/\x.length<=1000)/\ ∀ H',Same H H'->Q (.bl true) H'
noncomputable def gD:Sp:=fun vs H Q _=> ∃ x:Str,vs=[.str x]/\a5 x=true/\ ∀ H',Same H H'->Q (.bl true) H'
theorem uw:((List.range 26).all fun i=> !(Builtin.Str.occurrences letters (⟨#[97+i]⟩:Str) 0 letters.length 1).isEmpty)=true:=by decide +kernel
theorem sM {c:Nat} (h:eC c=true):(!(Builtin.Str.occurrences letters (⟨#[c]⟩:Str) 0 letters.length 1).isEmpty)=true:=by
 have h:97<=c/\c<=122:=of_decide_eq_true h
 have a:=List.all_eq_true.mp uw (c-97) (List.mem_range.mpr (by omega))
 rw [show 97+ (c-97)=c by omega]at a
 exact a
theorem l9: ∀ n:Nat,inV (.bl false) ((List.replicate n true).map V.bl)=false
 | 0=>rfl
 | n+1=>by
  have e:inV (.bl false) ((List.replicate (n+1) true).map V.bl)=(eqV (.bl true) (.bl false)||inV (.bl false) ((List.replicate n true).map V.bl)):=rfl
  rw [e,l9 n]
  rfl
theorem rN (F:Fun K "_law_same" "_law_same" rc f fd) (G:Gb mg) (hlist:mg "list"=none):FnOk P w K mg base CX0 1 f fd ["found","due"] ow:=by
 refine F.ok uT (fun vs H Q E h=>?_) (fun cdv A outer s H vs Q E hr h=>?_)
 ·obtain ⟨v,rfl,_⟩:=h
  rfl
 obtain ⟨v,rfl,hv,q⟩:=h
 refine ⟨_,ad (aK (aN (ao oh rfl G.isi (by decide +kernel) (aa (pv 1) (aa (aS (aa (bw (v:=.ty "tuple") rfl G.tuple (by decide +kernel) rfl) (aa (bw (v:=.ty "list") rfl hlist (by decide +kernel) rfl) ab))) ab)))) aM ax)
  (ad (aK (az nF (pv 1) gL (aE _)) (ah (au (bm nF (pv 0) gL (aE _)))) ax)
  (ad (aK (aN (ao bq rfl G.isi (by decide +kernel) (aa (pv 1) (aa (bw (v:=.ty "bool") rfl G.bool (by decide +kernel) rfl) ab)))) aM ax)
  (ad (aK (aN (ao bq rfl G.isi (by decide +kernel) (aa (pv 1) (aa (bw (v:=.ty "str") rfl G.str (by decide +kernel) rfl) ab))))
   (ah (au (ck (ao bq rfl G.isi (by decide +kernel) (aa (pv 0) (aa (bw (v:=.ty "str") rfl G.str (by decide +kernel) rfl) ab))) (cB (bm aZ (pv 0) (pv 1) (aE _)))))) ax)
  aM))),?_⟩
 refine ⟨_,rfl,(by show 2<=sizeLine;decide),fun p0 h0=>?_⟩
 have s0:=ai h0 (.tup [.ty "tuple",.ty "list"])
 have g0:(upd H p0 (.tup [.ty "tuple",.ty "list"])) p0=some (.tup [.ty "tuple",.ty "list"]):=ac
 generalize upd H p0 (.tup [.ty "tuple",.ty "list"])=H0 at s0 g0 ⊢
 rcases hv with rfl | ⟨x,rfl,hx⟩
 ·refine ⟨_,p0,false,rfl,g0,.inr ⟨rfl,rfl⟩,_,rfl,?_⟩
  refine aH ⟨_,rfl,rfl,_,rfl,?_⟩
  rw [decide_eq_true rfl]
  refine aY ⟨_,rfl,rfl,?_⟩
  exact qb (q H0 s0) (decide_eq_true rfl).symm
 ·refine ⟨_,p0,false,rfl,g0,.inl (.str x),_,rfl,?_⟩
  refine aH ⟨_,rfl,rfl,_,rfl,?_⟩
  rw [show decide (V.str x=V.non)=false from decide_eq_false fun e=>nomatch e]
  refine aH ⟨_,rfl,_,"bool",rfl,hx,by simp,_,rfl,?_⟩
  rw [show isV "bool" H0 (V.str x)=false from rfl]
  refine aH ⟨_,rfl,_,"str",rfl,hx,by simp,_,rfl,?_⟩
  rw [show isV "str" H0 (V.str x)=true from rfl]
  refine aY ⟨_,rfl,_,"str",rfl,hx,by simp,_,rfl,?_⟩
  rw [show isV "str" H0 (V.str x)=true from rfl]
  refine aY ⟨_,rfl,_,rfl,rfl,?_⟩
  rw [decide_eq_true rfl]
  exact q H0 s0
theorem pJ:ay ["thing"] ["thing"] (ag fS):=fsc
theorem nM (F:Fun K "_law_is_word" "_law_is_word" fS f fd) (G:Gb mg):FnOk P w K mg base CX0 1 f fd ["thing"] gD:=by
 refine F.ok pJ (fun vs H Q E h=>?_) (fun cdv A outer s H vs Q E hr h=>?_)
 ·obtain ⟨v,rfl,_⟩:=h
  rfl
 obtain ⟨z,rfl,hw,q⟩:=h
 refine ⟨_,ad (aK (PW.pt (cY (aV (aN (ao bq rfl G.isi (by decide +kernel) (aa (pv 0) (aa (bw (v:=.ty "str") rfl G.str (by decide +kernel) rfl) ab)))))
   (cA (aV (iK ft ft ae (ao gj rfl G.len PySem.boot_len (aa (pv 0) ab)) ae))))) aM ax)
  (ah (au (bm (r:=rIn K true) fX cj (a9 (sc0:=ag fS) (N0:=["thing"]) (ys:=[]) (fr:=[]) rfl (rE (pv 0)) rfl rfl
   cok (fun C s H ex=>bm pT (pv 0) aG (by with_unfolding_all rfl))) (by with_unfolding_all rfl)))),?_⟩
 have hsz:=a7 hw
 have hz:z.length<=sizeLine:=Nat.le_of_lt (aF hsz)
 obtain ⟨⟨h1,h8⟩,hall⟩:(1<=z.length/\z.length<=8)/\z.cps.toList.all eC=true:=by
  unfold a5 at hw
  rw [Bool.and_eq_true,Bool.and_eq_true]at hw
  exact ⟨⟨of_decide_eq_true hw.1.1,of_decide_eq_true hw.1.2⟩,hw.2⟩
 refine ⟨_,rfl,.str z,"str",rfl,hsz,by simp,_,rfl,?_⟩
 rw [show isV "str" H (V.str z)=true from rfl]
 refine aH ⟨_,rfl,z,rfl,hz,1,_,rfl,rfl,_,rfl,?_⟩
 rw [decide_eq_true (show (1:Int)<=(z.length:Int) by omega)]
 refine aY ⟨_,8,rfl,rfl,_,rfl,?_⟩
 rw [decide_eq_true (show (z.length:Int)<=8 by omega)]
 refine aH ⟨_,rfl,z,rfl,?_⟩
 refine dX (n:=z.length) (R:=fun i v=> ∃ c,z.cps[i]? =some c/\v=.str ⟨#[c]⟩) (by omega) sJ l8 oR
  (fun p i zs H'=>H'=upd H p (.lst zs)/\zs=(List.replicate i true).map V.bl) (fun p hp=>⟨rfl,rfl⟩) ?_ ?_ ?_
 ·rintro p i zs H' ⟨rfl,rfl⟩
  exact ⟨ac,by rw [List.length_map,List.length_replicate]⟩
 ·rintro p i zs H' v k hp hi ⟨ch,hc,rfl⟩ ⟨rfl,rfl⟩ hk
  have hl:eC ch=true:=List.all_eq_true.mp hall ch (by
   have:z.cps.toList[i]? =some ch:=by rw [Array.getElem?_toList];exact hc
   exact List.mem_of_getElem? this)
  refine ⟨_,rfl,_,letters,rfl,rfl,?_⟩
  rw [sM hl]
  refine hk _ _ ac ⟨by rw [c6],?_⟩
  rw [List.replicate_succ',List.map_append]
  rfl
 ·rintro p zs H' hp ⟨rfl,rfl⟩
  refine ⟨p,_,rfl,.inl (SqL.of ac),rfl,jc,?_⟩
  refine (show Q (.bl (!inV (.bl false) ((List.replicate z.length true).map V.bl))) _ from ?_)
  rw [l9]
  exact q _ (ai hp _)
noncomputable abbrev NLi:List Str:=["book","sort","form","at","word","formula"]
theorem scLvIs:ay NLi ["book"] (ag re):=fsc
theorem ud (F:Fun K "_law_level_is" "_law_level_is" re f fd)
  (GL:FnOk P w K mg base CX0 3 f2 fd2 ["formula"] fQ) (bL:Binds K fd2 ["formula"] []) (kL:PySem.W.keepIn K (.ref f2)=true) (mL:mg "_law_level_formula_is"=some (.ref f2)):
  FnOk P w K mg base CX0 4 f fd ["book"] fc:=by
 refine F.ok scLvIs (fun vs H Q E h=>?_) (fun cdv A outer s H vs Q E hr h=>?_)
 ·obtain ⟨bv,bk,rfl,_⟩:=h
  rfl
 obtain ⟨bv,bk,rfl,hB,hok,hdn,q⟩:=h
 have hu0:=hr.units0
 refine ⟨_,ad (cf PassesOwn.never rfl (a8 (av aq (pv 0) ae (fun _ _=>rfl))) (aO (i:=1) scLvIs.nd rfl (Or.inl rfl))
   (ah (aK (az (r:=rA K) (nE hu0) (av aq (pv 1) ae (fun _ _=>rfl)) (aS ab) (aE _)) aM ax)))
  (ad (cf PassesOwn.never rfl (a8 (av aq (pv 0) ae (fun _ _=>rfl))) (aO (i:=2) scLvIs.nd rfl (Or.inl rfl))
   (ah (cf PassesOwn.never rfl (a8 (av aq (pv 2) ae (fun _ _=>rfl))) (gK rfl (bc (aO (i:=3) scLvIs.nd rfl (Or.inl rfl)) (bc (aO (i:=4) scLvIs.nd rfl (Or.inl rfl)) (bc (aO (i:=5) scLvIs.nd rfl (Or.inl rfl)) fh))))
    (ah (aK (aV (aN (af GL hr rfl mL kL bL .nil al (aa (pv 5) ab)))) (ah (au cj)) ax)))))
  (ah (au cj))),?_⟩
 obtain ⟨b,sa,fa,fv,rfl,hb,⟨sx,hsa,hSs⟩,hfa,hF⟩:=id hB
 have lS:bk.sorts.length=sx.length:=hSs.len
 have lF:=hF.len
 refine ⟨_,rfl,b,_,1,.ref sa,rfl,rfl,SqT.of hb,aB (j:=1) rfl,sa,rfl,⟨sx,SqT.of hsa⟩,?_⟩
 refine c8 (xs:=sx) (fun i σ H'=> ∃ o1,σ=[some (.ref b),o1,none,none,none,none]/\Same H H') ⟨none,rfl,Same.refl _⟩ (fun i σ H' _ ⟨_,_,s'⟩=>SqT.of (s' _ _ hsa)) ?_ ?_
 ·rintro i x σ H1 hx ⟨o1,rfl,s1⟩
  obtain ⟨sr,hsr,a,b',c,rfl,ha,hb',hc⟩:=aL hSs hx
  refine ⟨_,rfl,a,_,1,.ref b',rfl,rfl,SqT.of (s1 _ _ ha),aB (j:=1) rfl,(by show 0<=sizeLine;decide),fun p hp=>?_⟩
  have s2:=ai hp (.tup [])
  have g2:(upd H1 p (.tup [])) p=some (.tup []):=ac
  generalize upd H1 p (.tup [])=H2 at s2 g2 ⊢
  refine ⟨b',p,_,rfl,rfl,SqT.of (s2 _ _ (s1 _ _ hb')),SqT.of g2,_,rfl,?_⟩
  rw [hdn sr (List.mem_of_getElem? hsr)]
  exact aH ⟨_,rfl,s1.trans s2⟩
 ·rintro σ H1 ⟨o1,rfl,s1⟩
  refine ⟨_,rfl,b,_,2,.ref fa,rfl,rfl,SqT.of (s1 _ _ hb),aB (j:=2) rfl,fa,rfl,⟨fv,SqT.of (s1 _ _ hfa)⟩,?_⟩
  refine c8 (xs:=fv) (fun i σ H'=> ∃ o2 o3 o4 o5,σ=[some (.ref b),o1,o2,o3,o4,o5]/\Same H1 H'/\(bk.forms.take i).all Frm.lvB=true) ⟨none,none,none,none,rfl,Same.refl _,rfl⟩ (fun i σ H' _ ⟨_,_,_,_,_,s',_⟩=>SqT.of (s' _ _ (s1 _ _ hfa))) ?_ ?_
  ·rintro i x σ H2 hx ⟨o2,o3,o4,o5,rfl,s2,ht⟩
   obtain ⟨fr,hfr,a,pa,ra,rv,rfl,ha,hpa,hra,hRr⟩:=aL hF hx
   have hfm:=List.mem_of_getElem? hfr
   obtain ⟨_,_,_,_,hwz⟩:=hok.s.fo fr hfm
   have S2:=s1.trans s2
   have lR:=hRr.len
   refine ⟨_,rfl,a,_,3,.ref ra,rfl,rfl,SqT.of (S2 _ _ ha),aB (j:=3) rfl,ra,rfl,⟨rv,SqT.of (S2 _ _ hra)⟩,?_⟩
   refine c8 (xs:=rv) (fun j σ H'=> ∃ o3 o4 o5,σ=[some (.ref b),o1,some (.ref a),o3,o4,o5]/\Same H2 H'/\(fr.rules.take j).all (fun r=>r.fm.lvB)=true) ⟨_,_,_,rfl,Same.refl _,rfl⟩ (fun j σ H' _ ⟨_,_,_,_,s',_⟩=>SqT.of (s' _ _ (S2 _ _ hra))) ?_ ?_
   ·rintro j y σ H3 hy ⟨o3,o4,o5,rfl,s3,ht3⟩
    obtain ⟨r,hr',ar,u,rfl,har,hRu⟩:=aL hRr hy
    have S3:=S2.trans s3
    have hrm:=List.mem_of_getElem? hr'
    refine ⟨ar,_,rfl,SqT.of (S3 _ _ har),rfl,_,_,rfl,_,_,rfl,_,_,rfl,rfl,?_⟩
    refine ⟨_,rfl,u,r.fm,rfl,hRu.mono (aC S3),(hwz r hrm).1,(hwz r hrm).2,fun H4 s4=>⟨_,rfl,?_⟩⟩
    cases hc:r.fm.lvB with
    | true=>
     refine aH ⟨_,_,_,rfl,s3.trans s4,?_⟩
     rw [List.take_add_one,hr',List.all_append,ht3,Bool.true_and]
     show (r.fm.lvB&&true)=true
     rw [hc]
     rfl
    | false=>
     refine aY ?_
     have:=q H4 (S3.trans s4)
     rw [show bk.lvB=false from List.all_eq_false.mpr ⟨fr,hfm,by
      rw [show fr.lvB=false from List.all_eq_false.mpr ⟨r,hrm,by rw [hc];exact Bool.false_ne_true⟩]
      exact Bool.false_ne_true⟩]at this
     exact this
   ·rintro σ H3 ⟨o3,o4,o5,rfl,s3,ht3⟩
    rw [<- lR,List.take_length]at ht3
    refine ⟨_,_,_,_,rfl,s2.trans s3,?_⟩
    rw [List.take_add_one,hfr,List.all_append,ht,Bool.true_and]
    show (fr.lvB&&true)=true
    rw [show fr.lvB=true from ht3]
    rfl
  ·rintro σ H2 ⟨o2,o3,o4,o5,rfl,s2,ht⟩
   rw [<- lF,List.take_length]at ht
   have:=q H2 (s1.trans s2)
   rw [show bk.lvB=true from ht]at this
   exact this
theorem dF {i j:Int} (h:i≠j):V.bl (decide (V.int i=V.int j))=V.bl false:=by rw [decide_eq_false fun e=>h (V.int.inj e)]
theorem dT (i:Int):V.bl (decide (V.int i=V.int i))=V.bl true:=by rw [decide_eq_true rfl]
noncomputable def dg (n:Nat):Sp:=fun vs H Q _=> ∃ v fm,vs=[v]/\Rep H fm v/\Fm.wf fm/\fm.size<=n/\ ∀ H',Same H H'->Q (.int (fm.size:Int)) H'
theorem gP (x:Str): ∀ {xs:List Str},inV (.str x) (xs.map V.str)=decide (x∈xs)
 | []=>(decide_eq_false (by simp)).symm
 | b::r=>by
  have e:inV (.str x) ((b::r).map V.str)=(eqV (.str b) (.str x)||inV (.str x) (r.map V.str)):=rfl
  rw [e,gP x (xs:=r)]
  by_cases h:b=x
  ·rw [decide_eq_true (show x∈b::r by rw [h];exact List.mem_cons_self)]
   simp [eqV,h]
  ·have:(x∈b::r)↔x∈r:=by rw [List.mem_cons];exact ⟨fun z=>z.elim (fun e=>absurd e.symm h) id,.inr⟩
   rw [show decide (x∈b::r)=decide (x∈r)from decide_eq_decide.mpr this]
   have:(b==x)=false:=by
    cases hh:(b==x)with
    | false=>rfl
    | true=>exact absurd (eq_of_beq hh) h
   simp [eqV,this]
theorem fK: ∀ {xs:List Str},(xs.map V.str).all eB=true
 | []=>rfl
 | b::r=>by rw [List.map_cons,List.all_cons,fK (xs:=r)];rfl
noncomputable abbrev NTu:List Str:=["thing","due"]
theorem scLTup:ay NTu ["thing"] (ag eL):=fsc
theorem rS {n:Nat} (F:Fun K "_law_tuples" "_law_tuples" eL f fd) (G:Gb mg) (habs:mg "abs"=none) (hsum:mg "sum"=none)
  (GS:FnOk P w K mg base CX0 (n+2) f fd ["thing"] (dg n)) (bS:Binds K fd ["thing"] []) (mS:mg "_law_tuples"=some (.ref f))
  (GW:FnOk P w K mg base CX0 1 f2 fd2 ["found"] eY) (bW:Binds K fd2 ["found"] []) (kW:PySem.W.keepIn K (.ref f2)=true) (mW:mg "_law_whole"=some (.ref f2))
  (GX:FnOk P w K mg base CX0 1 f3 fd3 ["thing"] gD) (bX:Binds K fd3 ["thing"] []) (kX:PySem.W.keepIn K (.ref f3)=true) (mX:mg "_law_is_word"=some (.ref f3)):
  FnOk P w K mg base CX0 (n+3) f fd ["thing"] (dg (n+1)):=by
 refine F.ok scLTup (fun vs H Q E h=>?_) (fun cdv A outer s H vs Q E hr h=>?_)
 ·obtain ⟨v,fm,rfl,_⟩:=h
  rfl
 obtain ⟨v,fm,rfl,hR,hwf,hsz,q⟩:=h
 have hr1:=hr.mono (show 1<=n+2 by omega)
 refine ⟨_,ad (aK (PW.pt (cY (aV (aN (ao bq rfl G.isi (by decide +kernel) (aa (pv 0) (aa (bw (v:=.ty "tuple") rfl G.tuple (by decide +kernel) rfl) ab)))))
   (cA (az aZ (ao aA rfl G.len PySem.boot_len (aa (pv 0) ab)) ae (aE _))))) aM ax)
  (ad (aK (PW.pt (di (az aZ (ao aA rfl G.len PySem.boot_len (aa (pv 0) ab)) ae (aE _)) (cR (az aZ (av aq (pv 0) ae (fun _ _=>rfl)) aG (aE _)))))
   (ah (au (dl (PW.pt (di (aN (af GW hr1 rfl mW kW bW .nil al (aa (av aq (pv 0) ae (fun _ _=>rfl)) ab))) (cR (az hV (ao tm rfl habs (by decide +kernel) (aa (av aq (pv 0) ae (fun _ _=>rfl)) ab)) ae (aE _))))) ae ae))) ax)
  (ad (aK (PW.pt (di (az aZ (ao aA rfl G.len PySem.boot_len (aa (pv 0) ab)) ae (aE _)) (cR (az aZ (av aq (pv 0) ae (fun _ _=>rfl)) aG (aE _)))))
   (ah (au (dl (aN (af GX hr1 rfl mX kX bX .nil al (aa (av aq (pv 0) ae (fun _ _=>rfl)) ab))) ae ae))) ax)
  (ad (aK (PW.pt (di (az aZ (ao aA rfl G.len PySem.boot_len (aa (pv 0) ab)) ae (aE _)) (cR (az aZ (av aq (pv 0) ae (fun _ _=>rfl)) aG (aE _)))))
   (ah (au (dl (PW.pt (di (aN (af GW hr1 rfl mW kW bW .nil al (aa (av aq (pv 0) ae (fun _ _=>rfl)) ab))) (di (iK ft ft ae (av aq (pv 0) ae (fun _ _=>rfl)) ae) (cR (aN (af GX hr1 rfl mX kX bX .nil al (aa (av aq (pv 0) ae (fun _ _=>rfl)) ab))))))) ae ae))) ax)
  (ad (aw (i:=1) scLTup.nd rfl (Or.inl rfl) ae)
  (ad (aK (az cN (av aq (pv 0) ae (fun _ _=>rfl)) (aS (pac aG (pac aG (pac aG (pac aG (pac aG ab)))))) (by with_unfolding_all rfl)) (ah (aw (i:=1) scLTup.nd rfl (Or.inl rfl) ae)) ax)
  (ad (aK (az aZ (av aq (pv 0) ae (fun _ _=>rfl)) aG (aE _)) (ah (aw (i:=1) scLTup.nd rfl (Or.inl rfl) ae)) ax)
  (ad (aK (az iS (ao aA rfl G.len PySem.boot_len (aa (pv 0) ab)) (pv 1) (aE _)) aM ax)
  (ah (au (aJ bi ae (ao (qA rfl) rfl hsum (by decide +kernel) (aa (a9 (sc0:=ag eL) (N0:=NTu) (ys:=[]) (fr:=[]) rfl (a8 (bh gE (pv 0) (bZ ae) ca)) rfl rfl
    cok (fun C s H ex=>af GS hr rfl mS F.kp bS .nil al (aa (pv 0) ab))) ab)))))))))))),?_⟩
 have isT: ∀ {a:Addr} {xs:List V},H a=some (.tup xs)->isV "tuple" H (.ref a)=true:=fun h=>iY h
 cases fm with
 | num m=>
  obtain ⟨a,rfl,ha⟩:=hR
  refine ⟨_,rfl,.ref a,"tuple",rfl,.inr (.inl ⟨_,ha⟩),by simp,_,rfl,?_⟩
  rw [isT ha]
  refine aH ⟨_,rfl,a,_,rfl,.inr (SqT.of ha),rfl,false,(dF (i:=2) (j:=0) (by decide)),aH ?_⟩
  refine ⟨_,rfl,a,_,rfl,.inr (SqT.of ha),rfl,true,dT 2,aY ⟨_,rfl,a,_,0,_,rfl,rfl,SqT.of ha,aT,rfl,true,(by rw [decide_eq_true rfl]),aY ?_⟩⟩
  have hwf: -999999<=m/\m<=999999:=hwf
  refine ⟨_,rfl,a,_,1,.int m,rfl,rfl,SqT.of ha,aB (j:=1) rfl,_,rfl,True.intro,true,rfl,aY ?_⟩
  refine ⟨_,rfl,a,_,1,.int m,rfl,rfl,SqT.of ha,aB (j:=1) rfl,m,rfl,_,_,rfl,rfl,true,(show V.bl (decide ((if m<0 then -m else m) <1000000))=V.bl true by rw [decide_eq_true (by split <;> omega)]),aY ?_⟩
  exact q H (Same.refl _)
 | own x=>
  obtain ⟨a,rfl,ha⟩:=hR
  refine ⟨_,rfl,.ref a,"tuple",rfl,.inr (.inl ⟨_,ha⟩),by simp,_,rfl,?_⟩
  rw [isT ha]
  refine aH ⟨_,rfl,a,_,rfl,.inr (SqT.of ha),rfl,false,(dF (i:=2) (j:=0) (by decide)),aH ?_⟩
  refine ⟨_,rfl,a,_,rfl,.inr (SqT.of ha),rfl,true,dT 2,aY ⟨_,rfl,a,_,0,_,rfl,rfl,SqT.of ha,aT,rfl,false,(by rw [decide_eq_false (by decide +kernel)]),aH ?_⟩⟩
  refine ⟨_,rfl,a,_,rfl,.inr (SqT.of ha),rfl,true,dT 2,aY ⟨_,rfl,a,_,0,_,rfl,rfl,SqT.of ha,aT,rfl,true,(by rw [decide_eq_true rfl]),aY ?_⟩⟩
  refine ⟨_,rfl,a,_,1,.str x,rfl,rfl,SqT.of ha,aB (j:=1) rfl,x,rfl,hwf,fun H1 s1=>⟨true,rfl,aY ?_⟩⟩
  exact q H1 s1
 | part k x=>
  obtain ⟨a,rfl,ha⟩:=hR
  obtain ⟨⟨k0,k2⟩,hx⟩:(0<=k/\k<=2)/\a5 x=true:=hwf
  refine ⟨_,rfl,.ref a,"tuple",rfl,.inr (.inl ⟨_,ha⟩),by simp,_,rfl,?_⟩
  rw [isT ha]
  refine aH ⟨_,rfl,a,_,rfl,.inr (SqT.of ha),rfl,false,(dF (i:=3) (j:=0) (by decide)),aH ?_⟩
  refine ⟨_,rfl,a,_,rfl,.inr (SqT.of ha),rfl,false,(dF (i:=3) (j:=2) (by decide)),aH (aH ?_)⟩
  refine ⟨_,rfl,a,_,rfl,.inr (SqT.of ha),rfl,false,(dF (i:=3) (j:=2) (by decide)),aH (aH ?_)⟩
  refine ⟨_,rfl,a,_,rfl,.inr (SqT.of ha),rfl,true,dT 3,aY ⟨_,rfl,a,_,0,_,rfl,rfl,SqT.of ha,aT,rfl,true,(by rw [decide_eq_true rfl]),aY ?_⟩⟩
  refine ⟨_,rfl,a,_,1,.int k,rfl,rfl,SqT.of ha,aB (j:=1) rfl,_,rfl,True.intro,true,rfl,aY ?_⟩
  refine ⟨_,rfl,a,_,1,.int k,rfl,rfl,SqT.of ha,aB (j:=1) rfl,0,k,rfl,rfl,true,(show V.bl (decide (0<=k))=V.bl true by rw [decide_eq_true k0]),aY ⟨k,2,rfl,rfl,true,(show V.bl (decide (k<=2))=V.bl true by rw [decide_eq_true k2]),aY ?_⟩⟩
  refine ⟨_,rfl,a,_,2,.str x,rfl,rfl,SqT.of ha,aB (j:=2) rfl,x,rfl,hx,fun H1 s1=>⟨true,rfl,aY ?_⟩⟩
  exact q H1 s1
 | bin op X Y=>
  obtain ⟨a,u1,u2,rfl,ha,r1,r2⟩:=hR
  obtain ⟨ho,w1,w2⟩:op∈ops/\X.wf/\Y.wf:=hwf
  have hz:X.size+Y.size+1<=n+1:=hsz
  have hnp:op≠"part":=fun z=>by rw [z]at ho;exact absurd ho (by decide +kernel)
  have hnw:op≠"when":=fun z=>by rw [z]at ho;exact absurd ho (by decide +kernel)
  refine ⟨_,rfl,.ref a,"tuple",rfl,.inr (.inl ⟨_,ha⟩),by simp,_,rfl,?_⟩
  rw [isT ha]
  refine aH ⟨_,rfl,a,_,rfl,.inr (SqT.of ha),rfl,false,(dF (i:=3) (j:=0) (by decide)),aH ?_⟩
  refine ⟨_,rfl,a,_,rfl,.inr (SqT.of ha),rfl,false,(dF (i:=3) (j:=2) (by decide)),aH (aH ?_)⟩
  refine ⟨_,rfl,a,_,rfl,.inr (SqT.of ha),rfl,false,(dF (i:=3) (j:=2) (by decide)),aH (aH ?_)⟩
  refine ⟨_,rfl,a,_,rfl,.inr (SqT.of ha),rfl,true,dT 3,aY ⟨_,rfl,a,_,0,_,rfl,rfl,SqT.of ha,aT,rfl,false,(by rw [decide_eq_false fun z=>hnp (V.str.inj z)]),aH ?_⟩⟩
  refine ⟨_,rfl,a,_,0,.str op,rfl,rfl,SqT.of ha,aT,(by show 5<=sizeLine;decide),fun p1 h1=>?_⟩
  have s1:=ai h1 (.tup [.str "plus",.str "less",.str "times",.str "least",.str "most"])
  have g1:(upd H p1 (.tup [.str "plus",.str "less",.str "times",.str "least",.str "most"])) p1=some (.tup (ops.map V.str)):=ac
  generalize upd H p1 (.tup [.str "plus",.str "less",.str "times",.str "least",.str "most"])=HX at s1 g1 ⊢
  have sX:Same H HX:=s1
  refine ⟨p1,_,rfl,.inr (SqT.of g1),rfl,fK,_,rfl,?_⟩
  refine (show if inV (.str op) (ops.map V.str)=true then _ else _ from ?_)
  rw [gP,decide_eq_true ho]
  refine aY ?_
  refine ⟨_,rfl,a,_,0,.str op,rfl,rfl,SqT.of (sX _ _ ha),aT,rfl,false,(by rw [decide_eq_false fun z=>hnw (V.str.inj z)]),aH ?_⟩
  refine ⟨_,rfl,a,_,rfl,.inr (SqT.of (sX _ _ ha)),_,rfl,rfl,false,(show V.bl (!decide (V.int 3=V.int 3))=V.bl false by rw [decide_eq_true rfl];rfl),aH ?_⟩
  refine ⟨_,rfl,1,rfl,a,_,rfl,SqT.of (sX _ _ ha),de _ _,fun p5 h5=>?_⟩
  rw [kz]
  have s5:=ai h5 (.tup [u1,u2])
  have g5:(upd HX p5 (.tup [u1,u2])) p5=some (.tup [u1,u2]):=ac
  generalize upd HX p5 (.tup [u1,u2])=H5 at s5 g5 ⊢
  have S5:=sX.trans s5
  refine ⟨p5,rfl,⟨_,SqT.of g5⟩,?_⟩
  refine bQ (as:=[X,Y]) (A:=fun g v=>Rep H g v/\g.wf/\g.size<=n) (by show 2<=1000;decide) (.cons ⟨r1,w1,by omega⟩ (.cons ⟨r2,w2,by omega⟩ .nil)) (bz g5) (bx g5) (cv g5) (fun _ g v=>v=.int (g.size:Int)) (fun _ h=>h) ?_ ?_
  ·rintro g v' H6 k hg ⟨hRg,hwg,hsg⟩ s6 hk
   exact ⟨_,rfl,v',g,rfl,hRg.mono (aC (S5.trans s6)),hwg,hsg,fun H7 s7=>hk _ H7 s7 rfl⟩
  ·intro p7 zs H7 hp7 s7 g7 hz7
   have e7:=bf (g:=fun g:Fm=>V.int (g.size:Int)) hz7
   have e8:zs=([X,Y].map fun g=>(g.size:Int)).map V.int:=by rw [e7,List.map_map];rfl
   rw [e8]at g7
   refine ⟨p7,_,rfl,SqL.of g7,_,_,rfl,rfl,?_⟩
   have:=q H7 (S5.trans s7)
   rw [show (((Fm.bin op X Y).size:Nat):Int)=1+jL ([X,Y].map fun g=>(g.size:Int)) by show ((X.size+Y.size+1:Nat):Int)=1+ ((X.size:Int) + ((Y.size:Int) +0));omega]at this
   exact this
 | whn X Y Z=>
  obtain ⟨a,u1,u2,u3,rfl,ha,r1,r2,r3⟩:=hR
  obtain ⟨w1,w2,w3⟩:X.wf/\Y.wf/\Z.wf:=hwf
  have hz:X.size+Y.size+Z.size+1<=n+1:=hsz
  refine ⟨_,rfl,.ref a,"tuple",rfl,.inr (.inl ⟨_,ha⟩),by simp,_,rfl,?_⟩
  rw [isT ha]
  refine aH ⟨_,rfl,a,_,rfl,.inr (SqT.of ha),rfl,false,(dF (i:=4) (j:=0) (by decide)),aH ?_⟩
  refine ⟨_,rfl,a,_,rfl,.inr (SqT.of ha),rfl,false,(dF (i:=4) (j:=2) (by decide)),aH (aH ?_)⟩
  refine ⟨_,rfl,a,_,rfl,.inr (SqT.of ha),rfl,false,(dF (i:=4) (j:=2) (by decide)),aH (aH ?_)⟩
  refine ⟨_,rfl,a,_,rfl,.inr (SqT.of ha),rfl,false,(dF (i:=4) (j:=3) (by decide)),aH (aH ?_)⟩
  refine ⟨_,rfl,a,_,0,.str "when",rfl,rfl,SqT.of ha,aT,(by show 5<=sizeLine;decide),fun p1 h1=>?_⟩
  have s1:=ai h1 (.tup [.str "plus",.str "less",.str "times",.str "least",.str "most"])
  have g1:(upd H p1 (.tup [.str "plus",.str "less",.str "times",.str "least",.str "most"])) p1=some (.tup (ops.map V.str)):=ac
  generalize upd H p1 (.tup [.str "plus",.str "less",.str "times",.str "least",.str "most"])=HX at s1 g1 ⊢
  have sX:Same H HX:=s1
  refine ⟨p1,_,rfl,.inr (SqT.of g1),rfl,fK,_,rfl,?_⟩
  refine (show if inV (.str "when") (ops.map V.str)=true then _ else _ from ?_)
  rw [gP,decide_eq_false (by decide +kernel)]
  refine aH ?_
  refine ⟨_,rfl,a,_,0,.str "when",rfl,rfl,SqT.of (sX _ _ ha),aT,rfl,true,(by rw [decide_eq_true rfl]),aY ?_⟩
  refine ⟨_,rfl,a,_,rfl,.inr (SqT.of (sX _ _ ha)),_,rfl,rfl,false,(show V.bl (!decide (V.int 4=V.int 4))=V.bl false by rw [decide_eq_true rfl];rfl),aH ?_⟩
  refine ⟨_,rfl,1,rfl,a,_,rfl,SqT.of (sX _ _ ha),de _ _,fun p5 h5=>?_⟩
  rw [kz]
  have s5:=ai h5 (.tup [u1,u2,u3])
  have g5:(upd HX p5 (.tup [u1,u2,u3])) p5=some (.tup [u1,u2,u3]):=ac
  generalize upd HX p5 (.tup [u1,u2,u3])=H5 at s5 g5 ⊢
  have S5:=sX.trans s5
  refine ⟨p5,rfl,⟨_,SqT.of g5⟩,?_⟩
  refine bQ (as:=[X,Y,Z]) (A:=fun g v=>Rep H g v/\g.wf/\g.size<=n) (by show 3<=1000;decide) (.cons ⟨r1,w1,by omega⟩ (.cons ⟨r2,w2,by omega⟩ (.cons ⟨r3,w3,by omega⟩ .nil))) (bz g5) (bx g5) (cv g5) (fun _ g v=>v=.int (g.size:Int)) (fun _ h=>h) ?_ ?_
  ·rintro g v' H6 k hg ⟨hRg,hwg,hsg⟩ s6 hk
   exact ⟨_,rfl,v',g,rfl,hRg.mono (aC (S5.trans s6)),hwg,hsg,fun H7 s7=>hk _ H7 s7 rfl⟩
  ·intro p7 zs H7 hp7 s7 g7 hz7
   have e7:=bf (g:=fun g:Fm=>V.int (g.size:Int)) hz7
   have e8:zs=([X,Y,Z].map fun g=>(g.size:Int)).map V.int:=by rw [e7,List.map_map];rfl
   rw [e8]at g7
   refine ⟨p7,_,rfl,SqL.of g7,_,_,rfl,rfl,?_⟩
   have:=q H7 (S5.trans s7)
   rw [show (((Fm.whn X Y Z).size:Nat):Int)=1+jL ([X,Y,Z].map fun g=>(g.size:Int)) by show ((X.size+Y.size+Z.size+1:Nat):Int)=1+ ((X.size:Int) + ((Y.size:Int) + ((Z.size:Int) +0)));omega]at this
   exact this
theorem rT:FnOk P w K mg base CX0 2 f fd ["thing"] (dg 0):=by
 have no: ∀ vs H Q E,¬ dg 0 vs H Q E:=fun vs H Q E h=>by
  obtain ⟨v,fm,_,_,_,h,_⟩:=h
  have:=fm.size_pos
  omega
 exact ⟨fun vs H Q E h=>absurd h (no vs H Q E),fun A outer s H args us vs Q E _ _ _ _ h=>absurd h (no vs H Q E)⟩
theorem oJ (F:Fun K "_law_tuples" "_law_tuples" eL f fd) (G:Gb mg) (habs:mg "abs"=none) (hsum:mg "sum"=none) (bS:Binds K fd ["thing"] []) (mS:mg "_law_tuples"=some (.ref f))
  (GW:FnOk P w K mg base CX0 1 f2 fd2 ["found"] eY) (bW:Binds K fd2 ["found"] []) (kW:PySem.W.keepIn K (.ref f2)=true) (mW:mg "_law_whole"=some (.ref f2))
  (GX:FnOk P w K mg base CX0 1 f3 fd3 ["thing"] gD) (bX:Binds K fd3 ["thing"] []) (kX:PySem.W.keepIn K (.ref f3)=true) (mX:mg "_law_is_word"=some (.ref f3)): ∀ n:Nat,FnOk P w K mg base CX0 (n+2) f fd ["thing"] (dg n)
 | 0=>rT
 | n+1=>rS F G habs hsum (oJ F G habs hsum bS mS GW bW kW mW GX bX kX mX n) bS mS GW bW kW mW GX bX kX mX
noncomputable def qQ:Sp:=fun vs H Q _=> ∃ (tp:Addr) (bv fv:V) (fa:Addr) (bk:Bk) (fr:Frm) (fm:Fm),vs=[.ref tp,bv,fv,.ref fa]/\Tp H tp/\RepB H bk bv/\BkV bk/\(∀ s∈bk.sorts,1<=s.ups.length)/\RepF H fr (.ref fa)/\fr∈bk.forms/\Rep H fm fv/\fm.wfp (cx fr)/\fm.size<=15/\
 ∀ v g H',Rep H' g v->g.wfp (cx fr)->g.size<=15->Kp tp H H'->Tp H' tp->Q v H'
noncomputable def GmP (fr:Frm) (H:Hp) (g:Fm) (m:V):Prop:=Rep H g m/\g.wfp (cx fr)/\g.size<=22
theorem GmP.mono {fr:Frm} {H H':Hp} (t:TK H H') {g:Fm} {m:V} (h:GmP fr H g m):GmP fr H' g m:=⟨h.1.mono t,h.2⟩
noncomputable def LfP (fr:Frm) (H:Hp) (g:Fm) (m:V):Prop:=Rep H g m/\g.wfp (cx fr)/\g.size=1
theorem LfP.mono {fr:Frm} {H H':Hp} (t:TK H H') {g:Fm} {m:V} (h:LfP fr H g m):LfP fr H' g m:=⟨h.1.mono t,h.2⟩
noncomputable abbrev NMo:List Str:=["tape","book","formula","form","readings","k","sort","one","other","own","some","made"]
theorem scMore:ay NMo ["tape","book","formula","form"] (ag cI):=fsc
theorem vd {cdv:Value} {A:Around} {outer:List Env} {s:Shared} {H0:Hp} {E:XK}
  (GD:FnOk P w K mg base CX0 1 f2 fd2 ["tape","many"] bj) (bD:Binds K fd2 ["tape","many"] []) (kD:PySem.W.keepIn K (.ref f2)=true) (mD:mg "_law_digit"=some (.ref f2))
  (GT:FnOk P w K mg base CX0 24 f3 fd3 ["thing"] (dg 22)) (bT:Binds K fd3 ["thing"] []) (kT:PySem.W.keepIn K (.ref f3)=true) (mT:mg "_law_tuples"=some (.ref f3))
  (hr:Room 24 (dv CX0 P w K mg base NMo "_law_more" (ag cI) f cdv A outer s H0 E).nox.A):
  ∃ t,PSs (dv CX0 P w K mg base NMo "_law_more" (ag cI) f cdv A outer s H0 E).nox ((cs cI).drop 10) t/\
   ∀ (D:ev) (tp fa p:Addr) (bv fv u1 u2 u3:V) (o4 o5 o6 o10 o11:Option V) (fr:Frm) (fm g1 g2 g3:Fm) (ms:List V) (gs:List Fm) (H H5:Hp),Kp tp H H5->Tp H5 tp->Rep H5 fm fv->fm.wfp (cx fr)->fm.size<=15->LfP fr H5 g1 u1->LfP fr H5 g2 u2->LfP fr H5 g3 u3->H5 p=some (.lst ms)->Paired (GmP fr H5) gs ms->ms.length=8->
    (∀ v g H',Rep H' g v->g.wfp (cx fr)->g.size<=15->Kp tp H H'->Tp H' tp->D.rt v H')->
    t D [some (.ref tp),some bv,some fv,some (.ref fa),o4,o5,o6,some u1,some u2,some u3,some (.ref p),o11] H5:=by
 have hr1:=hr.mono (show 1<=24 by decide)
 refine ⟨_,ad (aw (i:=11) scMore.nd rfl (Or.inl rfl) (av bn (pv 10) (af GD hr1 rfl mD kD bD .nil al (aa (pv 0) (aa ae ab))) (fun _ _=>rfl)))
  (ad (aK (az rK (af GT hr rfl mT kT bT .nil al (aa (pv 11) ab)) ae (aE _)) (ah (au (pv 7))) ax)
  (ah (au (pv 11)))),?_⟩
 intro D tp fa p bv fv u1 u2 u3 o4 o5 o6 o10 o11 fr fm g1 g2 g3 ms gs H H5 k5 tt5 hR hwf hsz h1 h2 h3 gp hP hl q
 refine ⟨_,rfl,_,rfl,tp,8,rfl,tt5,by decide,by decide,fun d t hd0 hd1=>?_⟩
 have np:p≠tp:=fun z=>by
  obtain ⟨t,ht⟩:=tt5
  rw [z,ht]at gp
  cases gp
  cases hP with
  | cons a b=>cases b;cases hl
 have k6:Kp tp H5 (upd H5 tp (.lst [.int t])):=Kp.tape
 have tt6:Tp (upd H5 tp (.lst [.int t])) tp:=⟨t,ac⟩
 generalize upd H5 tp (.lst [.int t])=H6 at k6 tt6 ⊢
 have tk:=k6.tk tt5
 obtain ⟨m,em,em2⟩:=cW (xs:=ms) hd0 (by rw [hl];exact hd1)
 obtain ⟨g,hg,hRg,hwg,hsg⟩:=aL hP em2
 refine ⟨p,_,d,m,rfl,rfl,SqL.of (k6 _ _ gp np),em,?_⟩
 refine ⟨_,rfl,m,g,rfl,hRg.mono tk,hwg.wf,hsg,fun H7 s7=>⟨_,_,rfl,rfl,_,rfl,?_⟩⟩
 have k7:=(k5.trans k6).same s7
 have tt7:=tt6.same s7
 refine bo (fun c=>?_) (fun c=>?_)
 ·exact ⟨_,rfl,q u1 g1 H7 ((h1.1.mono tk).mono (aC s7)) h1.2.1 (by rw [h1.2.2];decide) k7 tt7⟩
 ·have c: ¬ ((g.size:Int) >15):=fun z=>c (decide_eq_true z)
  exact ⟨_,rfl,q m g H7 ((hRg.mono tk).mono (aC s7)) hwg (by omega) k7 tt7⟩
theorem wb {cdv:Value} {A:Around} {outer:List Env} {s:Shared} {H0:Hp} {E:XK}
  (GD:FnOk P w K mg base CX0 1 f2 fd2 ["tape","many"] bj) (bD:Binds K fd2 ["tape","many"] []) (kD:PySem.W.keepIn K (.ref f2)=true) (mD:mg "_law_digit"=some (.ref f2))
  (GT:FnOk P w K mg base CX0 24 f3 fd3 ["thing"] (dg 22)) (bT:Binds K fd3 ["thing"] []) (kT:PySem.W.keepIn K (.ref f3)=true) (mT:mg "_law_tuples"=some (.ref f3))
  (hr:Room 24 (dv CX0 P w K mg base NMo "_law_more" (ag cI) f cdv A outer s H0 E).nox.A):
  ∃ t,PSs (dv CX0 P w K mg base NMo "_law_more" (ag cI) f cdv A outer s H0 E).nox ((cs cI).drop 9) t/\
   ∀ (D:ev) (tp fa p:Addr) (bv fv u1 u2 u3:V) (o4 o5 o6 o10 o11:Option V) (fr:Frm) (fm g1 g2 g3:Fm) (ms:List V) (gs:List Fm) (H H5:Hp),Kp tp H H5->Tp H5 tp->Rep H5 fm fv->fm.wfp (cx fr)->fm.size<=15->LfP fr H5 g1 u1->LfP fr H5 g2 u2->LfP fr H5 g3 u3->H5 p=some (.lst ms)->Paired (GmP fr H5) gs ms->ms.length=6->
    (∀ v g H',Rep H' g v->g.wfp (cx fr)->g.size<=15->Kp tp H H'->Tp H' tp->D.rt v H')->
    t D [some (.ref tp),some bv,some fv,some (.ref fa),o4,o5,o6,some u1,some u2,some u3,some (.ref p),o11] H5:=by
 obtain ⟨t,ht,hnext⟩:=vd (f:=f) (cdv:=cdv) (A:=A) (outer:=outer) (s:=s) (H0:=H0) (E:=E) GD bD kD mD GT bT kT mT hr
 refine ⟨_,ad (aw (i:=10) scMore.nd rfl (Or.inl rfl) (aJ iU (pv 10) (bd (pac (aS (pac aG (pac (aS (pac aG (pac (pv 7) (pac (pv 8) ab)))) (pac (pv 2) (pac (pv 7) ab))))) (pac (aS (pac aG (pac (pv 9) (pac (pv 7) (pac (pv 2) ab))))) ab))))) ht,?_⟩
 intro D tp fa p bv fv u1 u2 u3 o4 o5 o6 o10 o11 fr fm g1 g2 g3 ms gs H H5 k5 tt5 hR hwf hsz h1 h2 h3 gp hP hl q
 refine ⟨_,rfl,_,rfl,_,rfl,?_⟩
 refine ⟨(by show 3<=sizeLine;decide),fun a1 ha1=>?_⟩
 have sa1:=ai ha1 (.tup [.str "times",u1,u2])
 have ga1:(upd H5 a1 (.tup [.str "times",u1,u2])) a1=some (.tup [.str "times",u1,u2]):=ac
 generalize upd H5 a1 (.tup [.str "times",u1,u2])=Ia1 at sa1 ga1 ⊢
 refine ⟨_,rfl,_,rfl,?_⟩
 refine ⟨(by show 4<=sizeLine;decide),fun a2 ha2=>?_⟩
 have sa2:=ai ha2 (.tup [.str "when",.ref a1,fv,u1])
 have ga2:(upd Ia1 a2 (.tup [.str "when",.ref a1,fv,u1])) a2=some (.tup [.str "when",.ref a1,fv,u1]):=ac
 generalize upd Ia1 a2 (.tup [.str "when",.ref a1,fv,u1])=Ia2 at sa2 ga2 ⊢
 refine ⟨_,rfl,_,rfl,_,rfl,?_⟩
 refine ⟨(by show 4<=sizeLine;decide),fun a3 ha3=>?_⟩
 have sa3:=ai ha3 (.tup [.str "when",u3,u1,fv])
 have ga3:(upd Ia2 a3 (.tup [.str "when",u3,u1,fv])) a3=some (.tup [.str "when",u3,u1,fv]):=ac
 generalize upd Ia2 a3 (.tup [.str "when",u3,u1,fv])=Ia3 at sa3 ga3 ⊢
 refine ⟨(by show 2<=sizeLine;decide),fun pl hpl=>?_⟩
 have sl:=ai hpl (.lst [.ref a2,.ref a3])
 have gl:(upd Ia3 pl (.lst [.ref a2,.ref a3])) pl=some (.lst [.ref a2,.ref a3]):=ac
 generalize upd Ia3 pl (.lst [.ref a2,.ref a3])=HL at sl gl ⊢
 have SL:Same H5 HL:=(sa1.trans (sa2.trans (sa3.trans sl)))
 refine ⟨p,pl,ms,_,rfl,rfl,SL _ _ gp,gl,Nat.le_of_lt (aF (by rw [hl];show 8<=1000;decide)),fun p9 hp9=>?_⟩
 have s9:=ai hp9 (.lst (ms++[.ref a2,.ref a3]))
 have g9:(upd HL p9 (.lst (ms++[.ref a2,.ref a3]))) p9=some (.lst (ms++[.ref a2,.ref a3])):=ac
 generalize upd HL p9 (.lst (ms++[.ref a2,.ref a3]))=H9 at s9 g9 ⊢
 have SN:Same H5 H9:=SL.trans s9
 have tkN:=aC SN
 have pn:Paired (GmP fr H9) [(.whn (.bin "times" g1 g2) fm g1),(.whn g3 g1 fm)] [.ref a2,.ref a3]:=(.cons ⟨⟨a2,.ref a1,fv,u1,rfl,(s9 _ _ (sl _ _ (sa3 _ _ ga2))),⟨a1,u1,u2,rfl,(s9 _ _ (sl _ _ (sa3 _ _ (sa2 _ _ ga1)))),(h1.1.mono tkN),(h2.1.mono tkN)⟩,(hR.mono tkN),(h1.1.mono tkN)⟩,⟨⟨by decide +kernel,h1.2.1,h2.2.1⟩,hwf,h1.2.1⟩,(by show ((g1.size+g2.size+1) +fm.size+g1.size+1)<=22;have:=h1.2.2;have:=h2.2.2;have:=h3.2.2;omega)⟩ (.cons ⟨⟨a3,u3,u1,fv,rfl,(s9 _ _ (sl _ _ ga3)),(h3.1.mono tkN),(h1.1.mono tkN),(hR.mono tkN)⟩,⟨h3.2.1,h1.2.1,hwf⟩,(by show (g3.size+g1.size+fm.size+1)<=22;have:=h1.2.2;have:=h2.2.2;have:=h3.2.2;omega)⟩ .nil))
 exact hnext D tp fa p9 bv fv u1 u2 u3 o4 o5 o6 none o11 fr fm g1 g2 g3 (ms++[.ref a2,.ref a3]) (gs++[(.whn (.bin "times" g1 g2) fm g1),(.whn g3 g1 fm)]) H H9 (k5.same SN) (tt5.same SN) (hR.mono tkN) hwf hsz (h1.mono tkN) (h2.mono tkN) (h3.mono tkN) g9 (Paired.app (Paired.mapP hP fun _ _ h=>h.mono tkN) pn) (by rw [List.length_append,hl];rfl) q
theorem wc {cdv:Value} {A:Around} {outer:List Env} {s:Shared} {H0:Hp} {E:XK}
  (GD:FnOk P w K mg base CX0 1 f2 fd2 ["tape","many"] bj) (bD:Binds K fd2 ["tape","many"] []) (kD:PySem.W.keepIn K (.ref f2)=true) (mD:mg "_law_digit"=some (.ref f2))
  (GT:FnOk P w K mg base CX0 24 f3 fd3 ["thing"] (dg 22)) (bT:Binds K fd3 ["thing"] []) (kT:PySem.W.keepIn K (.ref f3)=true) (mT:mg "_law_tuples"=some (.ref f3))
  (hr:Room 24 (dv CX0 P w K mg base NMo "_law_more" (ag cI) f cdv A outer s H0 E).nox.A):
  ∃ t,PSs (dv CX0 P w K mg base NMo "_law_more" (ag cI) f cdv A outer s H0 E).nox ((cs cI).drop 8) t/\
   ∀ (D:ev) (tp fa p:Addr) (bv fv u1 u2 u3:V) (o4 o5 o6 o10 o11:Option V) (fr:Frm) (fm g1 g2 g3:Fm) (ms:List V) (gs:List Fm) (H H5:Hp),Kp tp H H5->Tp H5 tp->Rep H5 fm fv->fm.wfp (cx fr)->fm.size<=15->LfP fr H5 g1 u1->LfP fr H5 g2 u2->LfP fr H5 g3 u3->H5 p=some (.lst ms)->Paired (GmP fr H5) gs ms->ms.length=5->
    (∀ v g H',Rep H' g v->g.wfp (cx fr)->g.size<=15->Kp tp H H'->Tp H' tp->D.rt v H')->
    t D [some (.ref tp),some bv,some fv,some (.ref fa),o4,o5,o6,some u1,some u2,some u3,some (.ref p),o11] H5:=by
 obtain ⟨t,ht,hnext⟩:=wb (f:=f) (cdv:=cdv) (A:=A) (outer:=outer) (s:=s) (H0:=H0) (E:=E) GD bD kD mD GT bT kT mT hr
 refine ⟨_,ad (aw (i:=10) scMore.nd rfl (Or.inl rfl) (aJ iU (pv 10) (bd (pac (aS (pac aG (pac (pv 7) (pac (aS (pac aG (pac (aS (pac aG (pac (pv 7) (pac (aS (pac aG (pac ae ab))) ab)))) (pac (pv 8) ab)))) (pac (pv 2) ab))))) ab)))) ht,?_⟩
 intro D tp fa p bv fv u1 u2 u3 o4 o5 o6 o10 o11 fr fm g1 g2 g3 ms gs H H5 k5 tt5 hR hwf hsz h1 h2 h3 gp hP hl q
 refine ⟨_,rfl,_,rfl,_,rfl,?_⟩
 refine ⟨(by show 2<=sizeLine;decide),fun a1 ha1=>?_⟩
 have sa1:=ai ha1 (.tup [.str "num",.int 1])
 have ga1:(upd H5 a1 (.tup [.str "num",.int 1])) a1=some (.tup [.str "num",.int 1]):=ac
 generalize upd H5 a1 (.tup [.str "num",.int 1])=Ia1 at sa1 ga1 ⊢
 refine ⟨(by show 3<=sizeLine;decide),fun a2 ha2=>?_⟩
 have sa2:=ai ha2 (.tup [.str "plus",u1,.ref a1])
 have ga2:(upd Ia1 a2 (.tup [.str "plus",u1,.ref a1])) a2=some (.tup [.str "plus",u1,.ref a1]):=ac
 generalize upd Ia1 a2 (.tup [.str "plus",u1,.ref a1])=Ia2 at sa2 ga2 ⊢
 refine ⟨_,rfl,?_⟩
 refine ⟨(by show 3<=sizeLine;decide),fun a3 ha3=>?_⟩
 have sa3:=ai ha3 (.tup [.str "times",.ref a2,u2])
 have ga3:(upd Ia2 a3 (.tup [.str "times",.ref a2,u2])) a3=some (.tup [.str "times",.ref a2,u2]):=ac
 generalize upd Ia2 a3 (.tup [.str "times",.ref a2,u2])=Ia3 at sa3 ga3 ⊢
 refine ⟨_,rfl,?_⟩
 refine ⟨(by show 4<=sizeLine;decide),fun a4 ha4=>?_⟩
 have sa4:=ai ha4 (.tup [.str "when",u1,.ref a3,fv])
 have ga4:(upd Ia3 a4 (.tup [.str "when",u1,.ref a3,fv])) a4=some (.tup [.str "when",u1,.ref a3,fv]):=ac
 generalize upd Ia3 a4 (.tup [.str "when",u1,.ref a3,fv])=Ia4 at sa4 ga4 ⊢
 refine ⟨(by show 1<=sizeLine;decide),fun pl hpl=>?_⟩
 have sl:=ai hpl (.lst [.ref a4])
 have gl:(upd Ia4 pl (.lst [.ref a4])) pl=some (.lst [.ref a4]):=ac
 generalize upd Ia4 pl (.lst [.ref a4])=HL at sl gl ⊢
 have SL:Same H5 HL:=(sa1.trans (sa2.trans (sa3.trans (sa4.trans sl))))
 refine ⟨p,pl,ms,_,rfl,rfl,SL _ _ gp,gl,Nat.le_of_lt (aF (by rw [hl];show 6<=1000;decide)),fun p9 hp9=>?_⟩
 have s9:=ai hp9 (.lst (ms++[.ref a4]))
 have g9:(upd HL p9 (.lst (ms++[.ref a4]))) p9=some (.lst (ms++[.ref a4])):=ac
 generalize upd HL p9 (.lst (ms++[.ref a4]))=H9 at s9 g9 ⊢
 have SN:Same H5 H9:=SL.trans s9
 have tkN:=aC SN
 have pn:Paired (GmP fr H9) [(.whn g1 (.bin "times" (.bin "plus" g1 (.num 1)) g2) fm)] [.ref a4]:=(.cons ⟨⟨a4,u1,.ref a3,fv,rfl,(s9 _ _ (sl _ _ ga4)),(h1.1.mono tkN),⟨a3,.ref a2,u2,rfl,(s9 _ _ (sl _ _ (sa4 _ _ ga3))),⟨a2,u1,.ref a1,rfl,(s9 _ _ (sl _ _ (sa4 _ _ (sa3 _ _ ga2)))),(h1.1.mono tkN),⟨a1,rfl,(s9 _ _ (sl _ _ (sa4 _ _ (sa3 _ _ (sa2 _ _ ga1)))))⟩⟩,(h2.1.mono tkN)⟩,(hR.mono tkN)⟩,⟨h1.2.1,⟨by decide +kernel,⟨by decide +kernel,h1.2.1,⟨by decide,by decide⟩⟩,h2.2.1⟩,hwf⟩,(by show (g1.size+ ((g1.size+1+1) +g2.size+1) +fm.size+1)<=22;have:=h1.2.2;have:=h2.2.2;have:=h3.2.2;omega)⟩ .nil)
 exact hnext D tp fa p9 bv fv u1 u2 u3 o4 o5 o6 none o11 fr fm g1 g2 g3 (ms++[.ref a4]) (gs++[(.whn g1 (.bin "times" (.bin "plus" g1 (.num 1)) g2) fm)]) H H9 (k5.same SN) (tt5.same SN) (hR.mono tkN) hwf hsz (h1.mono tkN) (h2.mono tkN) (h3.mono tkN) g9 (Paired.app (Paired.mapP hP fun _ _ h=>h.mono tkN) pn) (by rw [List.length_append,hl];rfl) q
theorem we {cdv:Value} {A:Around} {outer:List Env} {s:Shared} {H0:Hp} {E:XK}
  (GD:FnOk P w K mg base CX0 1 f2 fd2 ["tape","many"] bj) (bD:Binds K fd2 ["tape","many"] []) (kD:PySem.W.keepIn K (.ref f2)=true) (mD:mg "_law_digit"=some (.ref f2))
  (GT:FnOk P w K mg base CX0 24 f3 fd3 ["thing"] (dg 22)) (bT:Binds K fd3 ["thing"] []) (kT:PySem.W.keepIn K (.ref f3)=true) (mT:mg "_law_tuples"=some (.ref f3))
  (hr:Room 24 (dv CX0 P w K mg base NMo "_law_more" (ag cI) f cdv A outer s H0 E).nox.A):
  ∃ t,PSs (dv CX0 P w K mg base NMo "_law_more" (ag cI) f cdv A outer s H0 E).nox ((cs cI).drop 7) t/\
   ∀ (D:ev) (tp fa p:Addr) (bv fv u1 u2 u3:V) (o4 o5 o6 o10 o11:Option V) (fr:Frm) (fm g1 g2 g3:Fm) (ms:List V) (gs:List Fm) (H H5:Hp),Kp tp H H5->Tp H5 tp->Rep H5 fm fv->fm.wfp (cx fr)->fm.size<=15->LfP fr H5 g1 u1->LfP fr H5 g2 u2->LfP fr H5 g3 u3->H5 p=some (.lst ms)->Paired (GmP fr H5) gs ms->ms.length=3->
    (∀ v g H',Rep H' g v->g.wfp (cx fr)->g.size<=15->Kp tp H H'->Tp H' tp->D.rt v H')->
    t D [some (.ref tp),some bv,some fv,some (.ref fa),o4,o5,o6,some u1,some u2,some u3,some (.ref p),o11] H5:=by
 obtain ⟨t,ht,hnext⟩:=wc (f:=f) (cdv:=cdv) (A:=A) (outer:=outer) (s:=s) (H0:=H0) (E:=E) GD bD kD mD GT bT kT mT hr
 refine ⟨_,ad (aw (i:=10) scMore.nd rfl (Or.inl rfl) (aJ iU (pv 10) (bd (pac (aS (pac aG (pac (pv 2) (pac (aS (pac aG (pac (pv 8) (pac (pv 7) ab)))) ab)))) (pac (aS (pac aG (pac (pv 2) (pac (pv 9) ab)))) ab))))) ht,?_⟩
 intro D tp fa p bv fv u1 u2 u3 o4 o5 o6 o10 o11 fr fm g1 g2 g3 ms gs H H5 k5 tt5 hR hwf hsz h1 h2 h3 gp hP hl q
 refine ⟨_,rfl,_,rfl,_,rfl,_,rfl,?_⟩
 refine ⟨(by show 3<=sizeLine;decide),fun a1 ha1=>?_⟩
 have sa1:=ai ha1 (.tup [.str "times",u2,u1])
 have ga1:(upd H5 a1 (.tup [.str "times",u2,u1])) a1=some (.tup [.str "times",u2,u1]):=ac
 generalize upd H5 a1 (.tup [.str "times",u2,u1])=Ia1 at sa1 ga1 ⊢
 refine ⟨(by show 3<=sizeLine;decide),fun a2 ha2=>?_⟩
 have sa2:=ai ha2 (.tup [.str "most",fv,.ref a1])
 have ga2:(upd Ia1 a2 (.tup [.str "most",fv,.ref a1])) a2=some (.tup [.str "most",fv,.ref a1]):=ac
 generalize upd Ia1 a2 (.tup [.str "most",fv,.ref a1])=Ia2 at sa2 ga2 ⊢
 refine ⟨_,rfl,_,rfl,?_⟩
 refine ⟨(by show 3<=sizeLine;decide),fun a3 ha3=>?_⟩
 have sa3:=ai ha3 (.tup [.str "less",fv,u3])
 have ga3:(upd Ia2 a3 (.tup [.str "less",fv,u3])) a3=some (.tup [.str "less",fv,u3]):=ac
 generalize upd Ia2 a3 (.tup [.str "less",fv,u3])=Ia3 at sa3 ga3 ⊢
 refine ⟨(by show 2<=sizeLine;decide),fun pl hpl=>?_⟩
 have sl:=ai hpl (.lst [.ref a2,.ref a3])
 have gl:(upd Ia3 pl (.lst [.ref a2,.ref a3])) pl=some (.lst [.ref a2,.ref a3]):=ac
 generalize upd Ia3 pl (.lst [.ref a2,.ref a3])=HL at sl gl ⊢
 have SL:Same H5 HL:=(sa1.trans (sa2.trans (sa3.trans sl)))
 refine ⟨p,pl,ms,_,rfl,rfl,SL _ _ gp,gl,Nat.le_of_lt (aF (by rw [hl];show 5<=1000;decide)),fun p9 hp9=>?_⟩
 have s9:=ai hp9 (.lst (ms++[.ref a2,.ref a3]))
 have g9:(upd HL p9 (.lst (ms++[.ref a2,.ref a3]))) p9=some (.lst (ms++[.ref a2,.ref a3])):=ac
 generalize upd HL p9 (.lst (ms++[.ref a2,.ref a3]))=H9 at s9 g9 ⊢
 have SN:Same H5 H9:=SL.trans s9
 have tkN:=aC SN
 have pn:Paired (GmP fr H9) [(.bin "most" fm (.bin "times" g2 g1)),(.bin "less" fm g3)] [.ref a2,.ref a3]:=(.cons ⟨⟨a2,fv,.ref a1,rfl,(s9 _ _ (sl _ _ (sa3 _ _ ga2))),(hR.mono tkN),⟨a1,u2,u1,rfl,(s9 _ _ (sl _ _ (sa3 _ _ (sa2 _ _ ga1)))),(h2.1.mono tkN),(h1.1.mono tkN)⟩⟩,⟨by decide +kernel,hwf,⟨by decide +kernel,h2.2.1,h1.2.1⟩⟩,(by show (fm.size+ (g2.size+g1.size+1) +1)<=22;have:=h1.2.2;have:=h2.2.2;have:=h3.2.2;omega)⟩ (.cons ⟨⟨a3,fv,u3,rfl,(s9 _ _ (sl _ _ ga3)),(hR.mono tkN),(h3.1.mono tkN)⟩,⟨by decide +kernel,hwf,h3.2.1⟩,(by show (fm.size+g3.size+1)<=22;have:=h1.2.2;have:=h2.2.2;have:=h3.2.2;omega)⟩ .nil))
 exact hnext D tp fa p9 bv fv u1 u2 u3 o4 o5 o6 none o11 fr fm g1 g2 g3 (ms++[.ref a2,.ref a3]) (gs++[(.bin "most" fm (.bin "times" g2 g1)),(.bin "less" fm g3)]) H H9 (k5.same SN) (tt5.same SN) (hR.mono tkN) hwf hsz (h1.mono tkN) (h2.mono tkN) (h3.mono tkN) g9 (Paired.app (Paired.mapP hP fun _ _ h=>h.mono tkN) pn) (by rw [List.length_append,hl];rfl) q
theorem wg {cdv:Value} {A:Around} {outer:List Env} {s:Shared} {H0:Hp} {E:XK}
  (GD:FnOk P w K mg base CX0 1 f2 fd2 ["tape","many"] bj) (bD:Binds K fd2 ["tape","many"] []) (kD:PySem.W.keepIn K (.ref f2)=true) (mD:mg "_law_digit"=some (.ref f2))
  (GT:FnOk P w K mg base CX0 24 f3 fd3 ["thing"] (dg 22)) (bT:Binds K fd3 ["thing"] []) (kT:PySem.W.keepIn K (.ref f3)=true) (mT:mg "_law_tuples"=some (.ref f3))
  (hr:Room 24 (dv CX0 P w K mg base NMo "_law_more" (ag cI) f cdv A outer s H0 E).nox.A):
  ∃ t,PSs (dv CX0 P w K mg base NMo "_law_more" (ag cI) f cdv A outer s H0 E).nox ((cs cI).drop 6) t/\
   ∀ (D:ev) (tp fa p:Addr) (bv fv u1 u2 u3:V) (o4 o5 o6 o10 o11:Option V) (fr:Frm) (fm g1 g2 g3:Fm) (ms:List V) (gs:List Fm) (H H5:Hp),Kp tp H H5->Tp H5 tp->Rep H5 fm fv->fm.wfp (cx fr)->fm.size<=15->LfP fr H5 g1 u1->LfP fr H5 g2 u2->LfP fr H5 g3 u3->
    (∀ v g H',Rep H' g v->g.wfp (cx fr)->g.size<=15->Kp tp H H'->Tp H' tp->D.rt v H')->
    t D [some (.ref tp),some bv,some fv,some (.ref fa),o4,o5,o6,some u1,some u2,some u3,o10,o11] H5:=by
 obtain ⟨t,ht,hnext⟩:=we (f:=f) (cdv:=cdv) (A:=A) (outer:=outer) (s:=s) (H0:=H0) (E:=E) GD bD kD mD GT bT kT mT hr
 refine ⟨_,ad (aw (i:=10) scMore.nd rfl (Or.inl rfl) (bd (pac (aS (pac aG (pac (pv 2) (pac (pv 7) ab)))) (pac (aS (pac aG (pac (pv 7) (pac (pv 2) ab)))) (pac (aS (pac aG (pac (pv 7) (pac (pv 8) ab)))) ab))))) ht,?_⟩
 intro D tp fa p bv fv u1 u2 u3 o4 o5 o6 o10 o11 fr fm g1 g2 g3 ms gs H H5 k5 tt5 hR hwf hsz h1 h2 h3 q
 refine ⟨_,rfl,_,rfl,?_⟩
 refine ⟨(by show 3<=sizeLine;decide),fun a1 ha1=>?_⟩
 have sa1:=ai ha1 (.tup [.str "times",fv,u1])
 have ga1:(upd H5 a1 (.tup [.str "times",fv,u1])) a1=some (.tup [.str "times",fv,u1]):=ac
 generalize upd H5 a1 (.tup [.str "times",fv,u1])=Ia1 at sa1 ga1 ⊢
 refine ⟨_,rfl,_,rfl,?_⟩
 refine ⟨(by show 3<=sizeLine;decide),fun a2 ha2=>?_⟩
 have sa2:=ai ha2 (.tup [.str "times",u1,fv])
 have ga2:(upd Ia1 a2 (.tup [.str "times",u1,fv])) a2=some (.tup [.str "times",u1,fv]):=ac
 generalize upd Ia1 a2 (.tup [.str "times",u1,fv])=Ia2 at sa2 ga2 ⊢
 refine ⟨_,rfl,_,rfl,?_⟩
 refine ⟨(by show 3<=sizeLine;decide),fun a3 ha3=>?_⟩
 have sa3:=ai ha3 (.tup [.str "times",u1,u2])
 have ga3:(upd Ia2 a3 (.tup [.str "times",u1,u2])) a3=some (.tup [.str "times",u1,u2]):=ac
 generalize upd Ia2 a3 (.tup [.str "times",u1,u2])=Ia3 at sa3 ga3 ⊢
 refine ⟨(by show 3<=sizeLine;decide),fun pl hpl=>?_⟩
 have sl:=ai hpl (.lst [.ref a1,.ref a2,.ref a3])
 have gl:(upd Ia3 pl (.lst [.ref a1,.ref a2,.ref a3])) pl=some (.lst [.ref a1,.ref a2,.ref a3]):=ac
 generalize upd Ia3 pl (.lst [.ref a1,.ref a2,.ref a3])=HL at sl gl ⊢
 have SN:Same H5 HL:=(sa1.trans (sa2.trans (sa3.trans sl)))
 have tkN:=aC SN
 have pn:Paired (GmP fr HL) [(.bin "times" fm g1),(.bin "times" g1 fm),(.bin "times" g1 g2)] [.ref a1,.ref a2,.ref a3]:=(.cons ⟨⟨a1,fv,u1,rfl,(sl _ _ (sa3 _ _ (sa2 _ _ ga1))),(hR.mono tkN),(h1.1.mono tkN)⟩,⟨by decide +kernel,hwf,h1.2.1⟩,(by show (fm.size+g1.size+1)<=22;have:=h1.2.2;have:=h2.2.2;have:=h3.2.2;omega)⟩ (.cons ⟨⟨a2,u1,fv,rfl,(sl _ _ (sa3 _ _ ga2)),(h1.1.mono tkN),(hR.mono tkN)⟩,⟨by decide +kernel,h1.2.1,hwf⟩,(by show (g1.size+fm.size+1)<=22;have:=h1.2.2;have:=h2.2.2;have:=h3.2.2;omega)⟩ (.cons ⟨⟨a3,u1,u2,rfl,(sl _ _ ga3),(h1.1.mono tkN),(h2.1.mono tkN)⟩,⟨by decide +kernel,h1.2.1,h2.2.1⟩,(by show (g1.size+g2.size+1)<=22;have:=h1.2.2;have:=h2.2.2;have:=h3.2.2;omega)⟩ .nil)))
 exact hnext D tp fa pl bv fv u1 u2 u3 o4 o5 o6 none o11 fr fm g1 g2 g3 [.ref a1,.ref a2,.ref a3] [(.bin "times" fm g1),(.bin "times" g1 fm),(.bin "times" g1 g2)] H HL (k5.same SN) (tt5.same SN) (hR.mono tkN) hwf hsz (h1.mono tkN) (h2.mono tkN) (h3.mono tkN) gl pn rfl q
theorem vU {fr:Frm} {ss:List Srt} (ho:fr.own∈ss) (h1: ∀ s∈ss,1<=s.ups.length) (e:fr.rules.map (fun r=>(r.pl,r.word))=dy fr.own fr.parts): ∃ r,fr.rules[0]? =some r/\r.word∈fr.own.ups:=by
 have h:=h1 _ ho
 cases hu:fr.own.ups with
 | nil=>rw [hu]at h;exact absurd h (by decide)
 | cons x xs=>
  unfold dy at e
  rw [hu]at e
  cases hr:fr.rules with
  | nil=>rw [hr]at e;cases e
  | cons r rs=>
   rw [hr]at e
   have e1:(r.pl,r.word)=((-1:Int),x):=(List.cons.inj e).1
   exact ⟨r,rfl,by rw [show r.word=x from (Prod.mk.inj e1).2];exact List.mem_cons_self⟩
theorem ua (F:Fun K "_law_more" "_law_more" cI f fd) (G:Gb mg)
  (GD:FnOk P w K mg base CX0 1 f2 fd2 ["tape","many"] bj) (bD:Binds K fd2 ["tape","many"] []) (kD:PySem.W.keepIn K (.ref f2)=true) (mD:mg "_law_digit"=some (.ref f2))
  (GT:FnOk P w K mg base CX0 24 f3 fd3 ["thing"] (dg 22)) (bT:Binds K fd3 ["thing"] []) (kT:PySem.W.keepIn K (.ref f3)=true) (mT:mg "_law_tuples"=some (.ref f3)):
  FnOk P w K mg base CX0 25 f fd ["tape","book","formula","form"] qQ:=by
 refine F.ok scMore (fun vs H Q E h=>?_) (fun cdv A outer s H vs Q E hr h=>?_)
 ·obtain ⟨tp,bv,fv,fa,bk,fr,fm,rfl,_⟩:=h
  rfl
 obtain ⟨tp,bv,fv,fa,bk,fr,fm,rfl,hT,hB,hok,hup,hF,hfr,hR,hwf,hsz,q⟩:=h
 have hr1:=hr.mono (show 1<=24 by decide)
 obtain ⟨t,ht,hnext⟩:=wg (f:=f) (cdv:=cdv) (A:=A) (outer:=outer) (s:=s) (H0:=H) (E:=E) GD bD kD mD GT bT kT mT hr
 refine ⟨_,ad (aw (i:=4) scMore.nd rfl (Or.inl rfl) (bd ab))
  (ad (cf PassesOwn.never rfl (cE rfl G.range (aa (ao aA rfl G.len PySem.boot_len (aa (av aq (pv 3) ae (fun _ _=>rfl)) ab)) ab)) (aO (i:=5) scMore.nd rfl (Or.inr rfl))
   (ah (cf PassesOwn.never rfl (a8 (av aq (pv 1) ae (fun _ _=>rfl))) (aO (i:=6) scMore.nd rfl (Or.inl rfl))
    (ah (aK (az aZ (av aq (pv 6) ae (fun _ _=>rfl)) (av aq (av aq (pv 3) ae (fun _ _=>rfl)) (pv 5) (fun _ _=>rfl)) (aE _))
     (ah (cy (eA PySem.F.plainAttrs_list PySem.F.slot_list_extend PySem.F.type_list_extend gM (pv 4) (aa
      (a9 (sc0:=ag cI) (N0:=NMo) (ys:=["k"]) (fr:=[5]) rfl (a8 (av aq (pv 6) ae (fun _ _=>rfl))) rfl rfl
       cok
       (fun C s H ex=>aS (aa aG (aa (pv 1) (aa (pv 0) ab))))) ab)))) ax)))))
  (ad (cy (eA PySem.F.plainAttrs_list PySem.F.slot_list_append PySem.F.type_list_append cr (pv 4) (aa (aS (aa aG (aa ae ab))) ab)))
  (ad (aw (i:=7) scMore.nd rfl (Or.inl rfl) (av bn (pv 4) (af GD hr1 rfl mD kD bD .nil al (aa (pv 0) (aa (ao aA rfl G.len PySem.boot_len (aa (pv 4) ab)) ab))) (fun _ _=>rfl)))
  (ad (aw (i:=8) scMore.nd rfl (Or.inl rfl) (av bn (pv 4) (af GD hr1 rfl mD kD bD .nil al (aa (pv 0) (aa (ao aA rfl G.len PySem.boot_len (aa (pv 4) ab)) ab))) (fun _ _=>rfl)))
  (ad (aw (i:=9) scMore.nd rfl (Or.inl rfl) (aS (aa aG (aa (av aq (av aq (av aq (pv 3) ae (fun _ _=>rfl)) ae (fun _ _=>rfl)) ae (fun _ _=>rfl)) ab)))) ht))))),?_⟩
 obtain ⟨b,sa,ga,gv,rfl,hb,⟨sx,hsa,hSs⟩,hga,hFs⟩:=id hB
 obtain ⟨_,pa,ra,rv,e,hfa,hpa,hra,hRr⟩:=id hF
 cases e
 obtain ⟨f1,f2',f3',f4',f5'⟩:=hok.s.fo fr hfr
 have lS:bk.sorts.length=sx.length:=hSs.len
 have h4:=hok.s.s4
 have lpa:(bJ fr.parts).length=fr.parts.length:=List.length_map _
 refine ⟨(by show 0<=sizeLine;decide),fun rl hrl=>?_⟩
 have s0:=ai hrl (.lst [])
 have g0:(upd H rl (.lst [])) rl=some (.lst []):=ac
 have nrt:=fk hT hrl
 generalize upd H rl (.lst [])=H0 at s0 g0 ⊢
 refine ⟨_,rfl,fa,_,2,.ref pa,rfl,rfl,SqT.of (s0 _ _ hfa),aB (j:=2) rfl,pa,_,rfl,.inr (SqT.of (s0 _ _ hpa)),_,rfl,by omega,by omega,?_⟩
 refine dU (fun i σ H'=> ∃ o5 o6 zs,σ=[some (.ref tp),some (.ref b),some fv,some (.ref fa),some (.ref rl),o5,o6,none,none,none,none,none]/\Same H H'/\H' rl=some (.lst zs)/\zs.length<=12*i/\ ∀ z∈zs,∃ g,LfP fr H' g z)
  ⟨none,none,[],rfl,s0,g0,by simp,fun z h=>(by cases h)⟩ ?_ ?_
 ·rintro i σ H1 hi ⟨o5,o6,zs,rfl,S1,g1,lz,hz⟩
  rw [lpa]at hi
  have hi':i<fr.parts.length:=by omega
  obtain ⟨qs,hqs⟩: ∃ q,fr.parts[i]? =some q:=⟨fr.parts[i],List.getElem?_eq_getElem hi'⟩
  have eat:atI (bJ fr.parts) (0+ (i:Int))=some (V.str qs.name):=by
   rw [Int.zero_add]
   exact aB (by show (fr.parts.map fun q=>V.str (Srt.name q))[i]? =_;rw [List.getElem?_map,hqs];rfl)
  refine ⟨_,rfl,b,_,1,.ref sa,rfl,rfl,SqT.of (S1 _ _ hb),aB (j:=1) rfl,sa,rfl,⟨sx,SqT.of (S1 _ _ hsa)⟩,?_⟩
  refine c8 (xs:=sx) (fun j σ H'=>j<=sx.length/\ ∃ o6 zs,σ=[some (.ref tp),some (.ref b),some fv,some (.ref fa),some (.ref rl),some (.int (0+ (i:Int))),o6,none,none,none,none,none]/\Same H H'/\H' rl=some (.lst zs)/\zs.length<=12*i+3*j/\ ∀ z∈zs,∃ g,LfP fr H' g z)
   ⟨Nat.zero_le _,o6,zs,rfl,S1,g1,by omega,hz⟩ (fun j σ H' _ h=>by obtain ⟨_,_,_,_,s',_⟩:=h;exact SqT.of (s' _ _ hsa)) ?_ ?_
  ·rintro j x σ H2 hx ⟨hj,o6,zs,rfl,S2,g2,lz,hz⟩
   have hjl:j<sx.length:=(List.getElem?_eq_some_iff.mp hx).1
   obtain ⟨sr,hsr,a,b',c,rfl,ha,hb',hc⟩:=aL hSs hx
   have hsm:=List.mem_of_getElem? hsr
   refine ⟨_,rfl,a,_,0,.str sr.name,rfl,rfl,SqT.of (S2 _ _ ha),aT,?_⟩
   refine ⟨_,rfl,fa,_,2,.ref pa,rfl,rfl,SqT.of (S2 _ _ hfa),aB (j:=2) rfl,_,rfl,pa,_,_,.str qs.name,rfl,rfl,SqT.of (S2 _ _ hpa),eat,rfl,_,rfl,?_⟩
   refine bo (fun cc=>?_) (fun cc=>⟨hjl,_,zs,rfl,S2,g2,by omega,hz⟩)
   have en:sr.name=qs.name:=V.str.inj (of_decide_eq_true cc)
   have eq':sr=qs:=ou hok.s.sd hsm (f2' qs (List.mem_of_getElem? hqs)) en
   subst eq'
   have lu:=(hok.s.ws sr hsm).2.1
   refine ⟨_,rfl,.inl ⟨rfl,_,SqL.of g2⟩,?_⟩
   refine ⟨_,rfl,a,_,2,.ref c,rfl,rfl,SqT.of (S2 _ _ ha),aB (j:=2) rfl,c,rfl,⟨_,SqT.of (S2 _ _ hc)⟩,?_⟩
   refine jB (by rw [List.length_map];omega) (S2 _ _ hc) (fun v=>[.str "part",.int (0+ (i:Int)),v]) (fun v H k _ hk=>⟨_,rfl,_,rfl,(by show 3<=sizeLine;decide),fun p hp=>hk p hp⟩) fun pl vs H3 hpl s3 gpl hTw=>?_
   have lw:=hTw.len
   rw [List.length_map,List.length_map]at lw
   have g3:=s3 _ _ g2
   refine ⟨rl,pl,zs,vs,rfl,rfl,g3,gpl,Nat.le_of_lt (aF (by omega)),?_⟩
   have tk:TK H3 (upd H3 rl (.lst (zs++vs))):=TK.lst g3
   have tk2:TK H2 (upd H3 rl (.lst (zs++vs))):=(aC s3).trans tk
   refine ⟨hjl,_,zs++vs,rfl,?_,ac,by rw [List.length_append];omega,?_⟩
   ·intro y oo h
    rw [am (aj h hrl)]
    exact s3 _ _ (S2 _ _ h)
   ·intro z hzz
    rcases List.mem_append.mp hzz with h | h
    ·obtain ⟨g,hg⟩:=hz z h
     exact ⟨g,hg.mono tk2⟩
    ·obtain ⟨ys,hy,a',rfl,ha'⟩:=iQ hTw h
     obtain ⟨v,hv,rfl⟩:=List.mem_map.mp hy
     obtain ⟨x,hx',rfl⟩:=List.mem_map.mp hv
     refine ⟨.part (0+ (i:Int)) x,⟨a',rfl,tk _ _ ha'⟩,⟨⟨⟨by omega,by omega⟩,(hok.sw sr hsm).2 x (List.mem_append_right _ hx')⟩,i,sr,by omega,hqs,List.mem_append_right _ hx'⟩,rfl⟩
  ·rintro σ H2 ⟨_,o6,zs,rfl,S2,g2,lz,hz⟩
   exact ⟨_,_,zs,rfl,S2,g2,by omega,hz⟩
 ·rintro σ H1 ⟨o5,o6,zs,rfl,S1,g1,lz,hz⟩
  have hi3:(((bJ fr.parts).length:Int)).toNat<=3:=by rw [lpa];omega
  refine ⟨_,rfl,.inl ⟨rfl,_,SqL.of g1⟩,(by show 2<=sizeLine;decide),fun p2 hp2=>?_⟩
  have s2:=ai hp2 (.tup [.str "num",.int 3])
  have g2:(upd H1 p2 (.tup [.str "num",.int 3])) p2=some (.tup [.str "num",.int 3]):=ac
  generalize upd H1 p2 (.tup [.str "num",.int 3])=H2 at s2 g2 ⊢
  have gr2:=s2 _ _ g1
  refine ⟨rl,zs,.ref p2,rfl,rfl,gr2,aF (by omega),?_⟩
  have tk3:TK H2 (upd H2 rl (.lst (zs++[.ref p2]))):=TK.lst gr2
  have S3:Same H (upd H2 rl (.lst (zs++[.ref p2]))):=fun y oo h=>by rw [am (aj h hrl)];exact s2 _ _ (S1 _ _ h)
  have gr3:(upd H2 rl (.lst (zs++[.ref p2]))) rl=some (.lst (zs++[.ref p2])):=ac
  have hz3: ∀ z∈zs++[.ref p2],∃ g,LfP fr (upd H2 rl (.lst (zs++[.ref p2]))) g z:=fun z hm=>by
   rcases List.mem_append.mp hm with h | h
   ·obtain ⟨g,hg⟩:=hz z h
    exact ⟨g,hg.mono ((aC s2).trans tk3)⟩
   ·rw [List.mem_singleton.mp h]
    exact ⟨.num 3,⟨p2,rfl,tk3 _ _ g2⟩,⟨by decide,by decide⟩,rfl⟩
  have lz3:(zs++[V.ref p2]).length<=37:=by
   rw [List.length_append]
   show zs.length+1<=37
   omega
  have lz1:1<=(zs++[V.ref p2]).length:=by
   rw [List.length_append]
   show 1<=zs.length+1
   omega
  generalize upd H2 rl (.lst (zs++[.ref p2]))=H3 at S3 gr3 hz3 ⊢
  generalize zs++[V.ref p2]=rs at gr3 hz3 lz3 lz1 ⊢
  have tt3:Tp H3 tp:=hT.same S3
  refine ⟨_,rfl,_,rfl,_,rfl,rl,_,rfl,.inl (SqL.of gr3),tp,_,rfl,tt3,by omega,by omega,fun d1 t1 h10 h11=>?_⟩
  have k4:Kp tp H3 (upd H3 tp (.lst [.int t1])):=Kp.tape
  have tt4:Tp (upd H3 tp (.lst [.int t1])) tp:=⟨t1,ac⟩
  generalize upd H3 tp (.lst [.int t1])=H4 at k4 tt4 ⊢
  obtain ⟨u1,eu1,eu1'⟩:=cW (xs:=rs) h10 h11
  obtain ⟨g1',hg1⟩:=hz3 u1 (List.mem_of_getElem? eu1')
  refine ⟨rl,rs,d1,u1,rfl,rfl,SqL.of (k4 _ _ gr3 nrt),eu1,?_⟩
  refine ⟨_,rfl,_,rfl,_,rfl,rl,_,rfl,.inl (SqL.of (k4 _ _ gr3 nrt)),tp,_,rfl,tt4,by omega,by omega,fun d2 t2 h20 h21=>?_⟩
  have k5:Kp tp H4 (upd H4 tp (.lst [.int t2])):=Kp.tape
  have tt5:Tp (upd H4 tp (.lst [.int t2])) tp:=⟨t2,ac⟩
  generalize upd H4 tp (.lst [.int t2])=H5 at k5 tt5 ⊢
  obtain ⟨u2,eu2,eu2'⟩:=cW (xs:=rs) h20 h21
  obtain ⟨g2',hg2⟩:=hz3 u2 (List.mem_of_getElem? eu2')
  have k35:=k4.trans k5
  have tk35:=k35.tk tt3
  have kH5:Kp tp H H5:=fun c oo h hn=>k35 c oo (S3 c oo h) hn
  have tkH5:=kH5.tk hT
  refine ⟨rl,rs,d2,u2,rfl,rfl,SqL.of (k35 _ _ gr3 nrt),eu2,?_⟩
  obtain ⟨r0,hr0,hr0w⟩:=vU f1 hup f4'
  obtain ⟨x0,hx0⟩: ∃ x,rv[0]? =some x:=by
   have:=hRr.len
   have:0<fr.rules.length:=(List.getElem?_eq_some_iff.mp hr0).1
   exact ⟨rv[0]'(by omega),List.getElem?_eq_getElem (by omega)⟩
  obtain ⟨r0',hr0',a0,u0,rfl,ha0,_⟩:=aL hRr hx0
  have er:r0'=r0:=Option.some.inj (hr0'.symm.trans hr0)
  subst er
  refine ⟨_,rfl,fa,_,3,.ref ra,rfl,rfl,SqT.of (tkH5 _ _ hfa),aB (j:=3) rfl,ra,_,0,.ref a0,rfl,rfl,SqT.of (tkH5 _ _ hra),aB (j:=0) hx0,a0,_,1,.str r0'.word,rfl,rfl,SqT.of (tkH5 _ _ ha0),aB (j:=1) rfl,?_⟩
  refine ⟨(by show 2<=sizeLine;decide),fun p6 hp6=>?_⟩
  have s6:=ai hp6 (.tup [.str "own",.str r0'.word])
  have g6:(upd H5 p6 (.tup [.str "own",.str r0'.word])) p6=some (.tup [.str "own",.str r0'.word]):=ac
  generalize upd H5 p6 (.tup [.str "own",.str r0'.word])=H6 at s6 g6 ⊢
  have tkH6:=tkH5.trans (aC s6)
  have tk36:=tk35.trans (aC s6)
  exact hnext _ tp fa p6 (.ref b) fv u1 u2 (.ref p6) _ _ _ none none fr fm g1' g2' (.own r0'.word) [] [] H H6 (kH5.same s6) (tt5.same s6) (hR.mono tkH6) hwf hsz (hg1.mono tk36) (hg2.mono tk36)
   ⟨⟨p6,rfl,g6⟩,⟨(hok.sw _ f1).2 _ (List.mem_append_right _ hr0w),List.mem_append_right _ hr0w⟩,rfl⟩ q
end My
namespace L2
open PySem PySem.Spec PyProof.Rows
noncomputable def v7:R2:=fun x y H Q=> ∃ a b xs ys,x=.ref a/\y=.ref b/\H a=some (.tup xs)/\H b=some (.tup ys)/\xs.length+ys.length<=sizeLine/\ ∀ p H',(∀ b o,H b=some o->H' b=some o)->H' p=some (.tup (xs++ys))->Q (.ref p) H'
theorem oH {X:Cx}:OpR X (binaryOp .Add) v7:=by
 intro pins s σ H x y v u Q I rx ry h
 obtain ⟨a,b,xs,ys,e1,e2,h1,h2,h3,q⟩:=h
 refine iT pins s σ H x y v u Q I rx ry ⟨a,b,xs,ys,e1,e2,SqT.of h1,SqT.of h2,h3,fun e=>q b H (fun _ _ h=>h) ?_,fun _ e=>q a H (fun _ _ h=>h) ?_,fun _ _ p hp=>q p _ (fun b o e=>by rw [am (aj e hp)];exact e) ac⟩
 ·rw [e];exact h2
 ·rw [e,List.append_nil];exact h1
end L2
namespace My
open PySem L2
theorem BkS.wheel {bk:Bk} (h:BkS bk) (w:Int):BkS ⟨w,bk.sorts,bk.forms⟩:=⟨h.few,h.nd,h.s4,h.sd,h.ws,h.fo⟩
theorem BkV.seven {bk:Bk} (h:BkV bk):BkV ⟨7,bk.sorts,bk.forms⟩:=⟨h.s.wheel 7,.inr ⟨(by show (2:Int)<=7;decide),(by show (7:Int)<=10^30;decide +kernel)⟩,h.s1,h.f1,h.sw,h.fw,h.rd⟩
theorem fZ {α β:Type} {f:α->β} {l:List α} {k:Nat} {a b:α} (h:l[k]? =some a) (e:f b=f a):(l.set k b).map f=l.map f:=by
 rw [List.map_set,e]
 refine List.ext_getElem? fun i=>?_
 rw [List.getElem?_set]
 by_cases c:k=i
 ·subst c
  have hl:k< (l.map f).length:=by rw [List.length_map];exact (List.getElem?_eq_some_iff.mp h).1
  rw [if_pos rfl,if_pos hl,List.getElem?_map,h]
  rfl
 ·rw [if_neg c]
theorem fE {α β:Type} {F:α->β->Prop} {a:α} {b:β} (hab:F a b): ∀ {l:List α} {m:List β} (j:Nat),Paired F l m->Paired F (l.set j a) (m.set j b)
 | _,_,_,.nil=>.nil
 | _,_,0,.cons _ t=>.cons hab t
 | _,_,j+1,.cons h t=>.cons h (fE hab j t)
noncomputable def Bk.put (bk:Bk) (k j:Nat) (fr:Frm) (r:Rul) (g:Fm):Bk:=⟨0,bk.sorts,bk.forms.set k ⟨fr.name,fr.own,fr.parts,fr.rules.set j ⟨r.pl,r.word,g⟩⟩⟩
theorem BkV.put {bk:Bk} (h:BkV bk) {k j:Nat} {fr:Frm} {r:Rul} {g:Fm} (hk:bk.forms[k]? =some fr) (hj:fr.rules[j]? =some r) (hw:g.wfp (cx fr)) (hs:g.size<=15):BkV (bk.put k j fr r g):=by
 have hfm:=List.mem_of_getElem? hk
 have told: ∀ {f:Fm},f.wfp (cx fr)->f.wfp (cx ⟨fr.name,fr.own,fr.parts,fr.rules.set j ⟨r.pl,r.word,g⟩⟩):=fun hf=>cZ (fun f hf=>by cases f <;> exact hf) hf
 have split: ∀ {fr':Frm},fr'∈(bk.put k j fr r g).forms->fr'∈bk.forms\/fr'=⟨fr.name,fr.own,fr.parts,fr.rules.set j ⟨r.pl,r.word,g⟩⟩:=fun hm=>List.mem_or_eq_of_mem_set hm
 have rul: ∀ {r':Rul},r'∈fr.rules.set j ⟨r.pl,r.word,g⟩->r'∈fr.rules\/r'=⟨r.pl,r.word,g⟩:=fun hm=>List.mem_or_eq_of_mem_set hm
 refine ⟨⟨?_,?_,h.s.s4,h.s.sd,h.s.ws,fun fr' hm=>?_⟩,.inl rfl,h.s1,?_,h.sw,fun fr' hm=>?_,fun fr' hm r' hr'=>?_⟩
 ·show (bk.forms.set k _).length<=10
  rw [List.length_set]
  exact h.s.few
 ·show ((bk.forms.set k _).map Frm.name).Nodup
  have e:(bk.forms.set k ⟨fr.name,fr.own,fr.parts,fr.rules.set j ⟨r.pl,r.word,g⟩⟩).map Frm.name=bk.forms.map Frm.name:=fZ hk rfl
  rw [e]
  exact h.s.nd
 ·rcases split hm with z | z
  ·exact h.s.fo fr' z
  ·subst z
   obtain ⟨a,b,c,d,e⟩:=h.s.fo fr hfm
   refine ⟨a,b,c,?_,fun r' hr'=>?_⟩
   ·show (fr.rules.set j _).map (fun r=>(r.pl,r.word))=dy fr.own fr.parts
    have e:(fr.rules.set j ⟨r.pl,r.word,g⟩).map (fun r=>(r.pl,r.word))=fr.rules.map (fun r=>(r.pl,r.word)):=fZ hj rfl
    rw [e]
    exact d
   ·rcases rul hr' with z | z
    ·exact e r' z
    ·rw [z]
     exact ⟨hw.wf,hs⟩
 ·show 1<=(bk.forms.set k _).length
  rw [List.length_set]
  exact h.f1
 ·rcases split hm with z | z
  ·exact h.fw fr' z
  ·subst z
   exact h.fw fr hfm
 ·rcases split hm with z | z
  ·exact h.rd fr' z r' hr'
  ·subst z
   rcases rul hr' with y | y
   ·exact told (h.rd fr hfm r' y)
   ·rw [y]
    exact told hw
noncomputable def lg:Sp:=fun vs H Q _=> ∃ bv bk,vs=[bv]/\RepB H bk bv/\BkV bk/\bk.wheel=0/\(∀ s∈bk.sorts,s.downs=[])/\ ∀ H',Same H H'->Q (.bl true) H'
noncomputable def oz (K:PySem.W.Frag):Sp:=fun vs H Q _=> ∃ (a:Addr) (ns:List Int),vs=[.ref a]/\SqL K H a (ns.map V.int)/\ns.length<=63/\ ∀ H',Q (.bl true) H'
theorem scRightL:ay ["book","due"] ["book"] (ag jV):=fsc
theorem pZ (F:Fun K "_law_right" "_law_right" jV f fd)
  (GI:FnOk P w K mg base CX0 4 f2 fd2 ["book"] fc) (bI:Binds K fd2 ["book"] []) (kI:PySem.W.keepIn K (.ref f2)=true) (mI:mg "_law_level_is"=some (.ref f2))
  (GS:FnOk P w K mg base CX0 1 f3 fd3 ["found","due"] ow) (bS:Binds K fd3 ["found","due"] []) (kS:PySem.W.keepIn K (.ref f3)=true) (mS:mg "_law_same"=some (.ref f3))
  (GY:FnOk P w K mg base CX0 7 f4 fd4 ["thing"] uG) (bY:Binds K fd4 ["thing"] []) (kY:PySem.W.keepIn K (.ref f4)=true) (mY:mg "why_no_book"=some (.ref f4)):
  FnOk P w K mg base CX0 8 f fd ["book"] lg:=by
 refine F.ok scRightL (fun vs H Q E h=>?_) (fun cdv A outer s H vs Q E hr h=>?_)
 ·obtain ⟨bv,bk,rfl,_⟩:=h
  rfl
 obtain ⟨bv,bk,rfl,hB,hok,hw0,hdn,q⟩:=h
 have hr1:=hr.mono (show 1<=7 by decide)
 have hr4:=hr.mono (show 4<=7 by decide)
 refine ⟨_,ad (aw (i:=1) scRightL.nd rfl (Or.inl rfl) gL)
  (ad (aK (aV (aN (af GI hr4 rfl mI kI bI .nil al (aa (pv 0) ab)))) (ah (aw (i:=1) scRightL.nd rfl (Or.inl rfl) aG)) ax)
  (ah (au (ck (af GS hr1 rfl mS kS bS .nil al (aa (af GY hr rfl mY kY bY .nil al (aa (pv 0) ab)) (aa (pv 1) ab)))
   (cB (bm nF (af GY hr rfl mY kY bY .nil al (aa (aJ oH (aS (aa ae ab)) (bh oC (pv 0) (bZ ae) ca)) ab)) gL (aE _))))))),?_⟩
 refine ⟨_,rfl,bv,bk,rfl,hB,hok,hdn,fun H1 s1=>⟨_,rfl,?_⟩⟩
 cases hl:bk.lvB with
 | true=>
  refine aH ?_
  have ew:jI bk=.non:=by unfold jI;rw [if_neg fun z=>by rw [hl]at z;cases z.2]
  refine ⟨_,rfl,bv,bk,rfl,hB.mono (aC s1),hok,hdn,fun H2 s2=>?_⟩
  rw [ew]
  refine ⟨_,rfl,.non,rfl,.inl rfl,fun H3 s3=>⟨true,rfl,aY ?_⟩⟩
  obtain ⟨b,sa,ga,gv,rfl,hb,hSA,hga,hF⟩:=id hB
  have S3:=s1.trans (s2.trans s3)
  refine ⟨(by show 1<=sizeLine;decide),fun p4 hp4=>?_⟩
  have s4:=ai hp4 (.tup [.int 7])
  have g4:(upd H3 p4 (.tup [.int 7])) p4=some (.tup [.int 7]):=ac
  generalize upd H3 p4 (.tup [.int 7])=H4 at s4 g4 ⊢
  have S4:=S3.trans s4
  refine ⟨_,rfl,1,rfl,b,_,rfl,S4 _ _ hb,fun p5 H5 s5 g5=>?_⟩
  rw [kz]at g5
  refine ⟨p4,p5,_,_,rfl,rfl,s5 _ _ g4,g5,(by show 3<=sizeLine;decide),fun p6 H6 s6 g6=>?_⟩
  have S6:Same H H6:=fun b o h=>s6 _ _ (s5 _ _ (S4 _ _ h))
  have tk6:=aC S6
  refine ⟨.ref p6,⟨7,bk.sorts,bk.forms⟩,rfl,⟨p6,sa,ga,gv,rfl,g6,hSA.mono tk6,S6 _ _ hga,hF.mono tk6⟩,hok.seven,hdn,fun H7 s7=>?_⟩
  rw [show jI ⟨7,bk.sorts,bk.forms⟩=.non from if_neg fun z=>absurd (show (7:Int)=0 from z.1) (by decide)]
  refine ⟨rfl,?_⟩
  exact qb (q H7 (S6.trans s7)) (decide_eq_true rfl).symm
 | false=>
  refine aY ?_
  have ew:jI bk=.str "wheel":=by unfold jI;rw [if_pos ⟨hw0,hl⟩]
  refine ⟨_,rfl,bv,bk,rfl,hB.mono (aC s1),hok,hdn,fun H2 s2=>?_⟩
  rw [ew]
  refine ⟨_,rfl,.str "wheel",rfl,.inr ⟨"wheel",rfl,by decide +kernel⟩,fun H3 s3=>⟨true,rfl,aY ?_⟩⟩
  obtain ⟨b,sa,ga,gv,rfl,hb,hSA,hga,hF⟩:=id hB
  have S3:=s1.trans (s2.trans s3)
  refine ⟨(by show 1<=sizeLine;decide),fun p4 hp4=>?_⟩
  have s4:=ai hp4 (.tup [.int 7])
  have g4:(upd H3 p4 (.tup [.int 7])) p4=some (.tup [.int 7]):=ac
  generalize upd H3 p4 (.tup [.int 7])=H4 at s4 g4 ⊢
  have S4:=S3.trans s4
  refine ⟨_,rfl,1,rfl,b,_,rfl,S4 _ _ hb,fun p5 H5 s5 g5=>?_⟩
  rw [kz]at g5
  refine ⟨p4,p5,_,_,rfl,rfl,s5 _ _ g4,g5,(by show 3<=sizeLine;decide),fun p6 H6 s6 g6=>?_⟩
  have S6:Same H H6:=fun b o h=>s6 _ _ (s5 _ _ (S4 _ _ h))
  have tk6:=aC S6
  refine ⟨.ref p6,⟨7,bk.sorts,bk.forms⟩,rfl,⟨p6,sa,ga,gv,rfl,g6,hSA.mono tk6,S6 _ _ hga,hF.mono tk6⟩,hok.seven,hdn,fun H7 s7=>?_⟩
  rw [show jI ⟨7,bk.sorts,bk.forms⟩=.non from if_neg fun z=>absurd (show (7:Int)=0 from z.1) (by decide)]
  refine ⟨rfl,?_⟩
  exact qb (q H7 (S6.trans s7)) (decide_eq_true rfl).symm
theorem pi {α:Type} {xs:List α} {d:Int} (h0:0<=d) (h1:d<xs.length):ixN xs.length d=some d.toNat:=by
 unfold ixN
 rw [if_pos h0,if_pos h1]
noncomputable abbrev xx:List Str:=["script","book","start","tape","k","form","j","at","word","formula","rules","forms","changed"]
theorem scLaw:ay xx ["script"] (ag jv):=fsc
theorem vc (F:Fun K "law" "law" jv f fd) (G:Gb mg) (hlist:mg "list"=none)
  (GB:FnOk P w K mg base CX0 12 f2 fd2 ["script","start","ups","signs"] (lh K)) (bB:Binds K fd2 ["script","start","ups","signs"] []) (kB:PySem.W.keepIn K (.ref f2)=true) (mB:mg "_law_level_book"=some (.ref f2))
  (GR:FnOk P w K mg base CX0 8 f3 fd3 ["book"] lg) (bR:Binds K fd3 ["book"] []) (kR:PySem.W.keepIn K (.ref f3)=true) (mR:mg "_law_right"=some (.ref f3))
  (GT:FnOk P w K mg base CX0 2 f4 fd4 ["script","k"] (nc K)) (bT:Binds K fd4 ["script","k"] []) (kT:PySem.W.keepIn K (.ref f4)=true) (mT:mg "_law_tape"=some (.ref f4))
  (GD:FnOk P w K mg base CX0 1 f5 fd5 ["tape","many"] bj) (bD:Binds K fd5 ["tape","many"] []) (kD:PySem.W.keepIn K (.ref f5)=true) (mD:mg "_law_digit"=some (.ref f5))
  (GM:FnOk P w K mg base CX0 25 f6 fd6 ["tape","book","formula","form"] qQ) (bM:Binds K fd6 ["tape","book","formula","form"] []) (kM:PySem.W.keepIn K (.ref f6)=true) (mM:mg "_law_more"=some (.ref f6)):
  FnOk P w K mg base CX0 26 f fd ["script"] (oz K):=by
 refine F.ok scLaw (fun vs H Q E h=>?_) (fun cdv A outer s H vs Q E hr h=>?_)
 ·obtain ⟨a,ns,rfl,_⟩:=h
  rfl
 obtain ⟨a,ns,rfl,hS,hlen,q⟩:=h
 have hr1:=hr.mono (show 1<=25 by decide)
 have hr2:=hr.mono (show 2<=25 by decide)
 have hr8:=hr.mono (show 8<=25 by decide)
 have hr12:=hr.mono (show 12<=25 by decide)
 refine ⟨_,ad (aw (i:=1) scLaw.nd rfl (Or.inl rfl) (af GB hr12 rfl mB kB bB .nil al (aa (pv 0) (aa ae (aa ae (aa (bd (pac aG (pac aG (pac aG (pac aG (pac aG ab)))))) ab))))))
  (ad (aK (aV (aN (af GR hr8 rfl mR kR bR .nil al (aa (pv 1) ab)))) aM ax)
  (ad (cf PassesOwn.never rfl (pR rfl G.range (aa ae (aa (ao (qB rfl) rfl G.max (by decide +kernel) (aa ae (aa (ao (jD rfl) rfl G.min (by decide +kernel) (aa ae (aa (ao aA rfl G.len PySem.boot_len (aa (pv 0) ab)) ab))) ab))) ab))) (aO (i:=2) scLaw.nd rfl (Or.inl rfl))
   (ad (aw (i:=3) scLaw.nd rfl (Or.inl rfl) (af GT hr2 rfl mT kT bT .nil al (aa (pv 0) (aa (pv 2) ab))))
   (ad (aw (i:=4) scLaw.nd rfl (Or.inl rfl) (af GD hr1 rfl mD kD bD .nil al (aa (pv 3) (aa (ao aA rfl G.len PySem.boot_len (aa (av aq (pv 1) ae (fun _ _=>rfl)) ab)) ab))))
   (ad (aw (i:=5) scLaw.nd rfl (Or.inl rfl) (av aq (av aq (pv 1) ae (fun _ _=>rfl)) (pv 4) (fun _ _=>rfl)))
   (ad (aw (i:=6) scLaw.nd rfl (Or.inl rfl) (af GD hr1 rfl mD kD bD .nil al (aa (pv 3) (aa (ao aA rfl G.len PySem.boot_len (aa (av aq (pv 5) ae (fun _ _=>rfl)) ab)) ab))))
   (ad (ki (av aq (av aq (pv 5) ae (fun _ _=>rfl)) (pv 6) (fun _ _=>rfl)) (gK rfl (bc (aO (i:=7) scLaw.nd rfl (Or.inl rfl)) (bc (aO (i:=8) scLaw.nd rfl (Or.inl rfl)) (bc (aO (i:=9) scLaw.nd rfl (Or.inl rfl)) fh)))))
   (ad (aw (i:=10) scLaw.nd rfl (Or.inl rfl) (bG el rfl hlist (by decide +kernel) (aa (av aq (pv 5) ae (fun _ _=>rfl)) ab)))
   (ad (ki (aS (aa (pv 7) (aa (pv 8) (aa (af GM hr rfl mM kM bM .nil al (aa (pv 3) (aa (pv 1) (aa (pv 9) (aa (pv 5) ab))))) ab)))) (nB (pv 10) (pv 6) iB))
   (ad (aw (i:=11) scLaw.nd rfl (Or.inl rfl) (bG el rfl hlist (by decide +kernel) (aa (av aq (pv 1) ae (fun _ _=>rfl)) ab)))
   (ad (ki (aJ oH (bh oC (pv 5) ca (bZ ae)) (aS (aa (bG bt rfl G.tuple (by decide +kernel) (aa (pv 10) ab)) ab))) (nB (pv 11) (pv 4) iB))
   (ad (aw (i:=12) scLaw.nd rfl (Or.inl rfl) (aS (aa ae (aa (av aq (pv 1) ae (fun _ _=>rfl)) (aa (bG bt rfl G.tuple (by decide +kernel) (aa (pv 11) ab)) ab)))))
   (ad (aK (aV (aN (af GR hr8 rfl mR kR bR .nil al (aa (pv 12) ab)))) aM ax)
   (ah (aK (az aZ (af GD hr1 rfl mD kD bD .nil al (aa (pv 3) (aa ae ab))) ae (aE _)) (ah (aw (i:=1) scLaw.nd rfl (Or.inl rfl) (pv 12))) ax))))))))))))))
  (ah (au cj)))),?_⟩
 refine ⟨_,rfl,(by show 5<=sizeLine;decide),fun sg hsg=>?_⟩
 have s0:=ai hsg (.lst [.str "plus",.str "less",.str "times",.str "least",.str "most"])
 have g0:(upd H sg (.lst [.str "plus",.str "less",.str "times",.str "least",.str "most"])) sg=some (.lst (([("plus":Str),"less","times","least","most"]:List Str).map V.str)):=ac
 generalize upd H sg (.lst [.str "plus",.str "less",.str "times",.str "least",.str "most"])=H0 at s0 g0 ⊢
 refine ⟨a,sg,ns,0,3,_,rfl,s0.seq hS,hlen,by decide,by decide,by decide,by decide,g0,by decide,by decide,fun x hx=>by revert x;decide +kernel,fun bv bk H1 hB hok hw0 hdn hup s1=>?_⟩
 refine ⟨_,rfl,bv,bk,rfl,hB,hok,hw0,hdn,fun H2 s2=>⟨true,rfl,aH ?_⟩⟩
 have S2:=s0.trans (s1.trans s2)
 have hB2:=hB.mono (aC s2)
 have hll:(ns.map V.int).length=ns.length:=List.length_map _
 refine ⟨_,rfl,a,_,rfl,.inl (S2.seq hS),20,_,rfl,13,_,rfl,12,_,rfl,?_,?_⟩
 ·rw [hll]
  refine ⟨by decide,by decide,?_,?_⟩ <;> split <;> split <;> omega
 rw [hll]
 refine dU (fun i σ H'=> ∃ o2 o3 o4 o5 o6 o7 o8 o9 o10 o11 o12 bv bk,σ=[some (.ref a),some bv,o2,o3,o4,o5,o6,o7,o8,o9,o10,o11,o12]/\Same H H'/\RepB H' bk bv/\BkV bk/\(∀ s∈bk.sorts,s.downs=[])/\(∀ s∈bk.sorts,1<=s.ups.length))
  ⟨none,none,none,none,none,none,none,none,none,none,none,bv,bk,rfl,S2,hB2,hok,hdn,hup⟩ ?_ ?_
 ·clear hB hB2 hok hw0 hdn hup
  rintro i σ H3 hi ⟨o2,o3,o4,o5,o6,o7,o8,o9,o10,o11,o12,bv,bk,rfl,S3,hB,hok,hdn,hup⟩
  have hi8:i<9:=by
   have:((if (if (ns.length:Int) <20 then (ns.length:Int)else 20) >13 then (if (ns.length:Int) <20 then (ns.length:Int)else 20)else 13) -12).toNat<=8:=by split <;> split <;> omega
   omega
  obtain ⟨b,sa,ga,gv,rfl,hb,hSA,hga,hF⟩:=id hB
  have lF:=hF.len
  have hf1:=hok.f1
  have hfew:=hok.s.few
  refine ⟨_,rfl,_,rfl,a,ns,_,rfl,S3.seq hS,hlen,by omega,by omega,fun tp t0 htp=>?_⟩
  have s4:=ai htp (.lst [.int t0])
  have tt4:Tp (upd H3 tp (.lst [.int t0])) tp:=⟨t0,ac⟩
  generalize upd H3 tp (.lst [.int t0])=H4 at s4 tt4 ⊢
  refine ⟨_,rfl,_,rfl,b,_,2,.ref ga,rfl,rfl,SqT.of (s4 _ _ hb),aB (j:=2) rfl,ga,_,rfl,.inr (SqT.of (s4 _ _ hga)),tp,_,rfl,tt4,by omega,by omega,fun dk t1 hk0 hk1=>?_⟩
  have k5:Kp tp H4 (upd H4 tp (.lst [.int t1])):=Kp.tape
  have tt5:Tp (upd H4 tp (.lst [.int t1])) tp:=⟨t1,ac⟩
  generalize upd H4 tp (.lst [.int t1])=H5 at k5 tt5 ⊢
  have S35:Same H3 H5:=fun c oo h=>k5 c oo (s4 c oo h) (aj h htp)
  obtain ⟨fv,efv,efv'⟩:=cW (xs:=gv) hk0 hk1
  obtain ⟨fr,hfr,hRf⟩:=aL hF efv'
  have hfm:=List.mem_of_getElem? hfr
  obtain ⟨fa,pa,ra,rv,rfl,hfa,hpa,hra,hRr⟩:=id hRf
  obtain ⟨f1,f2',f3',f4',f5'⟩:=hok.s.fo fr hfm
  have lR:=hRr.len
  have h12:=hok.s.rules12 hfm
  obtain ⟨r0,hr0,_⟩:=vU f1 hup f4'
  have hr1l:0<fr.rules.length:=(List.getElem?_eq_some_iff.mp hr0).1
  refine ⟨_,rfl,b,_,2,.ref ga,rfl,rfl,SqT.of (S35 _ _ hb),aB (j:=2) rfl,_,rfl,ga,_,dk,.ref fa,rfl,rfl,SqT.of (S35 _ _ hga),efv,?_⟩
  refine ⟨_,rfl,_,rfl,fa,_,3,.ref ra,rfl,rfl,SqT.of (S35 _ _ hfa),aB (j:=3) rfl,ra,_,rfl,.inr (SqT.of (S35 _ _ hra)),tp,_,rfl,tt5,by omega,by omega,fun dj t2 hj0 hj1=>?_⟩
  have k6:Kp tp H5 (upd H5 tp (.lst [.int t2])):=Kp.tape
  have tt6:Tp (upd H5 tp (.lst [.int t2])) tp:=⟨t2,ac⟩
  generalize upd H5 tp (.lst [.int t2])=H6 at k6 tt6 ⊢
  have S36:Same H3 H6:=fun c oo h=>k6 c oo (S35 c oo h) (aj h htp)
  obtain ⟨rx,erx,erx'⟩:=cW (xs:=rv) hj0 hj1
  obtain ⟨r,hrj,ar,u,rfl,har,hRu⟩:=aL hRr erx'
  have hrm:=List.mem_of_getElem? hrj
  refine ⟨_,rfl,fa,_,3,.ref ra,rfl,rfl,SqT.of (S36 _ _ hfa),aB (j:=3) rfl,_,rfl,ra,_,dj,.ref ar,rfl,rfl,SqT.of (S36 _ _ hra),erx,ar,_,rfl,SqT.of (S36 _ _ har),rfl,_,_,rfl,_,_,rfl,_,_,rfl,rfl,?_⟩
  refine ⟨_,rfl,fa,_,3,.ref ra,rfl,rfl,SqT.of (S36 _ _ hfa),aB (j:=3) rfl,ra,_,rfl,.inr (SqT.of (S36 _ _ hra)),fun rl hrl=>?_⟩
  have nrt:=fk tt6 hrl
  have s7:=ai hrl (.lst rv)
  have g7:(upd H6 rl (.lst rv)) rl=some (.lst rv):=ac
  have tt7:=tt6.same s7
  generalize upd H6 rl (.lst rv)=H7 at s7 g7 tt7 ⊢
  have S37:=S36.trans s7
  have hrl3:=S36.free hrl
  have tk37:=aC S37
  refine ⟨_,rfl,_,rfl,_,rfl,_,rfl,_,rfl,_,rfl,tp,.ref b,u,fa,bk,fr,r.fm,rfl,tt7,hB.mono tk37,hok,hup,hRf.mono tk37,hfm,hRu.mono tk37,hok.rd fr hfm r hrm,(f5' r hrm).2,fun v g H8 hRg hwg hsg k8 tt8=>?_⟩
  have S38:Same H3 H8:=fun c oo h=>k8 c oo (S37 c oo h) (aj h htp)
  have g8:=k8 _ _ g7 nrt
  refine ⟨(by show 3<=sizeLine;decide),fun p9 hp9=>?_⟩
  have s9:=ai hp9 (.tup [.int r.pl,.str r.word,v])
  have g9:(upd H8 p9 (.tup [.int r.pl,.str r.word,v])) p9=some (.tup [.int r.pl,.str r.word,v]):=ac
  have tt9:=tt8.same s9
  have gr9:=s9 _ _ g8
  generalize upd H8 p9 (.tup [.int r.pl,.str r.word,v])=H9 at s9 g9 tt9 gr9 ⊢
  have S39:=S38.trans s9
  refine ⟨_,rfl,_,rfl,rl,rv,dj,dj.toNat,rfl,rfl,gr9,pi hj0 hj1,?_⟩
  have tk10:TK H9 (upd H9 rl (.lst (rv.set dj.toNat (.ref p9)))):=TK.lst gr9
  have g10:(upd H9 rl (.lst (rv.set dj.toNat (.ref p9)))) rl=some (.lst (rv.set dj.toNat (.ref p9))):=ac
  have S310:Same H3 (upd H9 rl (.lst (rv.set dj.toNat (.ref p9)))):=fun c oo h=>by rw [am (aj h hrl3)];exact S39 c oo h
  have tt10:Tp (upd H9 rl (.lst (rv.set dj.toNat (.ref p9)))) tp:=by
   obtain ⟨t,ht⟩:=tt9
   exact ⟨t,by rw [am (Ne.symm nrt)];exact ht⟩
  have hR10:RepRs (upd H9 rl (.lst (rv.set dj.toNat (.ref p9)))) (fr.rules.set dj.toNat ⟨r.pl,r.word,g⟩) (rv.set dj.toNat (.ref p9)):=
   fE (F:=RepR _) (a:=⟨r.pl,r.word,g⟩) (b:=.ref p9) ⟨p9,v,rfl,tk10 _ _ g9,(hRg.mono (aC s9)).mono tk10⟩ _ (RepRs.mono (aC S310) hRr)
  generalize upd H9 rl (.lst (rv.set dj.toNat (.ref p9)))=H10 at g10 S310 tt10 hR10 ⊢
  refine ⟨_,rfl,b,_,2,.ref ga,rfl,rfl,SqT.of (S310 _ _ hb),aB (j:=2) rfl,ga,_,rfl,.inr (SqT.of (S310 _ _ hga)),fun fl hfl=>?_⟩
  have nft:=fk tt10 hfl
  have nfr:rl≠fl:=aj g10 hfl
  have s11:=ai hfl (.lst gv)
  have g11:(upd H10 fl (.lst gv)) fl=some (.lst gv):=ac
  generalize upd H10 fl (.lst gv)=H11 at s11 g11 ⊢
  have S311:=S310.trans s11
  have hfl3:=S310.free hfl
  refine ⟨_,rfl,3,rfl,fa,_,rfl,S311 _ _ hfa,fun p12 H12 s12 g12=>?_⟩
  rw [show dW [V.str fr.name,.str fr.own.name,.ref pa,.ref ra] none (some 3)=[V.str fr.name,.str fr.own.name,.ref pa]from rfl]at g12
  have gr12:=s12 _ _ (s11 _ _ g10)
  refine ⟨_,rfl,rl,_,rfl,.inl ⟨SqL.of gr12,fun p13 hp13=>?_⟩⟩
  have s13:=ai hp13 (.tup (rv.set dj.toNat (.ref p9)))
  have g13:(upd H12 p13 (.tup (rv.set dj.toNat (.ref p9)))) p13=some (.tup (rv.set dj.toNat (.ref p9))):=ac
  generalize upd H12 p13 (.tup (rv.set dj.toNat (.ref p9)))=H13 at s13 g13 ⊢
  refine ⟨(by show 1<=sizeLine;decide),fun p14 hp14=>?_⟩
  have s14:=ai hp14 (.tup [.ref p13])
  have g14:(upd H13 p14 (.tup [.ref p13])) p14=some (.tup [.ref p13]):=ac
  generalize upd H13 p14 (.tup [.ref p13])=H14 at s14 g14 ⊢
  refine ⟨p12,p14,_,_,rfl,rfl,s14 _ _ (s13 _ _ g12),g14,(by show 4<=sizeLine;decide),fun p15 H15 s15 g15=>?_⟩
  have S1115:Same H11 H15:=fun c oo h=>s15 _ _ (s14 _ _ (s13 _ _ (s12 _ _ h)))
  have S315:Same H3 H15:=S311.trans S1115
  have g15f:=S1115 _ _ g11
  refine ⟨_,rfl,_,rfl,fl,gv,dk,dk.toNat,rfl,rfl,g15f,pi hk0 hk1,?_⟩
  have tk16:TK H15 (upd H15 fl (.lst (gv.set dk.toNat (.ref p15)))):=TK.lst g15f
  have g16:(upd H15 fl (.lst (gv.set dk.toNat (.ref p15)))) fl=some (.lst (gv.set dk.toNat (.ref p15))):=ac
  have S316:Same H3 (upd H15 fl (.lst (gv.set dk.toNat (.ref p15)))):=fun c oo h=>by rw [am (aj h hfl3)];exact S315 c oo h
  have tt16:Tp (upd H15 fl (.lst (gv.set dk.toNat (.ref p15)))) tp:=by
   obtain ⟨t,ht⟩:=(tt10.same s11).same S1115
   exact ⟨t,by rw [am (Ne.symm nft)];exact ht⟩
  have hF16:RepFs (upd H15 fl (.lst (gv.set dk.toNat (.ref p15)))) (bk.put dk.toNat dj.toNat fr r g).forms (gv.set dk.toNat (.ref p15)):=
   fE (F:=RepF _) (a:=⟨fr.name,fr.own,fr.parts,fr.rules.set dj.toNat ⟨r.pl,r.word,g⟩⟩) (b:=.ref p15)
    ⟨p15,pa,p13,_,rfl,tk16 _ _ g15,tk16 _ _ (S315 _ _ hpa),tk16 _ _ (s15 _ _ (s14 _ _ g13)),(hR10.mono ((aC s11).trans (aC S1115))).mono tk16⟩ _ (RepFs.mono (aC S316) hF)
  generalize upd H15 fl (.lst (gv.set dk.toNat (.ref p15)))=H16 at g16 S316 tt16 hF16 ⊢
  refine ⟨_,rfl,b,_,1,.ref sa,rfl,rfl,SqT.of (S316 _ _ hb),aB (j:=1) rfl,_,rfl,fl,_,rfl,.inl ⟨SqL.of g16,fun p17 hp17=>?_⟩⟩
  have s17:=ai hp17 (.tup (gv.set dk.toNat (.ref p15)))
  have g17:(upd H16 p17 (.tup (gv.set dk.toNat (.ref p15)))) p17=some (.tup (gv.set dk.toNat (.ref p15))):=ac
  generalize upd H16 p17 (.tup (gv.set dk.toNat (.ref p15)))=H17 at s17 g17 ⊢
  refine ⟨(by show 3<=sizeLine;decide),fun p18 hp18=>?_⟩
  have s18:=ai hp18 (.tup [.int 0,.ref sa,.ref p17])
  have g18:(upd H17 p18 (.tup [.int 0,.ref sa,.ref p17])) p18=some (.tup [.int 0,.ref sa,.ref p17]):=ac
  generalize upd H17 p18 (.tup [.int 0,.ref sa,.ref p17])=H18 at s18 g18 ⊢
  have S1618:=s17.trans s18
  have S318:=S316.trans S1618
  have hBn:RepB H18 (bk.put dk.toNat dj.toNat fr r g) (.ref p18):=⟨p18,sa,p17,_,rfl,g18,hSA.mono (aC S318),s18 _ _ g17,hF16.mono (aC S1618)⟩
  have hokn:BkV (bk.put dk.toNat dj.toNat fr r g):=hok.put hfr hrj hwg hsg
  refine ⟨_,rfl,.ref p18,_,rfl,hBn,hokn,rfl,hdn,fun H19 s19=>⟨true,rfl,aH ?_⟩⟩
  have S319:=S318.trans s19
  have tt19:=(tt16.same S1618).same s19
  refine ⟨_,rfl,tp,2,rfl,tt19,by decide,by decide,fun d3 t3 _ _=>?_⟩
  have k20:Kp tp H19 (upd H19 tp (.lst [.int t3])):=Kp.tape
  generalize upd H19 tp (.lst [.int t3])=H20 at k20 ⊢
  have S320:Same H3 H20:=fun c oo h=>k20 c oo (S319 c oo h) (aj h htp)
  have tk20:=k20.tk tt19
  refine ⟨rfl,_,rfl,?_⟩
  refine bo (fun c=>?_) (fun c=>?_)
  ·exact ⟨_,rfl,_,_,_,_,_,_,_,_,_,_,_,.ref p18,bk.put dk.toNat dj.toNat fr r g,rfl,S3.trans S320,(hBn.mono (aC s19)).mono tk20,hokn,hdn,hup⟩
  ·exact ⟨_,_,_,_,_,_,_,_,_,_,_,.ref b,bk,rfl,S3.trans S320,hB.mono (aC S320),hok,hdn,hup⟩
 ·rintro σ H3 ⟨o2,o3,o4,o5,o6,o7,o8,o9,o10,o11,o12,bv,bk,rfl,S3,hB,hok,hdn,hup⟩
  exact q _
theorem uz {P:Program} {w:World} {K:PySem.W.Frag} {aD:Addr} {h1 h2 h3 h4 h5 h6:Int} {t1 t2 t3 t4 t5 t6 u1 u2 u3 u4 u5 u6:Tok} {ep:Nat}
  (lD:K.lookup aD=some ⟨.type "dict",none,.dict #[⟨h1,.str "plus" t1,.int 2 u1⟩,⟨h2,.str "less" t2,.int 2 u2⟩,⟨h3,.str "times" t3,.int 2 u3⟩,⟨h4,.str "least" t4,.int 2 u4⟩,⟨h5,.str "most" t5,.int 2 u5⟩,⟨h6,.str "when" t6,.int 3 u6⟩] ep,#[]⟩)
  (e1:h1=hashStr w "plus") (e2:h2=hashStr w "less") (e3:h3=hashStr w "times") (e4:h4=hashStr w "least") (e5:h5=hashStr w "most") (e6:h6=hashStr w "when") (nD:(aD==sysModules)=false):qD P w K aD gf:=by
 refine ⟨nD,fun h X=>⟨[(.inr "plus",.int 2 u1),(.inr "less",.int 2 u2),(.inr "times",.int 2 u3),(.inr "least",.int 2 u4),(.inr "most",.int 2 u5),(.inr "when",.int 3 u6)],?_,?_⟩⟩
 ·exact .cons ⟨rfl,_,rfl⟩ (.cons ⟨rfl,_,rfl⟩ (.cons ⟨rfl,_,rfl⟩ (.cons ⟨rfl,_,rfl⟩ (.cons ⟨rfl,_,rfl⟩ (.cons ⟨rfl,_,rfl⟩ .nil)))))
 ·refine ⟨_,_,_,X _ _ lD,⟨rfl,rfl,rfl⟩,rfl,?_,?_,by dsimp only [List.map];decide +kernel⟩
  ·intro e he
   simp only [List.mem_toArray,List.mem_cons,List.not_mem_nil,or_false]at he
   rcases he with rfl | rfl | rfl | rfl | rfl | rfl
   ·exact ⟨.inr "plus",bg "plus" t1,e1⟩
   ·exact ⟨.inr "less",bg "less" t2,e2⟩
   ·exact ⟨.inr "times",bg "times" t3,e3⟩
   ·exact ⟨.inr "least",bg "least" t4,e4⟩
   ·exact ⟨.inr "most",bg "most" t5,e5⟩
   ·exact ⟨.inr "when",bg "when" t6,e6⟩
  ·exact .cons (bg "plus" t1) rfl (.cons (bg "less" t2) rfl (.cons (bg "times" t3) rfl (.cons (bg "least" t4) rfl (.cons (bg "most" t5) rfl (.cons (bg "when" t6) rfl .nil)))))
theorem aU {α:Type} {l:List α} (h:l.length=1): ∃ a,l=[a]:=by
 match l,h with
 | [a],_=>exact ⟨a,rfl⟩
theorem cD {α:Type} {l:List α} (h:l.length=2): ∃ a b,l=[a,b]:=by
 match l,h with
 | [a,b],_=>exact ⟨a,b,rfl⟩
theorem oj {α:Type} {l:List α} (h:l.length=3): ∃ a b c,l=[a,b,c]:=by
 match l,h with
 | [a,b,c],_=>exact ⟨a,b,c,rfl⟩
theorem oi {α:Type} {l:List α} (h:l.length=4): ∃ a b c d,l=[a,b,c,d]:=by
 match l,h with
 | [a,b,c,d],_=>exact ⟨a,b,c,d,rfl⟩
theorem xt {α:Type} {l:List α} (h:l.length=5): ∃ a b c d e,l=[a,b,c,d,e]:=by
 match l,h with
 | [a,b,c,d,e],_=>exact ⟨a,b,c,d,e,rfl⟩
theorem xr {α:Type} {l:List α} (h:l.length=6): ∃ a b c d e f,l=[a,b,c,d,e,f]:=by
 match l,h with
 | [a,b,c,d,e,f],_=>exact ⟨a,b,c,d,e,f,rfl⟩
theorem rq {K:PySem.W.Frag} {aR:Addr} {od:Option Addr} {sl:Array (Option Value)} {t1 t2:Tok} {m:Nat} (l:K.lookup aR=some ⟨.type "tuple",od,.seq #[.str "own" t1,.str "part" t2] m,sl⟩): ∀ H,SqT K H aR [.str "own",.str "part"]:=
 fun H=>.inr ⟨_,_,_,l,rfl,rfl,(show 2<=sizeLine by decide),.cons ⟨_,rfl⟩ (.cons ⟨_,rfl⟩ .nil)⟩
/-- what is told of a def -/
structure Df (K:PySem.W.Frag) (nm:Str) (st:Stmt) (f:Addr) (fd:FuncData):Prop where
 a:PySem.W.nsIn K mainGlobals nm=some (some (.ref f))
 k:PySem.W.keepIn K (.ref f)=true
 F:Fun K nm nm st f fd
theorem Df.m {K:PySem.W.Frag} {nm:Str} {st:Stmt} {f:Addr} {fd:FuncData} {h:Heap} {mg:Str->Option Value} (d:Df K nm st f fd) (X:K.In h) (G:h.Ns mainGlobals mg):mg nm=some (.ref f):=PySem.W.mg_of X G d.a
theorem Df.of {K:PySem.W.Frag} {nm:Str} {st:Stmt} {f:Addr} {oc:Value} {od an:Option Addr} {osl:Array (Option Value)} {kV doc pm cdv ct:Value} (a:PySem.W.nsIn K mainGlobals nm=some (some (.ref f))) (k:PySem.W.keepIn K (.ref f)=true)
  (l:K.lookup f=some ⟨oc,od,.func (PySem.W.fnOf nm nm (gh st) (cs st) (ag st) .none kV doc pm an cdv ct),osl⟩) (c:PySem.W.codeIn K cdv nm=true):Df K nm st f (PySem.W.fnOf nm nm (gh st) (cs st) (ag st) .none kV doc pm an cdv ct):=
 ⟨a,k,⟨⟨oc,od,kV,doc,pm,an,cdv,ct,osl,rfl,l,c⟩,k⟩⟩
theorem all_mk {l:PySem.W.OpenLaw} {w:World} {K:PySem.W.Frag} {h:Heap} {mg:Str->Option Value} {fa aD aR f1 f2 f3 f4 f5 f6 f7 f8 f9 f10 f11 f12 f13 f14 f15 f16 f17 f18 f19 f20 f21 f22 f23 f24 f25 f26 f27 f28 f29 f30 f31 f32 f33 f34 f35 f36 f37 f38 f39 f40 f41 f42 f43 f44 f45 f46 f47 f48 f49 f50 f51 f52 f53 f54 f55 f56 f57 f58:Addr} {r1 r2 r3 r4 r5 r6 r7 r8 r9 r10 r11 r12 r13 r14 r15 r16 r17 r18 r19 r20 r21 r22 r23 r24 r25 r26 r27 r28 r29 r30 r31 r32 r33 r34 r35 r36 r37 r38 r39 r40 r41 r42 r43 r44 r45 r46 r47 r48 r49 r50 r51 r52 r53 r54 r55 r56 r57 r58:FuncData} (X:K.In h) (G:h.Ns mainGlobals mg) (hfa:mg "law"=some (.ref fa))
  {odR:Option Addr} {slR:Array (Option Value)} {w1 w2 t1 t2 t3 t4 t5 t6 u1 u2 u3 u4 u5 u6 q1 q2 q3 q4 q5 q6 q7 q8:Tok} {h1 h2 h3 h4 h5 h6:Int} {ep mR:Nat}
  (d1:Df K "is_whole" ni f1 r1)
  (d2:Df K "is_whole_within" jR f2 r2)
  (d3:Df K "is_word" oD f3 r3)
  (d4:Df K "is_formula" rh f4 r4)
  (d5:Df K "is_head" rg f5 r5)
  (d6:Df K "inner_of" nr f6 r6)
  (d7:Df K "tuples_of" jT f7 r7)
  (d8:Df K "readings_of" nj f8 r8)
  (d9:Df K "why_no_book" qZ f9 r9)
  (d10:Df K "wheel_of" iC f10 r10)
  (d11:Df K "sorts_of" iD f11 r11)
  (d12:Df K "forms_of" iI f12 r12)
  (d13:Df K "sort_named" ef f13 r13)
  (d14:Df K "downs_of" nu f14 r14)
  (d15:Df K "ups_of" uV f15 r15)
  (d16:Df K "worths_of_sort" gI f16 r16)
  (d17:Df K "sort_of_form" eJ f17 r17)
  (d18:Df K "parts_of" iF f18 r18)
  (d19:Df K "rules_of" iE f19 r19)
  (d20:Df K "keys_of" ig f20 r20)
  (d21:Df K "key_of" nn f21 r21)
  (d22:Df K "sort_at" jU f22 r22)
  (d23:Df K "formulas_by_key" j9 f23 r23)
  (d24:Df K "due_keys" eN f24 r24)
  (d25:Df K "has_shape" dQ f25 r25)
  (d26:Df K "is_row" nq f26 r26)
  (d27:Df K "is_row_of_words" fe f27 r27)
  (d28:Df K "is_wheel" iH f28 r28)
  (d29:Df K "has_sort_shape" fC f29 r29)
  (d30:Df K "has_form_shape" eh f30 r30)
  (d31:Df K "has_rule_shape" fD f31 r31)
  (d32:Df K "has_names" cM f32 r32)
  (d33:Df K "are_unlike" jS f33 r33)
  (d34:Df K "has_formulas" ff f34 r34)
  (d35:Df K "is_told" j0 f35 r35)
  (d36:Df K "is_level" eM f36 r36)
  (d37:Df K "is_level_formula" ie f37 r37)
  (d38:Df K "parts_read" eg f38 r38)
  (d39:Df K "_law_cell_at" rj f39 r39)
  (d40:Df K "_law_tape" q9 f40 r40)
  (d41:Df K "_law_digit" nv f41 r41)
  (d42:Df K "_law_names" eK f42 r42)
  (d43:Df K "_law_number" jW f43 r43)
  (d44:Df K "_law_leaf" rf f44 r44)
  (d45:Df K "_law_whole" jY f45 r45)
  (d46:Df K "_law_same" rc f46 r46)
  (d47:Df K "_law_reads" jZ f47 r47)
  (d48:Df K "_law_is_word" fS f48 r48)
  (d49:Df K "_law_tuples" eL f49 r49)
  (d50:Df K "_law_parts_in" fR f50 r50)
  (d51:Df K "_law_level_formula_is" jX f51 r51)
  (d52:Df K "_law_level_is" re f52 r52)
  (d53:Df K "_law_level_formula" cL f53 r53)
  (d54:Df K "_law_level_sorts" iG f54 r54)
  (d55:Df K "_law_level_book" cq f55 r55)
  (d56:Df K "_law_more" cI f56 r56)
  (d57:Df K "_law_right" jV f57 r57)
  (d58:Df K "law" jv f58 r58)
  (z1:PySem.W.nsIn K mainGlobals "isinstance"=some none)
  (z2:PySem.W.nsIn K mainGlobals "int"=some none)
  (z3:PySem.W.nsIn K mainGlobals "bool"=some none)
  (z4:PySem.W.nsIn K mainGlobals "str"=some none)
  (z5:PySem.W.nsIn K mainGlobals "tuple"=some none)
  (z6:PySem.W.nsIn K mainGlobals "len"=some none)
  (z7:PySem.W.nsIn K mainGlobals "all"=some none)
  (z8:PySem.W.nsIn K mainGlobals "range"=some none)
  (z9:PySem.W.nsIn K mainGlobals "max"=some none)
  (z10:PySem.W.nsIn K mainGlobals "min"=some none)
  (z11:PySem.W.nsIn K mainGlobals "list"=some none)
  (z12:PySem.W.nsIn K mainGlobals "zip"=some none)
  (z13:PySem.W.nsIn K mainGlobals "set"=some none)
  (z14:PySem.W.nsIn K mainGlobals "any"=some none)
  (z15:PySem.W.nsIn K mainGlobals "enumerate"=some none)
  (z16:PySem.W.nsIn K mainGlobals "abs"=some none)
  (z17:PySem.W.nsIn K mainGlobals "sum"=some none)
  (i1:PySem.W.nsIn K mainGlobals "MOST_LETTERS"=some (some (.int 8 q1)))
  (i2:PySem.W.nsIn K mainGlobals "MOST_TUPLES"=some (some (.int 15 q2)))
  (i3:PySem.W.nsIn K mainGlobals "MOST_NUM"=some (some (.int 999999 q3)))
  (i4:PySem.W.nsIn K mainGlobals "MOST_PART"=some (some (.int 2 q4)))
  (i5:PySem.W.nsIn K mainGlobals "MOST_SORTS"=some (some (.int 4 q5)))
  (i6:PySem.W.nsIn K mainGlobals "MOST_WORTHS"=some (some (.int 3 q6)))
  (i7:PySem.W.nsIn K mainGlobals "MOST_FORMS"=some (some (.int 10 q7)))
  (i8:PySem.W.nsIn K mainGlobals "MOST_PARTS"=some (some (.int 3 q8)))
  (aI:PySem.W.nsIn K mainGlobals "INNER_COUNTS"=some (some (.ref aD)))
  (lD:K.lookup aD=some ⟨.type "dict",none,.dict #[⟨h1,.str "plus" t1,.int 2 u1⟩,⟨h2,.str "less" t2,.int 2 u2⟩,⟨h3,.str "times" t3,.int 2 u3⟩,⟨h4,.str "least" t4,.int 2 u4⟩,⟨h5,.str "most" t5,.int 2 u5⟩,⟨h6,.str "when" t6,.int 3 u6⟩] ep,#[]⟩)
  (e1:h1=hashStr w "plus")    (e2:h2=hashStr w "less")    (e3:h3=hashStr w "times")    (e4:h4=hashStr w "least")    (e5:h5=hashStr w "most")    (e6:h6=hashStr w "when")
  (nD:(aD==sysModules)=false)
  (aQ:PySem.W.nsIn K mainGlobals "READINGS"=some (some (.ref aR))) (lR:K.lookup aR=some ⟨.type "tuple",odR,.seq #[.str "own" w1,.str "part" w2] mR,slR⟩):
  ∃ fd:FuncData,(∀ (s:Shared) (v:Value),BindsTo s fd ⟨[v],[]⟩ [("script",v)])/\ ∀ base:Heap,K.In base->base.Ns mainGlobals mg->FnOk l.prog w K mg base CX0 26 fa fd ["script"] (oz K):=by
 have e:=hfa.symm.trans (d58.m X G)
 cases e
 have b1:=d1.F.binds (ps:=["thing"]) fun _ _ _ _ _ _ us hl=>by obtain ⟨x,rfl⟩:=aU hl;rfl
 have m1:=d1.m X G
 have b2:=d2.F.binds (ps:=["thing","lowest","highest"]) fun _ _ _ _ _ _ us hl=>by obtain ⟨x,y,z,rfl⟩:=oj hl;rfl
 have m2:=d2.m X G
 have b3:=d3.F.binds (ps:=["thing"]) fun _ _ _ _ _ _ us hl=>by obtain ⟨x,rfl⟩:=aU hl;rfl
 have m3:=d3.m X G
 have b4:=d4.F.binds (ps:=["thing"]) fun _ _ _ _ _ _ us hl=>by obtain ⟨x,rfl⟩:=aU hl;rfl
 have m4:=d4.m X G
 have b5:=d5.F.binds (ps:=["thing"]) fun _ _ _ _ _ _ us hl=>by obtain ⟨x,rfl⟩:=aU hl;rfl
 have m5:=d5.m X G
 have b6:=d6.F.binds (ps:=["formula"]) fun _ _ _ _ _ _ us hl=>by obtain ⟨x,rfl⟩:=aU hl;rfl
 have m6:=d6.m X G
 have b7:=d7.F.binds (ps:=["formula"]) fun _ _ _ _ _ _ us hl=>by obtain ⟨x,rfl⟩:=aU hl;rfl
 have m7:=d7.m X G
 have b8:=d8.F.binds (ps:=["formula"]) fun _ _ _ _ _ _ us hl=>by obtain ⟨x,rfl⟩:=aU hl;rfl
 have m8:=d8.m X G
 have b9:=d9.F.binds (ps:=["thing"]) fun _ _ _ _ _ _ us hl=>by obtain ⟨x,rfl⟩:=aU hl;rfl
 have m9:=d9.m X G
 have b10:=d10.F.binds (ps:=["book"]) fun _ _ _ _ _ _ us hl=>by obtain ⟨x,rfl⟩:=aU hl;rfl
 have m10:=d10.m X G
 have b11:=d11.F.binds (ps:=["book"]) fun _ _ _ _ _ _ us hl=>by obtain ⟨x,rfl⟩:=aU hl;rfl
 have m11:=d11.m X G
 have b12:=d12.F.binds (ps:=["book"]) fun _ _ _ _ _ _ us hl=>by obtain ⟨x,rfl⟩:=aU hl;rfl
 have m12:=d12.m X G
 have b13:=d13.F.binds (ps:=["book","name"]) fun _ _ _ _ _ _ us hl=>by obtain ⟨x,y,rfl⟩:=cD hl;rfl
 have m13:=d13.m X G
 have b14:=d14.F.binds (ps:=["book","sort"]) fun _ _ _ _ _ _ us hl=>by obtain ⟨x,y,rfl⟩:=cD hl;rfl
 have m14:=d14.m X G
 have b15:=d15.F.binds (ps:=["book","sort"]) fun _ _ _ _ _ _ us hl=>by obtain ⟨x,y,rfl⟩:=cD hl;rfl
 have m15:=d15.m X G
 have b16:=d16.F.binds (ps:=["book","sort"]) fun _ _ _ _ _ _ us hl=>by obtain ⟨x,y,rfl⟩:=cD hl;rfl
 have m16:=d16.m X G
 have b17:=d17.F.binds (ps:=["form"]) fun _ _ _ _ _ _ us hl=>by obtain ⟨x,rfl⟩:=aU hl;rfl
 have m17:=d17.m X G
 have b18:=d18.F.binds (ps:=["form"]) fun _ _ _ _ _ _ us hl=>by obtain ⟨x,rfl⟩:=aU hl;rfl
 have m18:=d18.m X G
 have b19:=d19.F.binds (ps:=["form"]) fun _ _ _ _ _ _ us hl=>by obtain ⟨x,rfl⟩:=aU hl;rfl
 have m19:=d19.m X G
 have b20:=d20.F.binds (ps:=["form"]) fun _ _ _ _ _ _ us hl=>by obtain ⟨x,rfl⟩:=aU hl;rfl
 have m20:=d20.m X G
 have b21:=d21.F.binds (ps:=["reading"]) fun _ _ _ _ _ _ us hl=>by obtain ⟨x,rfl⟩:=aU hl;rfl
 have m21:=d21.m X G
 have b22:=d22.F.binds (ps:=["form","at"]) fun _ _ _ _ _ _ us hl=>by obtain ⟨x,y,rfl⟩:=cD hl;rfl
 have m22:=d22.m X G
 have b23:=d23.F.binds (ps:=["form"]) fun _ _ _ _ _ _ us hl=>by obtain ⟨x,rfl⟩:=aU hl;rfl
 have m23:=d23.m X G
 have b24:=d24.F.binds (ps:=["book","form"]) fun _ _ _ _ _ _ us hl=>by obtain ⟨x,y,rfl⟩:=cD hl;rfl
 have m24:=d24.m X G
 have b25:=d25.F.binds (ps:=["thing"]) fun _ _ _ _ _ _ us hl=>by obtain ⟨x,rfl⟩:=aU hl;rfl
 have m25:=d25.m X G
 have b26:=d26.F.binds (ps:=["thing","fewest","most"]) fun _ _ _ _ _ _ us hl=>by obtain ⟨x,y,z,rfl⟩:=oj hl;rfl
 have m26:=d26.m X G
 have b27:=d27.F.binds (ps:=["thing","most"]) fun _ _ _ _ _ _ us hl=>by obtain ⟨x,y,rfl⟩:=cD hl;rfl
 have m27:=d27.m X G
 have b28:=d28.F.binds (ps:=["thing"]) fun _ _ _ _ _ _ us hl=>by obtain ⟨x,rfl⟩:=aU hl;rfl
 have m28:=d28.m X G
 have b29:=d29.F.binds (ps:=["thing"]) fun _ _ _ _ _ _ us hl=>by obtain ⟨x,rfl⟩:=aU hl;rfl
 have m29:=d29.m X G
 have b30:=d30.F.binds (ps:=["thing"]) fun _ _ _ _ _ _ us hl=>by obtain ⟨x,rfl⟩:=aU hl;rfl
 have m30:=d30.m X G
 have b31:=d31.F.binds (ps:=["thing"]) fun _ _ _ _ _ _ us hl=>by obtain ⟨x,rfl⟩:=aU hl;rfl
 have m31:=d31.m X G
 have b32:=d32.F.binds (ps:=["book"]) fun _ _ _ _ _ _ us hl=>by obtain ⟨x,rfl⟩:=aU hl;rfl
 have m32:=d32.m X G
 have b33:=d33.F.binds (ps:=["words"]) fun _ _ _ _ _ _ us hl=>by obtain ⟨x,rfl⟩:=aU hl;rfl
 have m33:=d33.m X G
 have b34:=d34.F.binds (ps:=["book","form"]) fun _ _ _ _ _ _ us hl=>by obtain ⟨x,y,rfl⟩:=cD hl;rfl
 have m34:=d34.m X G
 have b35:=d35.F.binds (ps:=["book","form","reading"]) fun _ _ _ _ _ _ us hl=>by obtain ⟨x,y,z,rfl⟩:=oj hl;rfl
 have m35:=d35.m X G
 have b36:=d36.F.binds (ps:=["book"]) fun _ _ _ _ _ _ us hl=>by obtain ⟨x,rfl⟩:=aU hl;rfl
 have m36:=d36.m X G
 have b37:=d37.F.binds (ps:=["formula"]) fun _ _ _ _ _ _ us hl=>by obtain ⟨x,rfl⟩:=aU hl;rfl
 have m37:=d37.m X G
 have b38:=d38.F.binds (ps:=["formula"]) fun _ _ _ _ _ _ us hl=>by obtain ⟨x,rfl⟩:=aU hl;rfl
 have m38:=d38.m X G
 have b39:=d39.F.binds (ps:=["script","k"]) fun _ _ _ _ _ _ us hl=>by obtain ⟨x,y,rfl⟩:=cD hl;rfl
 have m39:=d39.m X G
 have b40:=d40.F.binds (ps:=["script","k"]) fun _ _ _ _ _ _ us hl=>by obtain ⟨x,y,rfl⟩:=cD hl;rfl
 have m40:=d40.m X G
 have b41:=d41.F.binds (ps:=["tape","many"]) fun _ _ _ _ _ _ us hl=>by obtain ⟨x,y,rfl⟩:=cD hl;rfl
 have m41:=d41.m X G
 have b42:=d42.F.binds (ps:=["tape","many"]) fun _ _ _ _ _ _ us hl=>by obtain ⟨x,y,rfl⟩:=cD hl;rfl
 have m42:=d42.m X G
 have b43:=d43.F.binds (ps:=["tape"]) fun _ _ _ _ _ _ us hl=>by obtain ⟨x,rfl⟩:=aU hl;rfl
 have m43:=d43.m X G
 have b44:=d44.F.binds (ps:=["tape","readings"]) fun _ _ _ _ _ _ us hl=>by obtain ⟨x,y,rfl⟩:=cD hl;rfl
 have m44:=d44.m X G
 have b45:=d45.F.binds (ps:=["found"]) fun _ _ _ _ _ _ us hl=>by obtain ⟨x,rfl⟩:=aU hl;rfl
 have m45:=d45.m X G
 have b46:=d46.F.binds (ps:=["found","due"]) fun _ _ _ _ _ _ us hl=>by obtain ⟨x,y,rfl⟩:=cD hl;rfl
 have m46:=d46.m X G
 have b47:=d47.F.binds (ps:=["formula"]) fun _ _ _ _ _ _ us hl=>by obtain ⟨x,rfl⟩:=aU hl;rfl
 have m47:=d47.m X G
 have b48:=d48.F.binds (ps:=["thing"]) fun _ _ _ _ _ _ us hl=>by obtain ⟨x,rfl⟩:=aU hl;rfl
 have m48:=d48.m X G
 have b49:=d49.F.binds (ps:=["thing"]) fun _ _ _ _ _ _ us hl=>by obtain ⟨x,rfl⟩:=aU hl;rfl
 have m49:=d49.m X G
 have b50:=d50.F.binds (ps:=["formula"]) fun _ _ _ _ _ _ us hl=>by obtain ⟨x,rfl⟩:=aU hl;rfl
 have m50:=d50.m X G
 have b51:=d51.F.binds (ps:=["formula"]) fun _ _ _ _ _ _ us hl=>by obtain ⟨x,rfl⟩:=aU hl;rfl
 have m51:=d51.m X G
 have b52:=d52.F.binds (ps:=["book"]) fun _ _ _ _ _ _ us hl=>by obtain ⟨x,rfl⟩:=aU hl;rfl
 have m52:=d52.m X G
 have b53:=d53.F.binds (ps:=["tape","readings","room","signs"]) fun _ _ _ _ _ _ us hl=>by obtain ⟨x,y,z,u,rfl⟩:=oi hl;rfl
 have m53:=d53.m X G
 have b54:=d54.F.binds (ps:=["tape","ups"]) fun _ _ _ _ _ _ us hl=>by obtain ⟨x,y,rfl⟩:=cD hl;rfl
 have m54:=d54.m X G
 have b55:=d55.F.binds (ps:=["script","start","ups","signs"]) fun _ _ _ _ _ _ us hl=>by obtain ⟨x,y,z,u,rfl⟩:=oi hl;rfl
 have m55:=d55.m X G
 have b56:=d56.F.binds (ps:=["tape","book","formula","form"]) fun _ _ _ _ _ _ us hl=>by obtain ⟨x,y,z,u,rfl⟩:=oi hl;rfl
 have m56:=d56.m X G
 have b57:=d57.F.binds (ps:=["book"]) fun _ _ _ _ _ _ us hl=>by obtain ⟨x,rfl⟩:=aU hl;rfl
 have m57:=d57.m X G
 have Gb0:Gb mg:=⟨PySem.W.mg_none_of X G z1,PySem.W.mg_none_of X G z2,PySem.W.mg_none_of X G z3,PySem.W.mg_none_of X G z4,PySem.W.mg_none_of X G z5,PySem.W.mg_none_of X G z6,PySem.W.mg_none_of X G z7,PySem.W.mg_none_of X G z8,PySem.W.mg_none_of X G z9,PySem.W.mg_none_of X G z10⟩
 have D:qD l.prog w K aD gf:=uz lD e1 e2 e3 e4 e5 e6 nD
 have mI:=PySem.W.mg_of X G aI
 have mQ:=PySem.W.mg_of X G aQ
 have hR:=rq lR
 have v11:=PySem.W.mg_none_of X G z11
 have v12:=PySem.W.mg_none_of X G z12
 have v13:=PySem.W.mg_none_of X G z13
 have v14:=PySem.W.mg_none_of X G z14
 have v15:=PySem.W.mg_none_of X G z15
 have v16:=PySem.W.mg_none_of X G z16
 have v17:=PySem.W.mg_none_of X G z17
 have j1:=PySem.W.mg_of X G i1
 have j2:=PySem.W.mg_of X G i2
 have j3:=PySem.W.mg_of X G i3
 have j4:=PySem.W.mg_of X G i4
 have j5:=PySem.W.mg_of X G i5
 have j6:=PySem.W.mg_of X G i6
 have j7:=PySem.W.mg_of X G i7
 have j8:=PySem.W.mg_of X G i8
 have F58:=d58.F
 obtain ⟨_,_,kV,dc,pm,an,cd,ct,_,rfl,_,_⟩:=d58.F.ex
 refine ⟨PySem.W.fnOf "law" "law" (gh jv) (cs jv) (ag jv) .none kV dc pm an cd ct,fun s v=>.of_eq rfl,fun base _ _=>?_⟩
 have g_whole:=rM (P:=l.prog) (w:=w) (mg:=mg) (base:=base) d1.F Gb0
 have g_within:=pV d2.F g_whole b1 d1.k m1
 have g_word:=tY (P:=l.prog) (w:=w) (mg:=mg) (base:=base) d3.F Gb0 j1
 have g_head:=ug d5.F Gb0 mI D j3 j4 g_within b2 d2.k m2 g_word b3 d3.k m3
 have g_inner:=rX (base:=base) d6.F mI D
 have g_form:=uh d4.F j2 g_head b5 d5.k m5 g_inner b6 d6.k m6
 have g_tuples:=pX d7.F g_inner b6 d6.k m6
 have g_reads:=rO d8.F v11 mQ hR g_tuples b7 d7.k m7
 have g_wheelOf:=nG (P:=l.prog) (w:=w) (mg:=mg) (base:=base) d10.F
 have g_sortsOf:=nH (P:=l.prog) (w:=w) (mg:=mg) (base:=base) d11.F
 have g_forms:=nQ (P:=l.prog) (w:=w) (mg:=mg) (base:=base) d12.F
 have g_sortN:=kn d13.F g_sortsOf b11 d11.k m11
 have g_downs:=rY d14.F g_sortN b13 d13.k m13
 have g_ups:=vb d15.F g_sortN b13 d13.k m13
 have g_worths:=lN d16.F g_downs b14 d14.k m14 g_ups b15 d15.k m15
 have g_sortf:=jl (P:=l.prog) (w:=w) (mg:=mg) (base:=base) d17.F
 have g_parts:=nJ (P:=l.prog) (w:=w) (mg:=mg) (base:=base) d18.F
 have g_rules:=nI (P:=l.prog) (w:=w) (mg:=mg) (base:=base) d19.F
 have g_keys:=qh d20.F g_rules b19 d19.k m19
 have g_keyOf:=rV (P:=l.prog) (w:=w) (mg:=mg) (base:=base) d21.F
 have g_sortAt:=pY d22.F g_sortf b17 d17.k m17 g_parts b18 d18.k m18
 have g_byKey:=se d23.F g_rules b19 d19.k m19
 have g_byKey3:=qj d23.F g_rules b19 d19.k m19
 have g_due:=nR d24.F v15 g_downs b14 d14.k m14 g_ups b15 d15.k m15 g_sortf b17 d17.k m17 g_parts b18 d18.k m18
 have g_row:=rW (P:=l.prog) (w:=w) (mg:=mg) (base:=base) d26.F Gb0
 have g_rowW:=lO d27.F Gb0 g_row b26 d26.k m26 g_word b3 d3.k m3
 have g_wheel:=nN d28.F g_within b2 d2.k m2
 have g_ruleS:=ko d31.F g_row b26 d26.k m26 g_word b3 d3.k m3 g_whole b1 d1.k m1
 have g_sortS:=km d29.F j6 g_row b26 d26.k m26 g_word b3 d3.k m3 g_rowW b27 d27.k m27
 have g_formS:=kr d30.F Gb0 j8 g_row b26 d26.k m26 g_word b3 d3.k m3 g_rowW b27 d27.k m27 g_sortf b17 d17.k m17 g_parts b18 d18.k m18 g_rules b19 d19.k m19 g_ruleS b31 d31.k m31
 have g_shape:=lQ d25.F Gb0 j5 j7 g_row b26 d26.k m26 g_wheel b28 d28.k m28 g_wheelOf b10 d10.k m10 g_sortsOf b11 d11.k m11 g_forms b12 d12.k m12 g_sortS b29 d29.k m29 g_formS b30 d30.k m30
 have g_unlike:=pW (P:=l.prog) (w:=w) (mg:=mg) (base:=base) d33.F Gb0 v13
 have g_hasN:=lT d32.F Gb0 g_unlike b33 d33.k m33 g_sortsOf b11 d11.k m11 g_forms b12 d12.k m12 g_sortf b17 d17.k m17 g_parts b18 d18.k m18
 have g_told:=qi d35.F Gb0 g_keyOf b21 d21.k m21 g_parts b18 d18.k m18 g_sortAt b22 d22.k m22 g_worths b16 d16.k m16
 have g_hasF:=lU d34.F Gb0 g_byKey b23 d23.k m23 g_form b4 d4.k m4 g_reads b8 d8.k m8 g_told b35 d35.k m35
 have g_partsR:=kq d38.F g_reads b8 d8.k m8
 have g_levelF:=qg d37.F v14 g_tuples b7 d7.k m7 g_partsR b38 d38.k m38
 have g_level:=nP d36.F Gb0 v14 g_sortsOf b11 d11.k m11 g_forms b12 d12.k m12 g_byKey3 b23 d23.k m23 g_levelF b37 d37.k m37
 have g_why:=va d9.F Gb0 g_shape b25 d25.k m25 g_hasN b32 d32.k m32 g_forms b12 d12.k m12 g_keys b20 d20.k m20 g_due b24 d24.k m24 g_hasF b34 d34.k m34 g_wheelOf b10 d10.k m10 g_level b36 d36.k m36
 have g_cell:=ui (P:=l.prog) (w:=w) (base:=base) d39.F Gb0
 have g_tape:=tZ d40.F g_cell b39 d39.k m39
 have g_digit:=rZ (P:=l.prog) (w:=w) (mg:=mg) (base:=base) d41.F
 have g_names:=qc d42.F Gb0 g_digit b41 d41.k m41
 have g_number:=qa d43.F g_digit b41 d41.k m41
 have g_leaf:=fun ρ=>rR (ρ:=ρ) d44.F Gb0 g_digit b41 d41.k m41 g_number b43 d43.k m43
 have g_lwhole:=qd (P:=l.prog) (w:=w) (mg:=mg) (base:=base) d45.F Gb0
 have g_leafA:=FnOk.exA g_leaf
 have g_lvF:=rQ d53.F Gb0 g_digit b41 d41.k m41 g_leafA b44 d44.k m44 b53 m53 8
 have g_lvS:=nL d54.F Gb0 g_digit b41 d41.k m41 g_names b42 d42.k m42
 have g_lvB:=qe d55.F Gb0 g_digit b41 d41.k m41 g_lvF b53 d53.k m53 g_tape b40 d40.k m40 g_lvS b54 d54.k m54 g_names b42 d42.k m42
 have g_lreads:=qf (P:=l.prog) (w:=w) (mg:=mg) (base:=base) d47.F v11
 have g_partsIn:=nK d50.F g_lreads b47 d47.k m47
 have g_lvFIs:=rP d51.F g_partsIn b50 d50.k m50
 have g_lvIs:=ud d52.F g_lvFIs b51 d51.k m51
 have g_lword:=nM (P:=l.prog) (w:=w) (mg:=mg) (base:=base) d48.F Gb0
 have g_ltup:=oJ d49.F Gb0 v16 v17 b49 m49 g_lwhole b45 d45.k m45 g_lword b48 d48.k m48 22
 have g_same:=rN (P:=l.prog) (w:=w) (mg:=mg) (base:=base) d46.F Gb0 v11
 have g_more:=ua d56.F Gb0 g_digit b41 d41.k m41 g_ltup b49 d49.k m49
 have g_right:=pZ d57.F g_lvIs b52 d52.k m52 g_same b46 d46.k m46 g_why b9 d9.k m9
 exact vc F58 Gb0 v11 g_lvB b55 d55.k m55 g_right b57 d57.k m57 g_tape b40 d40.k m40 g_digit b41 d41.k m41 g_more b56 d56.k m56
theorem walk {l:PySem.W.OpenLaw} {q:Program} {loose:List Str} {XP:(Str->Option Value)->Heap->Prop} {YP:World->Heap->Prop} {d:DefRec} {K:Params->PySem.W.Frag} (hn:l.most=some 63) (hdf:d.params.defaults=[])
  (hY: ∀ (w:World) (h:Heap),YP w h->(K w.params).In h)
  (F: ∀ (w:World) (mg:Str->Option Value) (fa:Addr) (h:Heap),(K w.params).In h->h.Ns mainGlobals mg->mg d.name=some (.ref fa)->
   ∃ fd:FuncData,(∀ (s:Shared) (u:Value),BindsTo s fd ⟨[u],[]⟩ [("script",u)])/\ ∀ base:Heap,(K w.params).In base->base.Ns mainGlobals mg->FnOk l.prog w (K w.params) mg base CX0 26 fa fd ["script"] (oz (K w.params))):
  PySem.W.WalkO q loose XP YP l.row.toRowW d [] (fun f vs=>PySem.call f vs):=
 L2.walk_of (n:=63) (k:=26) (x:="script") (CX:=fun _=>CX0) (sp:=fun w=>oz (K w.params)) hn (by decide) hdf ⟨rfl,by decide,by decide⟩ hY F (fun _ _ a ns hl _ hS=>⟨a,ns,rfl,hS,hl,fun _=>rfl⟩) fun _ _ _ _ _ z=>z
end My
open PySem PySem.W PyProof.Rows
set_option maxRecDepth 100000 in
set_option maxHeartbeats 0 in
theorem PySem.Challenge.cw_boughworth_k10_level_or_not_holds : PySem.Challenge.rw_boughworth_k10_level_or_not.Holds := by
 refine My.parts.c My.parts.a0 My.parts.a1 My.parts.e0 My.parts.e1 My.parts.b0 My.parts.b1 ?_
 delta My.parts
 dsimp only
 k_fill
 refine My.walk (l:=PySem.Challenge.rw_boughworth_k10_level_or_not) rfl rfl (fun w h Y=>PySem.W.kIn_of Y) ?F
 case F=>
  intro w mg fa h KX G hmg
  refine' My.all_mk KX G hmg ?d1 ?d2 ?d3 ?d4 ?d5 ?d6 ?d7 ?d8 ?d9 ?d10 ?d11 ?d12 ?d13 ?d14 ?d15 ?d16 ?d17 ?d18 ?d19 ?d20 ?d21 ?d22 ?d23 ?d24 ?d25 ?d26 ?d27 ?d28 ?d29 ?d30 ?d31 ?d32 ?d33 ?d34 ?d35 ?d36 ?d37 ?d38 ?d39 ?d40 ?d41 ?d42 ?d43 ?d44 ?d45 ?d46 ?d47 ?d48 ?d49 ?d50 ?d51 ?d52 ?d53 ?d54 ?d55 ?d56 ?d57 ?d58 ?z1 ?z2 ?z3 ?z4 ?z5 ?z6 ?z7 ?z8 ?z9 ?z10 ?z11 ?z12 ?z13 ?z14 ?z15 ?z16 ?z17 ?i1 ?i2 ?i3 ?i4 ?i5 ?i6 ?i7 ?i8 ?aI ?lD ?e1 ?e2 ?e3 ?e4 ?e5 ?e6 ?nD ?aQ ?lR
  (case d1=>exact My.Df.of (by k_is) (by k_is) (by k_is) (by k_is))
  (case d2=>exact My.Df.of (by k_is) (by k_is) (by k_is) (by k_is))
  (case d3=>exact My.Df.of (by k_is) (by k_is) (by k_is) (by k_is))
  (case d4=>exact My.Df.of (by k_is) (by k_is) (by k_is) (by k_is))
  (case d5=>exact My.Df.of (by k_is) (by k_is) (by k_is) (by k_is))
  (case d6=>exact My.Df.of (by k_is) (by k_is) (by k_is) (by k_is))
  (case d7=>exact My.Df.of (by k_is) (by k_is) (by k_is) (by k_is))
  (case d8=>exact My.Df.of (by k_is) (by k_is) (by k_is) (by k_is))
  (case d9=>exact My.Df.of (by k_is) (by k_is) (by k_is) (by k_is))
  (case d10=>exact My.Df.of (by k_is) (by k_is) (by k_is) (by k_is))
  (case d11=>exact My.Df.of (by k_is) (by k_is) (by k_is) (by k_is))
  (case d12=>exact My.Df.of (by k_is) (by k_is) (by k_is) (by k_is))
  (case d13=>exact My.Df.of (by k_is) (by k_is) (by k_is) (by k_is))
  (case d14=>exact My.Df.of (by k_is) (by k_is) (by k_is) (by k_is))
  (case d15=>exact My.Df.of (by k_is) (by k_is) (by k_is) (by k_is))
  (case d16=>exact My.Df.of (by k_is) (by k_is) (by k_is) (by k_is))
  (case d17=>exact My.Df.of (by k_is) (by k_is) (by k_is) (by k_is))
  (case d18=>exact My.Df.of (by k_is) (by k_is) (by k_is) (by k_is))
  (case d19=>exact My.Df.of (by k_is) (by k_is) (by k_is) (by k_is))
  (case d20=>exact My.Df.of (by k_is) (by k_is) (by k_is) (by k_is))
  (case d21=>exact My.Df.of (by k_is) (by k_is) (by k_is) (by k_is))
  (case d22=>exact My.Df.of (by k_is) (by k_is) (by k_is) (by k_is))
  (case d23=>exact My.Df.of (by k_is) (by k_is) (by k_is) (by k_is))
  (case d24=>exact My.Df.of (by k_is) (by k_is) (by k_is) (by k_is))
  (case d25=>exact My.Df.of (by k_is) (by k_is) (by k_is) (by k_is))
  (case d26=>exact My.Df.of (by k_is) (by k_is) (by k_is) (by k_is))
  (case d27=>exact My.Df.of (by k_is) (by k_is) (by k_is) (by k_is))
  (case d28=>exact My.Df.of (by k_is) (by k_is) (by k_is) (by k_is))
  (case d29=>exact My.Df.of (by k_is) (by k_is) (by k_is) (by k_is))
  (case d30=>exact My.Df.of (by k_is) (by k_is) (by k_is) (by k_is))
  (case d31=>exact My.Df.of (by k_is) (by k_is) (by k_is) (by k_is))
  (case d32=>exact My.Df.of (by k_is) (by k_is) (by k_is) (by k_is))
  (case d33=>exact My.Df.of (by k_is) (by k_is) (by k_is) (by k_is))
  (case d34=>exact My.Df.of (by k_is) (by k_is) (by k_is) (by k_is))
  (case d35=>exact My.Df.of (by k_is) (by k_is) (by k_is) (by k_is))
  (case d36=>exact My.Df.of (by k_is) (by k_is) (by k_is) (by k_is))
  (case d37=>exact My.Df.of (by k_is) (by k_is) (by k_is) (by k_is))
  (case d38=>exact My.Df.of (by k_is) (by k_is) (by k_is) (by k_is))
  (case d39=>exact My.Df.of (by k_is) (by k_is) (by k_is) (by k_is))
  (case d40=>exact My.Df.of (by k_is) (by k_is) (by k_is) (by k_is))
  (case d41=>exact My.Df.of (by k_is) (by k_is) (by k_is) (by k_is))
  (case d42=>exact My.Df.of (by k_is) (by k_is) (by k_is) (by k_is))
  (case d43=>exact My.Df.of (by k_is) (by k_is) (by k_is) (by k_is))
  (case d44=>exact My.Df.of (by k_is) (by k_is) (by k_is) (by k_is))
  (case d45=>exact My.Df.of (by k_is) (by k_is) (by k_is) (by k_is))
  (case d46=>exact My.Df.of (by k_is) (by k_is) (by k_is) (by k_is))
  (case d47=>exact My.Df.of (by k_is) (by k_is) (by k_is) (by k_is))
  (case d48=>exact My.Df.of (by k_is) (by k_is) (by k_is) (by k_is))
  (case d49=>exact My.Df.of (by k_is) (by k_is) (by k_is) (by k_is))
  (case d50=>exact My.Df.of (by k_is) (by k_is) (by k_is) (by k_is))
  (case d51=>exact My.Df.of (by k_is) (by k_is) (by k_is) (by k_is))
  (case d52=>exact My.Df.of (by k_is) (by k_is) (by k_is) (by k_is))
  (case d53=>exact My.Df.of (by k_is) (by k_is) (by k_is) (by k_is))
  (case d54=>exact My.Df.of (by k_is) (by k_is) (by k_is) (by k_is))
  (case d55=>exact My.Df.of (by k_is) (by k_is) (by k_is) (by k_is))
  (case d56=>exact My.Df.of (by k_is) (by k_is) (by k_is) (by k_is))
  (case d57=>exact My.Df.of (by k_is) (by k_is) (by k_is) (by k_is))
  (case d58=>exact My.Df.of (by k_is) (by k_is) (by k_is) (by k_is))
  (case z1=>k_is)
  (case z2=>k_is)
  (case z3=>k_is)
  (case z4=>k_is)
  (case z5=>k_is)
  (case z6=>k_is)
  (case z7=>k_is)
  (case z8=>k_is)
  (case z9=>k_is)
  (case z10=>k_is)
  (case z11=>k_is)
  (case z12=>k_is)
  (case z13=>k_is)
  (case z14=>k_is)
  (case z15=>k_is)
  (case z16=>k_is)
  (case z17=>k_is)
  (case i1=>k_is)
  (case i2=>k_is)
  (case i3=>k_is)
  (case i4=>k_is)
  (case i5=>k_is)
  (case i6=>k_is)
  (case i7=>k_is)
  (case i8=>k_is)
  (case aI=>k_is)
  (case lD=>k_is)
  (case e1=>first | rfl | k_is)
  (case e2=>first | rfl | k_is)
  (case e3=>first | rfl | k_is)
  (case e4=>first | rfl | k_is)
  (case e5=>first | rfl | k_is)
  (case e6=>first | rfl | k_is)
  (case nD=>first | rfl | decide | k_is)
  (case aQ=>k_is)
  (case lR=>k_is)
